import PyProof.Rows.All
import Wide.All
import OpenK.AllK
import Wide.FinOn
import HandS.ForMost
import HandS.SetKeys
import HandS.SetFor
import HandS.Strs
import HandS.More
import HandS.Wide
import HandS.IsInst
import HandS.TupAny
import HandS.EndBits
import HandS.WideBits
import HandS.Lambda
import HandS.Nested
import HandS.Star
import HandS.Flow
import HandS.Small
import HandS.WordsExc
import HandS.Dict
import PyProof.ExcBaseAll.ValueError
import HandS.TryOnly
import HandS.ExcIs
import HandS.EndOwn
import PySem.Challenge.RW_prooffruit_k09_whole_worths_of_put_terms
set_option Elab.async false
set_option linter.all false
set_option maxRecDepth 100000
set_option maxHeartbeats 4000000
/-! Sets of texts, whatever the world's order of them is: set(), set(a list), add, sorted. -/
namespace Sx
open PySem PySem.Spec PyProof.Rows L2
/-- the text of an entry -/
def tx (e : Int × Value) : Str := match e.2 with
  | .str k _ => k
  | _ => Str.empty
def Ent (w : World) (e : Int × Value) : Prop := ∃ k tk, e = (hashStr w k, Value.str k tk)
/-- one text more -/
def ins (k : Str) (ks : List Str) : List Str := if k ∈ ks then ks else k :: ks
theorem ins_mem {k j : Str} {ks : List Str} : j ∈ ins k ks ↔ j = k ∨ j ∈ ks := by
  unfold ins
  split
  · rename_i h
    exact ⟨.inr, fun q => q.elim (fun e => e ▸ h) (fun q => q)⟩
  · exact List.mem_cons
theorem ins_nodup {k : Str} {ks : List Str} (h : ks.Nodup) : (ins k ks).Nodup := by
  unfold ins
  split
  · exact h
  · rename_i q
    exact List.nodup_cons.mpr ⟨q, h⟩
theorem ins_len {k : Str} {ks : List Str} : (ins k ks).length ≤ ks.length + 1 := by
  unfold ins
  split
  · omega
  · exact Nat.le_refl _
/-- the set's table: its rows are the texts ks, it can be walked -/
structure Rows (w : World) (es : Array (Int × Value)) (t : SetTable) (ks : List Str) : Prop where
  ent : ∀ e ∈ es.toList, Ent w e
  perm : (es.toList.map tx).Perm ks
  nd : ks.Nodup
  few : es.size < scanBound
  fit : t.fits es.size = true
  ris : Ris t.place.toList
  led : w.params.followText "set-order" = true ∨ t.led = true
def SetS (w : World) (h : Heap) (a : Addr) (ks : List Str) : Prop := ∃ o es ep t, h.get? a = some o ∧ o.ExactSet ∧ o.data = .set es ep t ∧ Rows w es t ks
section
variable {P : Program} {w : World} {h h' : Heap} {a : Addr} {ks : List Str} {es : Array (Int × Value)} {t : SetTable}
theorem SetS.stay (R : SetS w h a ks) (k : ∀ o, h.get? a = some o → h'.get? a = some o) : SetS w h' a ks := by
  obtain ⟨o, es, ep, t, ho, z⟩ := R
  exact ⟨o, es, ep, t, k o ho, z⟩
theorem Rows.size (r : Rows w es t ks) : es.size = ks.length := by
  have q := r.perm.length_eq
  rw [List.length_map, Array.length_toList] at q
  exact q
theorem ent_is {e : Int × Value} (g : Ent w e) (k : Str) : (PySem.strKind P w).is k e.2 = true ↔ tx e = k := by
  obtain ⟨j, tk, rfl⟩ := g
  show (j == k) = true ↔ j = k
  exact beq_iff_eq
theorem Rows.elems (r : Rows w es t ks) : ElemsOf (PySem.strKind P w) es.toList := by
  intro e he
  obtain ⟨k, tk, rfl⟩ := r.ent e he
  exact ⟨⟨k, strKind_is P w k tk, rfl⟩, rfl⟩
theorem Rows.mem (r : Rows w es t ks) (k : Str) : k ∈ ks ↔ ∃ e ∈ es.toList, (PySem.strKind P w).is k e.2 = true := by
  rw [← r.perm.mem_iff, List.mem_map]
  exact ⟨fun ⟨e, he, q⟩ => ⟨e, he, (ent_is (r.ent e he) k).2 q⟩, fun ⟨e, he, q⟩ => ⟨e, he, (ent_is (r.ent e he) k).1 q⟩⟩
theorem SetS.of (R : SetS w h a ks) : h.SetOf (PySem.strKind P w) a (fun k => decide (k ∈ ks)) ks.length := by
  obtain ⟨o, es, ep, t, ho, hx, hd, r⟩ := R
  exact ⟨o, es, ep, t, ho, hx, hd, r.elems, fun k => by rw [decide_eq_true_iff]; exact r.mem k, r.few, r.fit, r.size⟩
theorem rows_new (w : World) : Rows w #[] (.fresh 0 0 (!w.params.followText "set-order")) [] where
  ent := fun e he => by simp at he
  perm := List.Perm.refl _
  nd := List.nodup_nil
  few := by decide
  fit := rfl
  ris := List.Pairwise.nil
  led := by
    show _ ∨ (!w.params.followText "set-order") = true
    cases w.params.followText "set-order" with
    | true => exact .inl rfl
    | false => exact .inr rfl
end
section
variable {P : Program} {w : World} {A : Around} {E : Value → Shared → Prop} {s : Shared} {a : Addr} {ks : List Str}
/-- the table is stored, and laid anew where it is too full -/
theorem stored {gave : Bool → Sem Unit} (hg : ∀ (b : Bool) (z : Shared) (Y : Unit → Shared → Prop), Y () z → wpAny (model P w) A (gave b) Y E z)
    {o : Obj} {es0 es : Array (Int × Value)} {ep : Nat} {t0 t : SetTable} (ho : s.heap.get? a = some o) (hx : o.ExactSet) (hd : o.data = .set es0 ep t0) (r : Rows w es t ks) {dummy : Bool} {Z : Option Bool → Shared → Prop}
    (hZ : ∀ h', Heap.SameBut a s.heap h' → SetS w h' a ks → Z (some true) { s with heap := h' }) :
    wpAny (model P w) A (do
        storeSet a es t
        if (!dummy && t.tooFull) = true then do
            gave (relayAll t es (SetTable.grown es.size)).2.2
            storeSet a (relayAll t es (SetTable.grown es.size)).1 (relayAll t es (SetTable.grown es.size)).2.1
            pure (some true)
          else pure (some true)) Z E s := by
  have first := Heap.SameBut.update s.heap a (Obj.putSet es t)
  have o1 := store_at (es' := es) (t' := t) ho hd
  refine wpAny_bind (wpAny_storeSet_of ho hd ?_ (fits_of_scanBound r.few))
  by_cases full : (!dummy && t.tooFull) = true
  · rw [if_pos full]
    have r2 : Rows w (relayAll t es (SetTable.grown es.size)).1 (relayAll t es (SetTable.grown es.size)).2.1 ks := by
      have pm := relayAll_perm t es (SetTable.grown es.size)
      have sz : (relayAll t es (SetTable.grown es.size)).1.size = es.size := by
        have q := pm.length_eq
        rw [Array.length_toList, Array.length_toList] at q
        exact q
      exact ⟨fun e he => r.ent e (pm.mem_iff.mp he), (pm.map tx).trans r.perm, r.nd, Nat.lt_of_le_of_lt (Nat.le_of_eq sz) r.few, relayAll_fits _ _ _, relayAll_ris _ _ _, r.led.imp (fun z => z) fun z => (relayAll_led _ _ _).trans z⟩
    refine wpAny_bind (hg _ _ _ (wpAny_bind (wpAny_storeSet_of o1 rfl ?_ (fits_of_scanBound r2.few))))
    exact wpAny_pure (hZ _ (first.trans (Heap.SameBut.update _ a _)) ⟨_, _, _, _, store_at o1 rfl, hx, rfl, r2⟩)
  · rw [if_neg full]
    exact wpAny_pure (hZ _ first ⟨_, _, _, _, o1, hx, rfl, r⟩)
theorem plain_off {w : World} {es : Array (Int × Value)} {t : SetTable} {ks : List Str} (r : Rows w es t ks) : Rows w es { t with plain := false } ks :=
  ⟨r.ent, r.perm, r.nd, r.few, SetTable.fits_plain_off r.fit, r.ris, r.led⟩
/-- a text whose hash is known is added -/
theorem add_at {k : Str} {tk : Tok} {Z : Bool → Shared → Prop} (R : SetS w s.heap a ks) (room : ks.length + 1 < scanBound)
    (hZ : ∀ b h', Heap.SameBut a s.heap h' → SetS w h' a (ins k ks) → Z b { s with heap := h' }) : wpAny (model P w) A (setAddHashed a (.str k tk) (hashStr w k)) Z E s := by
  obtain ⟨o, es, ep, t, ho, hx, hd, r⟩ := R
  have hel : ElemsOf (PySem.strKind P w) es.toList := r.elems
  have hscan : byScan (Value.str k tk) es = true := byScan_of rfl r.few hel
  unfold setAddHashed setAddHashedIn
  refine wpAny_holding (wpAny_bind (wpAny_setState_of ho hd r.fit ?_))
  dsimp only
  rw [hscan]
  simp only [↓reduceIte]
  unfold setAddByScan
  refine wpAny_bind (wpAny_bind (wpAny_rule (wpAny_bind (wpAny_setScan_of (knd := PySem.strKind P w) (k := k) (strKind_is P w k tk) ho hd r.fit hel ?_))))
  cases found : List.findIdx? (fun e => (PySem.strKind P w).is k e.2) es.toList with
  | some j =>
    obtain ⟨lt, hit, _⟩ := List.findIdx?_eq_some_iff_getElem.mp found
    have there : k ∈ ks := (r.mem (P := P) k).2 ⟨_, List.getElem_mem lt, hit⟩
    refine wpAny_pure (wpAny_pure (hZ _ s.heap (Heap.SameBut.refl a s.heap) ⟨o, es, ep, t, ho, hx, hd, ?_⟩))
    unfold ins
    rw [if_pos there]
    exact r
  | none =>
    have away : k ∉ ks := fun z => by
      obtain ⟨e, he, hit⟩ := (r.mem (P := P) k).1 z
      have no := List.findIdx?_eq_none_iff.mp found e he
      rw [hit] at no
      cases no
    have pm0 := layNew_perm t es (hashStr w k) (.str k tk)
    rw [Array.toList_push] at pm0
    have pm := pm0.trans (List.perm_append_singleton (hashStr w k, Value.str k tk) es.toList)
    have r1 : Rows w (layNew t es (hashStr w k) (.str k tk)).1 (layNew t es (hashStr w k) (.str k tk)).2.1 (ins k ks) := by
      have sz : (layNew t es (hashStr w k) (.str k tk)).1.size = ks.length + 1 := by
        have q := pm.length_eq
        rw [Array.length_toList, List.length_cons, Array.length_toList, r.size] at q
        exact q
      refine ⟨fun e he => ?_, ?_, ins_nodup r.nd, Nat.lt_of_le_of_lt (Nat.le_of_eq sz) room, layNew_fits _ _ _ _, layNew_ris _ _ _ _ r.ris, r.led.imp (fun z => z) fun z => (layNew_led _ _ _ _).trans z⟩
      · rcases List.mem_cons.mp (pm.mem_iff.mp he) with z | z
        · exact ⟨k, tk, z⟩
        · exact r.ent e z
      · unfold ins
        rw [if_neg away]
        exact (pm.map tx).trans (List.Perm.cons k r.perm)
    have gw : ∀ (b : Bool) (z : Shared) (Y : Unit → Shared → Prop), Y () z → wpAny (model P w) A (match b with | true => rule "set.scan.the-table-gave-way" | false => pure ()) Y E z := by
      intro b z Y q
      cases b with
      | true => exact wpAny_rule q
      | false => exact wpAny_pure q
    have goal2 : ∀ h', Heap.SameBut a s.heap h' → SetS w h' a (ins k ks) → Z true { s with heap := h' } := fun h' sb r' => hZ true h' sb r'
    dsimp only
    change wpAny _ _ _ _ _ _
    generalize layNew t es (hashStr w k) (.str k tk) = L at r1 ⊢
    obtain ⟨es1, t1, dummy, gave⟩ := L
    dsimp only at r1 ⊢
    refine wpAny_bind (gw _ _ _ ?_)
    by_cases pl : t1.plain = true
    · rw [if_pos pl]
      refine wpAny_bind ?_
      rw [hashByValue_scannable 8 (show (Value.str k tk).scannable = true from rfl)]
      refine wpAny_pure ?_
      refine stored gw ho hx hd (ks := ins k ks) ?_ fun h' sb r' => wpAny_pure (goal2 h' sb r')
      split
      · exact r1
      · exact plain_off r1
    · rw [if_neg pl]
      refine wpAny_bind (wpAny_pure ?_)
      simp only [↓reduceIte]
      exact stored gw ho hx hd (ks := ins k ks) r1 fun h' sb r' => wpAny_pure (goal2 h' sb r')
end
/-- the texts of the first i are put in, one by one -/
def insAll (ks : List Str) : List Str → List Str
  | [] => ks
  | x :: r => insAll (ins x ks) r
theorem insAll_mem {j : Str} : ∀ (xs ks : List Str), j ∈ insAll ks xs ↔ j ∈ xs ∨ j ∈ ks
  | [], ks => by simp [insAll]
  | x :: r, ks => by
    rw [insAll, insAll_mem r, ins_mem, List.mem_cons]
    constructor
    · rintro (h | h | h)
      · exact .inl (.inr h)
      · exact .inl (.inl h)
      · exact .inr h
    · rintro ((h | h) | h)
      · exact .inr (.inl h)
      · exact .inl h
      · exact .inr (.inr h)
theorem insAll_len : ∀ (xs ks : List Str), (insAll ks xs).length ≤ ks.length + xs.length
  | [], ks => Nat.le_refl _
  | x :: r, ks => by
    have h1 := insAll_len r (ins x ks)
    have h2 := ins_len (k := x) (ks := ks)
    rw [insAll, List.length_cons]
    omega
section
variable {P : Program} {w : World} {A : Around} {E : Value → Shared → Prop} {s : Shared}
/-- set.update's own loop over a walk that yields texts -/
theorem feed_loop {I : Addr} {fp wr : List Addr} {G : Array GenState → Array GenState → Prop} {n : Nat} {Y : Nat → Value → Prop} {St : Nat → Shared → Prop} {Z : Result → Shared → Prop}
    (W : WalksS P w A.in1 I fp wr G n Y St) (S : Addr) (out : S ∉ fp) (texts : List Str) (hn : texts.length = n) (hb : n + 1 < scanBound) (hY : ∀ i v, Y i v → ∃ k tk, texts[i]? = some k ∧ v = .str k tk) :
    ∀ (left : Nat) (i : Nat) (ks : List Str) (s : Shared), i + left = n → St i s → SetS w s.heap S ks → ks.length ≤ i →
      (∀ s', Moved (S :: wr) G s s' → SetS w s'.heap S (insAll ks (texts.drop i)) → Z (.ok (.ret .none)) s') → codeAny (model P w) A (.builtin "set.update.loop" ⟨[.ref S, .ref I], []⟩) Z s := by
  have quietS : S ∉ wr := fun z => out (W.sub _ z)
  have more : ∀ b ∈ wr, b ∈ S :: wr := fun b hb => List.mem_cons_of_mem _ hb
  intro left
  induction left with
  | zero =>
    intro i ks s hi hst hS _ hZ
    have e0 : texts.drop i = [] := List.drop_eq_nil_of_le (by omega)
    rw [e0] at hZ
    have e1 : i = n := by omega
    rw [e1] at hst
    refine codeAny_builtin F.entry_set_update_loop ?_
    rw [Around.under_plainId F.plain_set_update_loop _]
    show wpAny _ A.in1 (pyNext (.ref I) >>= _) _ _ s
    refine wpAny_bind (W.done s _ _ hst fun s' mv => wpAny_pure (hZ s' (mv.mono more) (hS.stay fun o e => mv.heap S o quietS e)))
  | succ left ih =>
    intro i ks s hi hst hS hk hZ
    have lt : i < n := by omega
    refine codeAny_builtin F.entry_set_update_loop ?_
    rw [Around.under_plainId F.plain_set_update_loop _]
    show wpAny _ A.in1 (pyNext (.ref I) >>= _) _ _ s
    refine wpAny_bind (W.item i s _ _ lt hst fun v s1 hv hst1 mv => ?_)
    obtain ⟨k, tk, hk1, rfl⟩ := hY i v hv
    have hS1 : SetS w s1.heap S ks := hS.stay fun o e => mv.heap S o quietS e
    have ed : texts.drop i = k :: texts.drop (i + 1) := by
      obtain ⟨lt2, e2⟩ := List.getElem?_eq_some_iff.mp hk1
      rw [← e2]
      exact List.drop_eq_getElem_cons lt2
    rw [ed] at hZ
    show wpAny _ A.in1 (holding [Value.str k tk] (setAdd S (.str k tk)) >>= _) _ _ s1
    unfold setAdd
    refine wpAny_bind (wpAny_holding (wpAny_holding (wpAny_bind ((PySem.strKind P w).pyHash (k := k) (strKind_is P w k tk) ?_))))
    refine add_at (s := { s1 with toks := s1.toks + 1 }) hS1 (by omega) fun b h' sb hS2 => ?_
    refine wpAny_pure ⟨plainId_quiet F.plain_set_update_loop _, ih (i + 1) (ins k ks) _ (by omega) (W.frame _ s1 _ _ hst1 (Nat.le_succ _) fun c hc o e => ?_) hS2 ?_ fun s2 mv2 hS3 => ?_⟩
    · have away : c ≠ S := fun z => out (z ▸ hc)
      rw [sb.2 c away]
      exact e
    · have := ins_len (k := k) (ks := ks)
      omega
    · refine hZ s2 (Moved.trans W.gtrans ((mv.mono more).then_heap (Nat.le_succ _) fun c o hc e => ?_) mv2) hS3
      have away : c ≠ S := fun z => hc (z ▸ List.mem_cons_self)
      rw [sb.2 c away]
      exact e
/-- the empty set, as it is made -/
abbrev bare (w : World) : Obj := { cls := .type "set", dict := none, data := .set #[] 0 (.fresh 0 0 (!w.params.followText "set-order")) }
theorem bare_holds {h : Heap} {a : Addr} (ho : h.get? a = some (bare w)) : SetS w h a [] := ⟨_, _, _, _, ho, ⟨rfl, rfl, rfl⟩, rfl, rows_new w⟩
set_option maxHeartbeats 8000000 in
theorem set_of_list {l : Addr} {items : Array Value} (texts : List Str) {Z : Value → Shared → Prop} (hh : A.handled = none) (hl : s.heap.IsList l items) (ht : StrsAre items.toList texts) (hb : texts.length + 1 < scanBound)
    (hZ : ∀ (h' : Heap) (tk : Nat), SetS w h' s.heap.objs.size (insAll [] texts) → (∀ b o, s.heap.get? b = some o → h'.get? b = some o) → Z (.ref s.heap.objs.size) { s with heap := h', toks := tk }) :
    wpAny (model P w) A (call (.type "set") [.ref l]) Z E s := by
  have count : texts.length = items.size := by
    have q := StrsAre.len_eq ht
    rw [Array.length_toList] at q
    exact q.symm
  obtain ⟨c, tl, hmro⟩ := F.called_set.mro
  have made := F.called_set.made
  have sub := F.called_set.sub
  have noType := F.called_set.notType
  have can := F.called_set.canCreate
  have tcall := F.typeCall_set_1 (.ref l)
  refine wpAny_call (codeAny_of_tree ?_)
  show wpAny _ _ (callAny (.type "set") _) _ _ _
  refine wpAny_pure ⟨Code.quiet_builtin _ (by decide +kernel), codeAny_builtin F.entry_type_call ?_⟩
  rw [Around.under_plain (weight_type_call_type "set" [.ref l] []) rfl]
  repeat (any_goals (first | assumption | wp_step))
  refine codeAny_mono (code_set_led1 (.ref l) (E := E) (Q₁ := fun v z => v = .ref s.heap.objs.size ∧ z = { s with heap := s.heap.push (bare w) }) ⟨rfl, rfl⟩) fun r z hr => ?_
  match r, hr with
  | .error _, hr => exact hr
  | .ok .next, hr => exact hr.elim
  | .ok .brk, hr => exact hr.elim
  | .ok .cont, hr => exact hr.elim
  | .ok (.ret _), hr =>
    obtain ⟨rfl, rfl⟩ := hr
    have hS : (s.heap.push (bare w)).get? s.heap.objs.size = some (bare w) := Heap.get?_push_size _ rfl
    have isSet : Shared.TypeIs { s with heap := s.heap.push (bare w) } (.ref s.heap.objs.size) "set" := ⟨_, hS, rfl⟩
    have initL := F.called_set.init.lookup
    have initB := F.called_set.init.bind (.ref s.heap.objs.size)
    repeat (any_goals (first | assumption | wp_step))
    refine codeAny_mono (codeAny_call_builtin (R := wants (fun v z => v = .none ∧ ∃ h' tk, z = { s with heap := h', toks := tk } ∧ SetS w h' s.heap.objs.size (insAll [] texts) ∧ ∀ b o, s.heap.get? b = some o → h'.get? b = some o) E)
      F.called_set.init.plain F.entry_set_init (check_set_init_1 isSet ?_)) fun r z hr => ?_
    · have hl1 : (s.heap.push (bare w)).IsList l items := hl.push _
      obtain ⟨⟨_, dd, _, sl⟩, hol, rfl, nl, rfl⟩ := id hl
      have hol1 : (s.heap.push (bare w)).get? l = some ⟨.type "list", dd, .seq items nl, sl⟩ := Heap.get?_push_of_some _ hol
      have sub1 := F.sub_list_set
      have sub2 := F.sub_list_frozenset
      have unlike : (Value.type "list" == Value.type "dict") = false := by decide
      unfold Builtin.«set.__init__» noKeywords Builtin.Frozenset.updateFrom
      generalize hPI : pyIter = PI
      wp_walk
      subst hPI
      refine wpAny_pyIter_list hl1 (wpAny_bind (wpAny_runValue ?_))
      have old : l < s.heap.objs.size := Heap.lt_size hol
      have sz1 : (s.heap.push (bare w)).objs.size = s.heap.objs.size + 1 := Heap.size_push ..
      have apart : l ≠ (s.heap.push (bare w)).objs.size := by
        rw [sz1]
        exact Nat.ne_of_lt (Nat.lt_succ_of_lt old)
      have out : s.heap.objs.size ∉ [(s.heap.push (bare w)).objs.size, l] := by
        intro z
        rcases List.mem_cons.mp z with z | z
        · rw [sz1] at z
          omega
        · exact absurd old (by rw [← List.mem_singleton.mp z]; exact Nat.lt_irrefl _)
      have texty : ∀ (i : Nat) (v : Value), items[i]? = some v → ∃ k tk, texts[i]? = some k ∧ v = .str k tk := fun i v hv => by
        have hi : i < texts.length := by
          rw [count]
          exact (Array.getElem?_eq_some_iff.mp hv).1
        obtain ⟨tk, e⟩ := SS.strs_at ht i v (by rw [Array.getElem?_toList]; exact hv)
        refine ⟨texts[i], tk, List.getElem?_eq_getElem hi, ?_⟩
        rw [e, List.getD_eq_getElem?_getD, List.getElem?_eq_getElem hi]
        rfl
      have hh3 : A.in1.in1.in1.handled = none := by simp [hh]
      refine feed_loop ((Walks.list hh3 _ l apart items).toS) s.heap.objs.size out texts count (by rw [← count]; exact hb) texty items.size 0 [] _ (Nat.zero_add _) ⟨⟨_, Heap.get?_push_size _ rfl, rfl, rfl⟩, hl1.push _⟩
        (bare_holds (Heap.get?_push_of_some _ hS)) (Nat.le_refl _) fun s' mv hS' => ?_
      obtain ⟨h', g', d', tk', os'⟩ := s'
      have eg : g' = s.gens := mv.gens
      have ed : d' = s.drawn := mv.drawn
      have eo : os' = s.os := mv.os
      subst eg ed eo
      show wpAny _ _ _ _ _ _
      refine wpAny_pure ?_
      show wpAny _ _ (ret Value.none) _ _ _
      refine wpAny_pure ⟨rfl, h', tk', rfl, hS', fun b o e => ?_⟩
      have lt := Heap.lt_size e
      refine mv.heap b o (fun z => ?_) (Heap.get?_push_of_some _ (Heap.get?_push_of_some _ e))
      rcases List.mem_cons.mp z with z | z
      · rw [z] at lt
        exact Nat.lt_irrefl _ lt
      · have z2 := List.mem_singleton.mp z
        have lt2 : b < (s.heap.push (bare w)).objs.size := by
          rw [sz1]
          exact Nat.lt_succ_of_lt lt
        rw [z2] at lt2
        exact Nat.lt_irrefl _ lt2
    · match r, hr with
      | .error _, hr => exact hr
      | .ok .next, hr => exact hr.elim
      | .ok .brk, hr => exact hr.elim
      | .ok .cont, hr => exact hr.elim
      | .ok (.ret _), hr =>
        obtain ⟨rfl, h', tk, rfl, hS', keep⟩ := hr
        repeat (any_goals (first | assumption | wp_step))
        exact hZ _ _ hS' keep
/-- the texts of values that are texts -/
theorem texts_of : ∀ (vs : List Value), (∀ v ∈ vs, ∃ k tk, v = Value.str k tk) → ∃ ks, StrsAre vs ks ∧ ks = vs.map fun v => tx (0, v)
  | [], _ => ⟨[], .nil, rfl⟩
  | v :: vs, h => by
    obtain ⟨k, tk, rfl⟩ := h v List.mem_cons_self
    obtain ⟨ks, h1, h2⟩ := texts_of vs fun u hu => h u (List.mem_cons_of_mem _ hu)
    exact ⟨k :: ks, .cons k tk h1, by rw [h2]; rfl⟩
theorem sorted_of_set {a : Addr} {ks : List Str} {Z : Value → Shared → Prop} (R : SetS w s.heap a ks) (hh : A.handled = none) (few : ks.length < 64)
    (hZ : ∀ s' p (out : Array Value) (c : Nat) (ys : List Str), (∀ b o, s.heap.get? b = some o → s'.heap.get? b = some o) → s'.gens = s.gens → s'.os = s.os → s.heap.objs.size ≤ p →
      s'.heap.get? p = some (seqObj "list" out c) → StrsAre out.toList ys → ys.Perm ks → sortedS ys = true → Z (.ref p) s') :
    wpAny (model P w) A (call (.builtin "sorted") [.ref a]) Z E s := by
  obtain ⟨o, es, ep, t, ho, hx, hd, r⟩ := R
  refine Calls.call_function_entry kind_sorted plain_sorted entry_sorted (args_sorted1 _) ?_
  unfold Builtin.«sorted»
  refine wpAny_bind (m := checkCount "sorted" 1 1 _) (wpAny_pure ?_)
  refine wpAny_bind (collect_set (A := A.in1) hh ⟨o, ho, hx.1, hd⟩ r.fit r.few r.ris r.led fun s1 vs keep more g1 o1 pm => ?_)
  obtain ⟨texts, isT, eT⟩ := texts_of vs fun v hv => by
    obtain ⟨e, he, q⟩ := List.mem_map.mp (pm.mem_iff.mp hv)
    obtain ⟨k, tk, ee⟩ := r.ent e he
    exact ⟨k, tk, by rw [← q, ee]⟩
  have pT : texts.Perm ks := by
    refine List.Perm.trans ?_ r.perm
    rw [eT]
    have q := pm.map fun v => tx (0, v)
    rw [List.map_map] at q
    exact q
  have len : vs.length = ks.length := by
    rw [StrsAre.len_eq isT]
    exact pT.length_eq
  have line : vs.length ≤ sizeLine := by
    rw [len, sizeLine_eq]
    omega
  have hL : (s1.heap.push (seqObj "list" vs.toArray 0)).get? s1.heap.objs.size = some (seqObj "list" vs.toArray 0) := Heap.get?_push_size _ rfl
  refine wpAny_bind (wpAny_newList ?_ line)
  refine wpAny_bind (wpAny_holding (wpAny_call_entry slot_list_sort ⟨_, hL, rfl⟩ entry_list_sort (list_sort_treeK strKind_oneLt hL isT.keysOf (fun v₁ v₂ rest e => keyKind_strs (by rw [← e]; exact isT)) (by rw [len]; exact few) fun st hp hs => ?_) (args_list_sort _)))
  obtain ⟨ys, y1, y2, y3⟩ := sorted_out_str isT hp hs
  obtain ⟨c, hc⟩ := sortedHeap_at (vs := vs) (out := (arrOf st).map (·.2)) hL
  refine ⟨_, rfl, wpAny_pure ⟨_, rfl, hZ _ s1.heap.objs.size _ c ys (fun b u e => ?_) g1 o1 more hc y1 (y2.trans pT) y3⟩⟩
  have q := keep b u e
  have lt := Heap.lt_size q
  show (sortedHeap (s1.heap.push (seqObj "list" vs.toArray 0)) s1.heap.objs.size vs _).get? b = some u
  rw [sortedHeap_old (Nat.ne_of_lt lt) (by rw [Heap.size_push]; exact Nat.lt_succ_of_lt lt)]
  exact Heap.get?_push_of_some _ q
end
end Sx
set_option Elab.async false
set_option linter.all false
set_option maxRecDepth 100000
set_option maxHeartbeats 4000000
/-! The rules over sets of texts. -/
namespace Sx
open PySem PySem.Spec PyProof.Rows L2
/-- a set of the texts ks stands at a -/
def SetX (w : World) (a : Addr) (ks : List Str) : HO := .ext fun h => SetS w h a ks
section
variable {X : Cx}
theorem setX_new {w : World} {P : Program} {H : Hp} {h : Heap} {a : Addr} {ks : List Str} (R : SetS w h a ks) : ObjOk P w H h a (SetX w a ks) := by
  have ⟨o, _, _, _, ho, _⟩ := R
  exact ⟨R, ⟨o, ho⟩, fun _ _ r k => SetS.stay r k⟩
theorem setX_get {pins : List (Addr × Obj)} {σ : L2.St} {H : Hp} {s : Shared} {a : Addr} {ks : List Str} (I : Inv X pins σ H s) (e : H a = some (SetX X.w a ks)) : SetS X.w s.heap a ks := (I.hok a _ e).1
/-- set() -/
def rNewX (w : World) : List V → Hp → VK → Prop := fun xs H Q => xs = [] ∧ ∀ p, H p = none → Q (.ref p) (upd H p (SetX w p []))
theorem cr_newX : CallR X (.type "set") (rNewX X.w) := by
  intro pins s σ H xs us Q I r ⟨e, q⟩
  subst e
  cases r
  refine setR_new fun _ => ⟨.ref _, upd H s.heap.objs.size (SetX X.w s.heap.objs.size []), ?_, rfl, q _ (I.hok.fresh (Nat.le_refl _))⟩
  exact I.laid (t' := s.toks) (fun b u e => Heap.get?_push_of_some _ e) (Nat.le_refl _) (setX_new (bare_holds (Heap.get?_push_size _ rfl)))
/-- set(a list of texts) -/
def rOfX (K : PySem.W.Frag) (w : World) : List V → Hp → VK → Prop := fun xs H Q => ∃ (l : Addr) (texts : List Str), xs = [.ref l] ∧ SqL K H l (texts.map V.str) ∧ texts.length + 1 < scanBound ∧
  ∀ p, H p = none → Q (.ref p) (upd H p (SetX w p (insAll [] texts)))
theorem cr_ofX (hc : X.calm = true) : CallR X (.type "set") (rOfX X.K X.w) := by
  intro pins s σ H xs us Q I r ⟨l, texts, e, hq, few, q⟩
  subst e
  rw [Vals.ref1 r]
  obtain ⟨its, rv, pl, _⟩ := I.list hq
  refine set_of_list texts (I.ok.hd hc) pl.isList (by simpa using strsAre_of rv) few fun h' tk hS keep => ?_
  exact ⟨.ref _, upd H s.heap.objs.size (SetX X.w s.heap.objs.size (insAll [] texts)), I.laid (t' := tk) keep (Nat.le_refl _) (setX_new hS), rfl, q _ (I.hok.fresh (Nat.le_refl _))⟩
/-- found.add(text) -/
def rAddX (w : World) : V → List V → Hp → VK → Prop := fun x xs H Q => ∃ (a : Addr) (k : Str) (ks : List Str), x = V.ref a ∧ xs = [V.str k] ∧ H a = some (SetX w a ks) ∧ ks.length + 1 < scanBound ∧ Q .non (upd H a (SetX w a (ins k ks)))
theorem mt_addX : MtR X "set.add" (rAddX X.w) := by
  intro pins s σ H x xs v us Q I rx rxs ⟨a, k, ks, e1, e2, ha, room, q⟩
  subst e1 e2
  cases rx
  obtain ⟨u, rfl, tk, rfl⟩ := vals1 rxs
  have R := setX_get I ha
  refine wpAny_call_entry F.slot_set_add (R.of (P := X.prog)).typeIs F.entry_set_add ?_ (F.args_set_add_2 _ _)
  unfold Builtin.«set.add» Builtin.Frozenset.oneOther
  simp only [List.isEmpty_nil, bind_assoc]
  unfold Builtin.Frozenset.addrOf setAdd
  refine wpAny_bind (wpAny_pure ?_)
  try dsimp only
  refine wpAny_bind (wpAny_pure ?_)
  try dsimp only
  refine wpAny_bind (wpAny_holding (wpAny_bind ((PySem.strKind X.prog X.w).pyHash (strKind_is X.prog X.w k tk) ?_)))
  refine add_at (s := { s with toks := s.toks + 1 }) R room fun b h' sb new => ?_
  show wpAny _ _ (ret Value.none) _ _ _
  have there : ∃ u, h'.get? a = some u := by
    obtain ⟨o, _, _, _, ho, _⟩ := new
    exact ⟨o, ho⟩
  exact wpAny_pure ⟨_, rfl, .non, upd H a (SetX X.w a (ins k ks)), I.write (e := a) (t' := s.toks + 1) (by rw [ha]; trivial) (.inl rfl) (fun c u hc hu => (sb.2 c hc).trans hu) there (setX_new new), rfl, q⟩
def tAddX (w : World) (to : TE) (t : TA) : TE := fun σ H Q => to σ H fun x H1 => (∃ a ks, x = V.ref a ∧ H1 a = some (SetX w a ks)) ∧ t σ H1 fun xs H2 => rAddX w x xs H2 Q
theorem pe_addX {o e : Expr} {to : TE} {t : TA} {apos cpos : Pos} (ho : PE X o to) (ha : PA X [e] t)
    (h1 : attributeBase o "add" X.env (eval o X.env) = eval o X.env := by rfl)
    (h2 : ((backTo cpos (starEach [e] X.env)).all (fun x => !x.1) && (backToKw cpos (keywordEach [] X.env)).all (fun x => x.1.isSome) && decide ([e].length + ([] : List Keyword).length + (if ([] : List Keyword).isEmpty then 0 else 1) < 30)) = true := by rfl)
    (h3 : (apos.endLine == cpos.line) = true := by rfl) (h4 : starEach [e] X.env = (false, eval e X.env) :: starEach [] X.env := by rfl) (h5 : (backTo cpos (starEach [] X.env)).any (·.1) = false := by rfl) :
    PE X (.Call (.Attribute o "add" apos) [e] [] cpos) (tAddX X.w to t) := by
  refine ⟨fun pins s σ H Q I h => wpAny_Call_method_late h1 h2 h3 rfl (thn (ho.run pins s σ H _ I h) fun v s1 ⟨x, H1, I1, r1, ⟨a, ks, ex, hka⟩, q1⟩ => ?_)⟩
  subst ex
  cases r1
  have R := (setX_get I1 hka).of (P := X.prog)
  have run := ha.run cpos pins s1 σ H1 _ I1 q1
  refine ⟨"set", "set.add", F.plainAttrs_set, F.slot_set_add, F.type_set_add, R.typeIs, R.noDict, ?_⟩
  rw [h4] at run ⊢
  refine Calls.callWith_builtin (by show (false || (backTo cpos (starEach [] X.env)).any (·.1)) = false; rw [h5]; rfl) (Calls.evalArgs_plain (thn run fun us s2 ⟨vs, H2, I2, r2, q2⟩ => ?_))
  exact mt_addX pins s2 σ H2 (.ref a) vs (.ref a) us Q I2 rfl r2 q2
/-- sorted(a set of texts) -/
def rSortX (w : World) : List V → Hp → VK → Prop := fun vs H Q => ∃ (a : Addr) (ks : List Str), vs = [V.ref a] ∧ H a = some (SetX w a ks) ∧ ks.length < 64 ∧
  ∀ (ys : List Str) (p : Addr), ys.Perm ks → ys.Nodup → sortedS ys = true → H p = none → Q (.ref p) (upd H p (.lst (ys.map V.str)))
theorem cr_sortX (hc : X.calm = true) : CallR X (.builtin "sorted") (rSortX X.w) := by
  intro pins s σ H vs us Q I r ⟨a, ks, e, ha, few, q⟩
  subst e
  rw [Vals.ref1 r]
  have R := setX_get I ha
  have nd : ks.Nodup := by
    obtain ⟨_, _, _, _, _, _, _, rows⟩ := R
    exact rows.nd
  refine sorted_of_set R (I.ok.hd hc) few fun s' p out c ys keep g1 o1 old hp y1 y2 y3 => ?_
  have line : (ys.map V.str).length ≤ sizeLine := by
    rw [List.length_map, y2.length_eq]
    exact small64 few
  have free : H p = none := I.hok.fresh old
  have J : Inv X pins σ (upd H p (.lst (ys.map V.str))) { s with heap := s'.heap, gens := s'.gens, drawn := s'.drawn, toks := s'.toks } :=
    I.call (ch := []) (Un.laid keep old free) (I.hok.laid keep old ⟨line, out.toList, c, vals_of_strs y1, hp⟩) (by rw [g1]; exact I.bare) (fun _ z => nomatch z)
  have back : s' = { s with heap := s'.heap, gens := s'.gens, drawn := s'.drawn, toks := s'.toks } := by
    cases s'
    cases s
    cases o1
    rfl
  rw [back]
  exact ⟨.ref p, _, J, rfl, q ys p y2 (y2.nodup_iff.mpr nd) y3 free⟩
end
end Sx
set_option Elab.async false
set_option linter.all false
set_option maxRecDepth 100000
set_option maxHeartbeats 4000000
/-! Trees, heaps: what the defs of these laws share. -/
namespace Kf
open PySem PySem.Spec PyProof.Rows L2 Sx
/-! ### lists, pair by pair -/
inductive All2 {α β : Type} (F : α → β → Prop) : List α → List β → Prop
  | nil : All2 F [] []
  | cons {a : α} {b : β} {l : List α} {m : List β} : F a b → All2 F l m → All2 F (a :: l) (b :: m)
section
variable {α β : Type} {F G : α → β → Prop}
theorem All2.len : ∀ {l : List α} {m : List β}, All2 F l m → l.length = m.length
  | _, _, .nil => rfl
  | _, _, .cons _ t => congrArg Nat.succ t.len
theorem All2.app : ∀ {l l2 : List α} {m m2 : List β}, All2 F l m → All2 F l2 m2 → All2 F (l ++ l2) (m ++ m2)
  | _, _, _, _, .nil, h => h
  | _, _, _, _, .cons r t, h => .cons r (t.app h)
theorem All2.mono (f : ∀ a b, F a b → G a b) : ∀ {l : List α} {m : List β}, All2 F l m → All2 G l m
  | _, _, .nil => .nil
  | _, _, .cons r t => .cons (f _ _ r) (t.mono f)
theorem All2.one {a : α} {b : β} (h : F a b) : All2 F [a] [b] := .cons h .nil
theorem All2.rev : ∀ {l : List α} {m : List β}, All2 F l m → All2 F l.reverse m.reverse
  | _, _, .nil => .nil
  | _, _, .cons r t => by
    rw [List.reverse_cons, List.reverse_cons]
    exact t.rev.app (.one r)
theorem All2.last {l : List α} {m : List β} {y : β} (h : All2 F l (m ++ [y])) : ∃ k x, l = k ++ [x] ∧ All2 F k m ∧ F x y := by
  have q := h.rev
  rw [List.reverse_append, List.reverse_singleton, List.singleton_append] at q
  generalize hr : l.reverse = r at q
  cases q with
  | @cons x _ k _ r t =>
    have t2 := t.rev
    rw [List.reverse_reverse] at t2
    refine ⟨k.reverse, x, ?_, t2, r⟩
    have e := congrArg List.reverse hr
    rw [List.reverse_reverse, List.reverse_cons] at e
    exact e
theorem All2.get : ∀ {l : List α} {m : List β} {i : Nat} {y : β}, All2 F l m → m[i]? = some y → ∃ x, l[i]? = some x ∧ F x y
  | _, _, _, _, .nil, h => by simp at h
  | _, _, 0, _, .cons r _, h => ⟨_, rfl, (Option.some.inj h) ▸ r⟩
  | _, _, i + 1, _, .cons _ t, h => t.get (i := i) (by simpa using h)
end
/-! ### heaps -/
/-- all but what stands at f is as it was -/
def But (f : Addr) (H H' : Hp) : Prop := ∀ b o, b ≠ f → H b = some o → H' b = some o
/-- all tuples stand -/
def Tups (H H' : Hp) : Prop := ∀ b xs, H b = some (.tup xs) → H' b = some (.tup xs)
section
variable {f : Addr} {H H1 H2 : Hp} {p : Addr} {o : HO}
theorem But.refl (f : Addr) (H : Hp) : But f H H := fun _ _ _ e => e
theorem But.trans (a : But f H H1) (b : But f H1 H2) : But f H H2 := fun c u n e => b c u n (a c u n e)
theorem but_same (a : Same H H1) : But f H H1 := fun c u _ e => a c u e
theorem But.new (a : But f H H1) (h : H1 p = none) : But f H (upd H1 p o) := fun c u n e => by
  have q := a c u n e
  rw [upd_ne (ne_of_none q h)]
  exact q
theorem But.own (a : But f H H1) : But f H (upd H1 f o) := fun c u n e => by
  rw [upd_ne n]
  exact a c u n e
theorem same_new (h : H p = none) : Same H (upd H p o) := fun b u q => by
  rw [upd_ne (ne_of_none q h)]
  exact q
theorem same_put (s : Same H H1) (h : H1 p = none) : Same H (upd H1 p o) := fun b u q => by
  rw [upd_ne (ne_of_none (s b u q) h)]
  exact s b u q
theorem Tups.refl (H : Hp) : Tups H H := fun _ _ e => e
theorem Tups.trans (a : Tups H H1) (b : Tups H1 H2) : Tups H H2 := fun c u e => b c u (a c u e)
theorem tups_same (a : Same H H1) : Tups H H1 := fun c u e => a c _ e
theorem But.tups {xs : List V} (a : But f H H1) (h : H f = some (.lst xs)) : Tups H H1 := fun c u e => a c _ (fun z => by
  rw [z, h] at e
  cases e) e
theorem tups_put (h : ∀ xs, H p ≠ some (.tup xs)) : Tups H (upd H p o) := fun c u e => by
  rw [upd_ne (fun z => h u (by rw [← z]; exact e))]
  exact e
end
/-! ### trees -/
inductive Tr where
  | leaf (w : Str) (x : V)
  | n0 (w : Str)
  | n1 (w : Str) (a : Tr)
  | n2 (w : Str) (a b : Tr)
abbrev leafVs : List V := [.str "num", .str "name", .str "bound"]
abbrev bindVs : List V := [.str "all", .str "some"]
def leafy (w : Str) : Bool := inV (.str w) leafVs
def binds (w : Str) : Bool := inV (.str w) bindVs
/-- how many stand around the parts -/
def inner (w : Str) (r : Nat) : Nat := if binds w = true then r + 1 else r
def Tr.word : Tr → Str
  | .leaf w _ => w
  | .n0 w => w
  | .n1 w _ => w
  | .n2 w _ _ => w
def Tr.kids : Tr → List Tr
  | .leaf _ _ => []
  | .n0 _ => []
  | .n1 _ a => [a]
  | .n2 _ a b => [a, b]
/-- the tree t is the value v -/
def At (H : Hp) : Tr → V → Prop
  | .leaf w x, v => ∃ p, v = .ref p ∧ H p = some (.tup [.str w, x])
  | .n0 w, v => ∃ p, v = .ref p ∧ H p = some (.tup [.str w])
  | .n1 w a, v => ∃ p y, v = .ref p ∧ H p = some (.tup [.str w, y]) ∧ At H a y
  | .n2 w a b, v => ∃ p y z, v = .ref p ∧ H p = some (.tup [.str w, y, z]) ∧ At H a y ∧ At H b z
theorem At.keep {H H' : Hp} (k : Tups H H') : ∀ {t : Tr} {v : V}, At H t v → At H' t v
  | .leaf _ _, _, ⟨p, e, h⟩ => ⟨p, e, k _ _ h⟩
  | .n0 _, _, ⟨p, e, h⟩ => ⟨p, e, k _ _ h⟩
  | .n1 _ _, _, ⟨p, y, e, h, a⟩ => ⟨p, y, e, k _ _ h, a.keep k⟩
  | .n2 _ _ _, _, ⟨p, y, z, e, h, a, b⟩ => ⟨p, y, z, e, k _ _ h, a.keep k, b.keep k⟩
/-- leaves by their words -/
def Tr.Ok : Tr → Prop
  | .leaf w x => leafy w = true ∧ ((∃ i, x = .int i) ∧ w ≠ "name" ∨ (∃ z, x = .str z) ∧ w = "name")
  | .n0 w => leafy w = false
  | .n1 w a => leafy w = false ∧ a.Ok
  | .n2 w a b => leafy w = false ∧ a.Ok ∧ b.Ok
/-- how far within one another -/
def Tr.deep : Tr → Nat
  | .leaf _ _ => 1
  | .n0 _ => 1
  | .n1 _ a => a.deep + 1
  | .n2 _ a b => max a.deep b.deep + 1
def Tr.size : Tr → Nat
  | .leaf _ _ => 1
  | .n0 _ => 1
  | .n1 _ a => a.size + 1
  | .n2 _ a b => a.size + b.size + 1
theorem size_deep : ∀ t : Tr, t.size + 1 ≤ 2 ^ t.deep
  | .leaf _ _ => Nat.le_refl _
  | .n0 _ => Nat.le_refl _
  | .n1 _ a => by
    have h := size_deep a
    have p : 2 ^ (a.deep + 1) = 2 ^ a.deep * 2 := Nat.pow_succ _ _
    show a.size + 1 + 1 ≤ 2 ^ (a.deep + 1)
    omega
  | .n2 _ a b => by
    have h := size_deep a
    have h2 := size_deep b
    have p : 2 ^ (max a.deep b.deep + 1) = 2 ^ (max a.deep b.deep) * 2 := Nat.pow_succ _ _
    have q1 : 2 ^ a.deep ≤ 2 ^ (max a.deep b.deep) := Nat.pow_le_pow_right (by decide) (Nat.le_max_left _ _)
    have q2 : 2 ^ b.deep ≤ 2 ^ (max a.deep b.deep) := Nat.pow_le_pow_right (by decide) (Nat.le_max_right _ _)
    show a.size + b.size + 1 + 1 ≤ 2 ^ (max a.deep b.deep + 1)
    omega
def Tr.names : Tr → List Str
  | .leaf w x => if w = "name" then (match x with | .str z => [z] | _ => []) else []
  | .n0 _ => []
  | .n1 _ a => a.names
  | .n2 _ a b => a.names ++ b.names
theorem names_size : ∀ t : Tr, t.names.length ≤ t.size
  | .leaf w x => by
    show (if w = "name" then (match x with | .str z => [z] | _ => []) else ([] : List Str)).length ≤ 1
    split
    · cases x <;> simp
    · simp
  | .n0 _ => Nat.zero_le _
  | .n1 _ a => Nat.le_succ_of_le (names_size a)
  | .n2 _ a b => by
    have h1 := names_size a
    have h2 := names_size b
    show (a.names ++ b.names).length ≤ a.size + b.size + 1
    rw [List.length_append]
    omega
/-! ### the pieces, parts ahead of the whole, from the left; each with how many all and some stand around it -/
def Tr.post : Tr → Nat → List (Tr × Nat)
  | .leaf w x, r => [(.leaf w x, r)]
  | .n0 w, r => [(.n0 w, r)]
  | .n1 w a, r => a.post (inner w r) ++ [(.n1 w a, r)]
  | .n2 w a b, r => a.post (inner w r) ++ b.post (inner w r) ++ [(.n2 w a b, r)]
theorem post_len : ∀ (t : Tr) (r : Nat), (t.post r).length = t.size
  | .leaf _ _, _ => rfl
  | .n0 _, _ => rfl
  | .n1 w a, r => by
    show (a.post _ ++ [_]).length = a.size + 1
    rw [List.length_append, post_len a]
    rfl
  | .n2 w a b, r => by
    show (a.post _ ++ b.post _ ++ [_]).length = a.size + b.size + 1
    rw [List.length_append, List.length_append, post_len a, post_len b]
    rfl
theorem post_kids (t : Tr) (r : Nat) : t.post r = (t.kids.flatMap fun a => a.post (inner t.word r)) ++ [(t, r)] := by
  cases t with
  | leaf w x => rfl
  | n0 w => rfl
  | n1 w a => simp [Tr.post, Tr.kids, Tr.word]
  | n2 w a b => simp [Tr.post, Tr.kids, Tr.word]
/-- what a whole list of pieces has for names -/
def leafName : Tr → List Str
  | .leaf w x => Tr.names (.leaf w x)
  | _ => []
theorem post_names : ∀ (t : Tr) (r : Nat), ((t.post r).flatMap fun (e : Tr × Nat) => leafName e.1) = t.names
  | .leaf w x, r => by simp [Tr.post, leafName]
  | .n0 w, r => by simp [Tr.post, leafName, Tr.names]
  | .n1 w a, r => by
    show ((a.post _ ++ [_]).flatMap fun (e : Tr × Nat) => leafName e.1) = a.names
    rw [List.flatMap_append, post_names a]
    simp [leafName]
  | .n2 w a b, r => by
    show ((a.post _ ++ b.post _ ++ [_]).flatMap fun (e : Tr × Nat) => leafName e.1) = a.names ++ b.names
    rw [List.flatMap_append, List.flatMap_append, post_names a, post_names b]
    simp [leafName]
theorem post_ok : ∀ (t : Tr) (r : Nat), t.Ok → ∀ e ∈ t.post r, e.1.Ok
  | .leaf w x, r, h, e, he => by
    rw [List.mem_singleton.mp he]
    exact h
  | .n0 w, r, h, e, he => by
    rw [List.mem_singleton.mp he]
    exact h
  | .n1 w a, r, h, e, he => by
    rcases List.mem_append.mp he with z | z
    · exact post_ok a _ h.2 e z
    · rw [List.mem_singleton.mp z]
      exact h
  | .n2 w a b, r, h, e, he => by
    rcases List.mem_append.mp he with z | z
    · rcases List.mem_append.mp z with z | z
      · exact post_ok a _ h.2.1 e z
      · exact post_ok b _ h.2.2 e z
    · rw [List.mem_singleton.mp z]
      exact h
theorem no_leaf {w : Str} (h : leafy w = false) (z : leafy w = true) : False := by
  rw [h] at z
  cases z
/-- a tree's own tuple -/
theorem At.view {H : Hp} {t : Tr} {v : V} (h : At H t v) (ok : t.Ok) : ∃ p vs, v = .ref p ∧ H p = some (.tup (.str t.word :: vs)) ∧ vs.length ≤ 2 ∧ (leafy t.word = false → All2 (At H) t.kids vs) ∧ (leafy t.word = true → ∃ x, t = .leaf t.word x ∧ vs = [x]) := by
  cases t with
  | leaf w x =>
    obtain ⟨p, e, h⟩ := h
    exact ⟨p, [x], e, h, Nat.le_succ 1, fun z => (no_leaf z ok.1).elim, fun _ => ⟨x, rfl, rfl⟩⟩
  | n0 w =>
    obtain ⟨p, e, h⟩ := h
    exact ⟨p, [], e, h, Nat.zero_le 2, fun _ => .nil, fun z => (no_leaf ok z).elim⟩
  | n1 w a =>
    obtain ⟨p, y, e, h, ha⟩ := h
    exact ⟨p, [y], e, h, Nat.le_succ 1, fun _ => .one ha, fun z => (no_leaf ok.1 z).elim⟩
  | n2 w a b =>
    obtain ⟨p, y, z, e, h, ha, hb⟩ := h
    exact ⟨p, [y, z], e, h, Nat.le_refl 2, fun _ => .cons ha (.one hb), fun q => (no_leaf ok.1 q).elim⟩
theorem kids_ok {t : Tr} (ok : t.Ok) : ∀ a ∈ t.kids, a.Ok := by
  cases t with
  | leaf w x => intro a h; cases h
  | n0 w => intro a h; cases h
  | n1 w a =>
    intro c h
    rw [List.mem_singleton.mp h]
    exact ok.2
  | n2 w a b =>
    intro c h
    rcases List.mem_cons.mp h with z | z
    · rw [z]
      exact ok.2.1
    · rw [List.mem_singleton.mp z]
      exact ok.2.2
/-! ### sorted lists of texts -/
theorem nodup_le : ∀ (ks ms : List Str), ks.Nodup → (∀ k ∈ ks, k ∈ ms) → ks.length ≤ ms.length
  | [], _, _, _ => Nat.zero_le _
  | k :: r, ms, nd, h => by
    obtain ⟨n1, n2⟩ := List.nodup_cons.mp nd
    have hk : k ∈ ms := h k List.mem_cons_self
    have q := nodup_le r (ms.erase k) n2 fun j hj => (List.mem_erase_of_ne (fun z : j = k => n1 (z ▸ hj))).mpr (h j (List.mem_cons_of_mem _ hj))
    rw [List.length_erase_of_mem hk] at q
    have pos : 0 < ms.length := List.length_pos_of_mem hk
    rw [List.length_cons]
    omega
def Le (a b : Str) : Prop := ltCps b.cps.toList a.cps.toList = false
theorem rising_pairs : ∀ (p : Str) (l : List Str), risingS p l = true → (∀ (a b c : Str), Le a b → Le b c → Le a c) → (p :: l).Pairwise Le
  | p, [], _, _ => List.pairwise_singleton _ _
  | p, x :: r, h, tr => by
    have h' : (!ltCps x.cps.toList p.cps.toList && risingS x r) = true := h
    rw [Bool.and_eq_true] at h'
    have q := rising_pairs x r h'.2 tr
    have px : Le p x := by
      unfold Le
      simpa using h'.1
    refine List.pairwise_cons.mpr ⟨fun y hy => ?_, q⟩
    rcases List.mem_cons.mp hy with z | z
    · rw [z]
      exact px
    · exact tr _ _ _ px (List.rel_of_pairwise_cons q z)
theorem le_iff (a b : Str) : Le a b ↔ a.cps.toList ≤ b.cps.toList := by
  unfold Le
  rw [ltCps_eq]
  simp
theorem le_trans3 (a b c : Str) (h1 : Le a b) (h2 : Le b c) : Le a c := by
  rw [le_iff] at *
  exact List.le_trans h1 h2
theorem le_anti (a b : Str) (h1 : Le a b) (h2 : Le b a) : a = b := by
  rw [le_iff] at *
  have q := List.le_antisymm h1 h2
  cases a with
  | mk x =>
    cases b with
    | mk y =>
      have q' : x.toList = y.toList := q
      rw [Array.toList_inj.mp q']
theorem one_order : ∀ (l m : List Str), l.Pairwise Le → m.Pairwise Le → l.Nodup → m.Nodup → (∀ x, x ∈ l ↔ x ∈ m) → l = m
  | [], [], _, _, _, _, _ => rfl
  | [], y :: m, _, _, _, _, h => by
    have := (h y).2 List.mem_cons_self
    cases this
  | x :: l, [], _, _, _, _, h => by
    have := (h x).1 List.mem_cons_self
    cases this
  | x :: l, y :: m, pl, pm, nl, nm, h => by
    obtain ⟨l1, l2⟩ := List.pairwise_cons.mp pl
    obtain ⟨m1, m2⟩ := List.pairwise_cons.mp pm
    obtain ⟨k1, k2⟩ := List.nodup_cons.mp nl
    obtain ⟨j1, j2⟩ := List.nodup_cons.mp nm
    have exy : x = y := by
      rcases List.mem_cons.mp ((h x).1 List.mem_cons_self) with z | z
      · exact z
      · rcases List.mem_cons.mp ((h y).2 List.mem_cons_self) with q | q
        · exact q.symm
        · exact le_anti _ _ (l1 y q) (m1 x z)
    subst exy
    rw [one_order l m l2 m2 k2 j2 fun z => ?_]
    constructor
    · intro hz
      rcases List.mem_cons.mp ((h z).1 (List.mem_cons_of_mem _ hz)) with e | e
      · exact absurd (e ▸ hz) k1
      · exact e
    · intro hz
      rcases List.mem_cons.mp ((h z).2 (List.mem_cons_of_mem _ hz)) with e | e
      · exact absurd (e ▸ hz) j1
      · exact e
theorem sorted_pairs : ∀ l : List Str, sortedS l = true → l.Pairwise Le
  | [], _ => List.Pairwise.nil
  | x :: r, h => rising_pairs x r h le_trans3
end Kf
set_option Elab.async false
set_option linter.all false
set_option maxRecDepth 100000
set_option maxHeartbeats 4000000
/-! The defs by which the law makes its inputs. -/
namespace Kf
open PySem PySem.Spec PyProof.Rows L2 Sx
def top (i : Nat) : Stmt := PySem.Challenge.pw_prooffruit_k09_whole_worths_of_put_terms.main.body.getD i (.Pass ⟨0, 0, 0, 0⟩)
abbrev sFeed : Stmt := top 17
abbrev sTake : Stmt := top 18
abbrev sPick : Stmt := top 19
abbrev sLeaf : Stmt := top 20
theorem scFeed : FnScope ["script", "k", "seed", "digits"] ["script", "k"] (defScope sFeed) := ⟨rfl, rfl, rfl, by decide +kernel, rfl, by decide +kernel, by decide +kernel⟩
theorem scTake : FnScope ["feed", "many", "found"] ["feed", "many"] (defScope sTake) := ⟨rfl, rfl, rfl, by decide +kernel, rfl, by decide +kernel, by decide +kernel⟩
theorem scPick : FnScope ["feed", "some"] ["feed", "some"] (defScope sPick) := ⟨rfl, rfl, rfl, by decide +kernel, rfl, by decide +kernel, by decide +kernel⟩
theorem scLeaf : FnScope ["feed", "names", "around", "way"] ["feed", "names", "around"] (defScope sLeaf) := ⟨rfl, rfl, rfl, by decide +kernel, rfl, by decide +kernel, by decide +kernel⟩
/-- the feed at f: two numbers, the second below 2 ^ 61 - 1 -/
def FeedAt (H : Hp) (f : Addr) : Prop := ∃ a b : Int, H f = some (.lst [.int a, .int b]) ∧ 0 ≤ b ∧ b < 2305843009213693951
theorem FeedAt.keep {H H' : Hp} {f g : Addr} (h : FeedAt H f) (n : f ≠ g) (b : But g H H') : FeedAt H' f := by
  obtain ⟨x, y, e, q⟩ := h
  exact ⟨x, y, b _ _ n e, q⟩
theorem FeedAt.same {H H' : Hp} {f : Addr} (h : FeedAt H f) (b : Same H H') : FeedAt H' f := by
  obtain ⟨x, y, e, q⟩ := h
  exact ⟨x, y, b _ _ e, q⟩
theorem FeedAt.tups {H H' : Hp} {f : Addr} (h : FeedAt H f) (b : But f H H') : Tups H H' := by
  obtain ⟨x, y, e, q⟩ := h
  exact b.tups e
/-- a list of the call's own -/
theorem FeedAt.ne {H : Hp} {f p : Addr} (h : FeedAt H f) (e : H p = none) : p ≠ f := fun z => by
  obtain ⟨x, y, e2, q⟩ := h
  rw [z, e2] at e
  cases e
section
variable {P : Program} {w : World} {K : PySem.W.Frag} {mg : Str → Option Value} {base : Heap}
/-! ### _law_feed -/
def spFeed (K : PySem.W.Frag) : Sp := fun vs H Q _ => ∃ (a : Addr) (ns : List Int) (k : Nat), vs = [.ref a, .int (k : Int)] ∧ SqL K H a (ns.map V.int) ∧ (∀ z ∈ ns, Builtin.Int.intBits z ≤ 1048576) ∧ k ≤ 100 ∧
  ∀ p H', Same H H' → H p = none → FeedAt H' p → Q (.ref p) H'
theorem notM : (2305843009213693951 : Int) ≠ 0 := by decide
theorem modM (i : Int) : 0 ≤ i.fmod 2305843009213693951 ∧ i.fmod 2305843009213693951 < 2305843009213693951 := by
  rw [Int.fmod_eq_emod_of_nonneg _ (by decide)]
  exact ⟨Int.emod_nonneg _ (by decide), Int.emod_lt_of_pos _ (by decide)⟩
theorem seed_ok {z : Int} (h : Builtin.Int.intBits z ≤ 1048576) : CMulX z 6364136223846793005 := by
  unfold CMulX
  have e : Builtin.Int.intBits 6364136223846793005 = 63 := by decide +kernel
  rw [e]
  omega
theorem ok_feed {f : Addr} {fd : FuncData} {j : Nat} (F : Fun K "_law_feed" "_law_feed" sFeed f fd) (ml : mg "len" = none) (ma : mg "abs" = none) : FnOk P w K mg base CX0 (j + 1) f fd ["script", "k"] (spFeed K) := by
  refine F.ok scFeed (fun vs H Q E h => ?_) (fun cdv A outer s H vs Q E hr h => ?_)
  · obtain ⟨a, ns, k, rfl, _⟩ := h
    rfl
  obtain ⟨a, ns, k, rfl, hS, hb, hk, q⟩ := h
  refine ⟨_, pss_cons (ps_set (i := 2) scFeed.nd rfl (.inl rfl) (pe_op op_add (pe_op op_mul pe_int (pv 1)) pe_int))
    (pss_cons (ps_if (pt_cmpR op_lt (pv 1) (pe_callB call_len_seq (by rfl) ml PySem.boot_len (pa_cons (pv 0) pa_nil)) (nomark _)) (pss_one (ps_set (i := 2) scFeed.nd rfl (.inl rfl) (pe_ix ix_list (pv 0) (pv 1) (fun _ _ => rfl)))) pss_nil)
    (pss_cons (ps_set (i := 3) scFeed.nd rfl (.inl rfl) pe_int)
    (pss_cons (ps_if (pt_cmpR op_ge (pe_callB call_abs (by rfl) ma (by decide +kernel) (pa_cons (pv 2) pa_nil)) (pe_op op_pow pe_int pe_int) (nomark _)) (pss_one (ps_set (i := 3) scFeed.nd rfl (.inl rfl) (pe_op op_sub (pe_callB call_abs (by rfl) ma (by decide +kernel) (pa_cons (pv 2) pa_nil)) (pe_op op_pow pe_int pe_int)))) pss_nil)
    (pss_one (ps_ret (pe_lst (pa_cons (pv 3) (pa_cons (pe_op op_modN (pe_op op_add (pe_op op_add (pe_op op_mulX (pv 2) pe_int) (pe_op op_mul pe_int (pv 1))) pe_int) pe_int) pa_nil)))))))), ?_⟩
  refine ⟨_, rfl, _, _, rfl, rfl, .inl ⟨by decide, by decide⟩, _, _, rfl, rfl, ?_⟩
  refine ⟨_, rfl, _, rfl, a, _, rfl, .inl hS, _, _, rfl, rfl, _, rfl, ?_⟩
  have fin : ∀ (z d : Int), Builtin.Int.intBits z ≤ 1048576 → ∀ p, H p = none → Q (.ref p) (upd H p (.lst [.int d, .int ((z * 6364136223846793005 + 7919 * (k : Int) + 1442695040888963407).fmod 2305843009213693951)])) := fun z d _ p hp => by
    refine q p _ (same_new hp) hp ⟨_, _, upd_same, (modM _).1, (modM _).2⟩
  have two : ∀ (z : Int), Builtin.Int.intBits z ≤ 1048576 → CMulX z 6364136223846793005 ∧ CMul 7919 (k : Int) := fun z hz => ⟨seed_ok hz, .inl ⟨by decide, by decide⟩⟩
  refine ite2 (fun c => ?_) (fun c => ?_)
  · have c' : (k : Int) < (((ns.map V.int).length : Nat) : Int) := of_decide_eq_true c
    have lt : k < ns.length := by
      rw [List.length_map] at c'
      omega
    have item : atI (ns.map V.int) (k : Int) = some (.int ns[k]) := atI_nat (by rw [List.getElem?_map, List.getElem?_eq_getElem lt]; rfl)
    have hz := hb ns[k] (List.getElem_mem lt)
    refine ⟨_, rfl, _, rfl, a, _, _, _, rfl, rfl, hS, item, ?_⟩
    refine ⟨_, rfl, _, rfl, _, _, rfl, rfl, ⟨by decide, by decide, by decide⟩, _, _, rfl, rfl, _, rfl, ?_⟩
    refine ite2 (fun _ => ?_) (fun _ => ?_)
    · refine ⟨_, rfl, _, rfl, _, _, rfl, rfl, ⟨by decide, by decide, by decide⟩, _, _, rfl, rfl, ?_⟩
      exact ⟨_, rfl, _, rfl, _, _, rfl, rfl, (two _ hz).1, _, rfl, _, _, rfl, rfl, (two _ hz).2, _, _, rfl, rfl, _, _, rfl, rfl, _, _, rfl, rfl, notM, (by show 2 ≤ sizeLine; decide), fin _ _ hz⟩
    · exact ⟨_, rfl, _, rfl, _, _, rfl, rfl, (two _ hz).1, _, rfl, _, _, rfl, rfl, (two _ hz).2, _, _, rfl, rfl, _, _, rfl, rfl, _, _, rfl, rfl, notM, (by show 2 ≤ sizeLine; decide), fin _ _ hz⟩
  · have hz : Builtin.Int.intBits (67 * (k : Int) + 19) ≤ 1048576 := by
      refine Nat.le_trans (PyProof.Rows.intBits_le (k := 20) ?_) (by decide)
      have : (67 * (k : Int) + 19).natAbs ≤ 6719 := by omega
      exact Nat.lt_of_le_of_lt this (by decide)
    refine ⟨_, rfl, _, rfl, _, _, rfl, rfl, ⟨by decide, by decide, by decide⟩, _, _, rfl, rfl, _, rfl, ?_⟩
    refine ite2 (fun _ => ?_) (fun _ => ?_)
    · refine ⟨_, rfl, _, rfl, _, _, rfl, rfl, ⟨by decide, by decide, by decide⟩, _, _, rfl, rfl, ?_⟩
      exact ⟨_, rfl, _, rfl, _, _, rfl, rfl, (two _ hz).1, _, rfl, _, _, rfl, rfl, (two _ hz).2, _, _, rfl, rfl, _, _, rfl, rfl, _, _, rfl, rfl, notM, (by show 2 ≤ sizeLine; decide), fin _ _ hz⟩
    · exact ⟨_, rfl, _, rfl, _, _, rfl, rfl, (two _ hz).1, _, rfl, _, _, rfl, rfl, (two _ hz).2, _, _, rfl, rfl, _, _, rfl, rfl, _, _, rfl, rfl, notM, (by show 2 ≤ sizeLine; decide), fin _ _ hz⟩
/-! ### _law_take -/
def spTake : Sp := fun vs H Q _ => ∃ (f : Addr) (many : Int), vs = [.ref f, .int many] ∧ 0 < many ∧ many.natAbs < 2 ^ 200 ∧ FeedAt H f ∧
  ∀ (r : Int) H', 0 ≤ r → r < many → But f H H' → FeedAt H' f → Q (.int r) H'
theorem mod_in {i m : Int} (h : 0 < m) : 0 ≤ i.fmod m ∧ i.fmod m < m := by
  rw [Int.fmod_eq_emod_of_nonneg _ (Int.le_of_lt h)]
  exact ⟨Int.emod_nonneg _ (Int.ne_of_gt h), Int.emod_lt_of_pos _ h⟩
theorem ok_take {f : Addr} {fd : FuncData} {j : Nat} (F : Fun K "_law_take" "_law_take" sTake f fd) : FnOk P w K mg base CX0 (j + 1) f fd ["feed", "many"] spTake := by
  refine F.ok scTake (fun vs H Q E h => ?_) (fun cdv A outer s H vs Q E hr h => ?_)
  · obtain ⟨a, m, rfl, _⟩ := h
    rfl
  obtain ⟨f, m, rfl, pos, small, ⟨x, y, hf, y0, y1⟩, q⟩ := h
  refine ⟨_, pss_cons (ps_if (pt_cmpR op_gt (pe_ix ix_list (pv 0) pe_int (fun _ _ => rfl)) pe_int (nomark _))
      (pss_cons (ps_set (i := 2) scTake.nd rfl (.inl rfl) (pe_op op_modN (pe_ix ix_list (pv 0) pe_int (fun _ _ => rfl)) (pv 1)))
      (pss_cons (ps_asg (pe_op op_fdivW (pe_ix ix_list (pv 0) pe_int (fun _ _ => rfl)) (pv 1)) (pg_sub (pv 0) pe_int set_list)) (pss_one (ps_ret (pv 2))))) pss_nil)
    (pss_cons (ps_asg (pe_op op_modN (pe_op op_add (pe_op op_mul (pe_ix ix_list (pv 0) pe_int (fun _ _ => rfl)) pe_int) pe_int) pe_int) (pg_sub (pv 0) pe_int set_list))
    (pss_one (ps_ret (pe_op op_modN (pe_op op_fdiv (pe_ix ix_list (pv 0) pe_int (fun _ _ => rfl)) pe_int) (pv 1))))), ?_⟩
  have s0 : SqL K H f [.int x, .int y] := .inl (.inl hf)
  refine ⟨_, rfl, f, _, 0, .int x, rfl, rfl, s0, rfl, _, _, rfl, rfl, _, rfl, ?_⟩
  refine ite2 (fun c => ?_) (fun c => ?_)
  · refine ⟨_, rfl, f, _, 0, .int x, rfl, rfl, s0, rfl, _, rfl, _, _, rfl, rfl, Int.ne_of_gt pos, ?_⟩
    refine ⟨_, rfl, f, _, 0, .int x, rfl, rfl, s0, rfl, _, rfl, _, _, rfl, rfl, wide_div pos small (by decide) (by decide), ?_⟩
    refine ⟨_, rfl, f, _, 0, 0, rfl, rfl, hf, rfl, _, rfl, ?_⟩
    exact q _ _ (mod_in pos).1 (mod_in pos).2 ((But.refl f H).own) ⟨_, _, upd_same, y0, y1⟩
  · refine ⟨_, rfl, f, _, 1, .int y, rfl, rfl, s0, rfl, _, _, rfl, rfl, .inr ⟨by decide, by decide⟩, _, _, rfl, rfl, _, _, rfl, rfl, notM, ?_⟩
    refine ⟨_, rfl, f, _, 1, 1, rfl, rfl, hf, rfl, ?_⟩
    refine ⟨_, rfl, f, _, 1, _, rfl, rfl, .inl (.inl upd_same), rfl, _, _, rfl, rfl, ⟨by decide, by decide⟩, _, rfl, _, _, rfl, rfl, Int.ne_of_gt pos, ?_⟩
    exact q _ _ (mod_in pos).1 (mod_in pos).2 ((But.refl f H).own) ⟨_, _, upd_same, (modM _).1, (modM _).2⟩
/-! ### _law_pick -/
theorem atI_in {α : Type} {xs : List α} {r : Int} (h0 : 0 ≤ r) (h1 : r < (xs.length : Int)) : ∃ x ∈ xs, atI xs r = some x := by
  have lt : r.toNat < xs.length := by omega
  have er : ((r.toNat : Nat) : Int) = r := by omega
  have q : atI xs ((r.toNat : Nat) : Int) = some xs[r.toNat] := atI_nat (List.getElem?_eq_getElem lt)
  rw [er] at q
  exact ⟨_, List.getElem_mem lt, q⟩
/-- from a list -/
def spPick (K : PySem.W.Frag) : Sp := fun vs H Q _ => ∃ (f l : Addr) (xs : List V), vs = [.ref f, .ref l] ∧ l ≠ f ∧ SqL K H l xs ∧ 0 < xs.length ∧ xs.length ≤ 1000 ∧ FeedAt H f ∧
  ∀ x ∈ xs, ∀ H', But f H H' → FeedAt H' f → Q x H'
theorem seq_but {K : PySem.W.Frag} {f l : Addr} {H H' : Hp} {xs : List V} (n : l ≠ f) (b : But f H H') (h : SqL K H l xs) : SqL K H' l xs := by
  rcases h with (h | ⟨o, h⟩) | h
  · exact .inl (.inl (b _ _ n h))
  · exact .inl (.inr ⟨o, b _ _ n h⟩)
  · exact .inr h
theorem len200 {n : Nat} (h : n ≤ 1000) : ((n : Nat) : Int).natAbs < 2 ^ 200 := Nat.lt_of_le_of_lt (by rw [Int.natAbs_natCast]; exact h) (by decide)
theorem ok_pick {f g : Addr} {fd gd : FuncData} {j : Nat} (F : Fun K "_law_pick" "_law_pick" sPick f fd) (G : FnOk P w K mg base CX0 (j + 1) g gd ["feed", "many"] spTake) (bG : Binds K gd ["feed", "many"] []) (kG : PySem.W.keepIn K (.ref g) = true) (mG : mg "_law_take" = some (.ref g)) (ml : mg "len" = none) :
    FnOk P w K mg base CX0 (j + 2) f fd ["feed", "some"] (spPick K) := by
  refine F.ok scPick (fun vs H Q E h => ?_) (fun cdv A outer s H vs Q E hr h => ?_)
  · obtain ⟨a, l, xs, rfl, _⟩ := h
    rfl
  obtain ⟨f, l, xs, rfl, apart, hS, pos, few, hF, q⟩ := h
  refine ⟨_, pss_one (ps_ret (pe_ix ix_list (pv 1) (pe_call G hr (by rfl) mG kG bG .nil pass0 (pa_cons (pv 0) (pa_cons (pe_callB call_len_seq (by rfl) ml PySem.boot_len (pa_cons (pv 1) pa_nil)) pa_nil))) (fun _ _ => rfl))), ?_⟩
  refine ⟨_, rfl, _, rfl, _, rfl, l, xs, rfl, .inl hS, f, _, rfl, (by omega), len200 few, hF, fun r H' r0 r1 b hF' => ?_⟩
  obtain ⟨x, hx, item⟩ := atI_in r0 r1
  exact ⟨l, xs, r, _, rfl, rfl, seq_but apart b hS, item, q _ hx H' b hF'⟩
/-- from a text -/
def spPickS : Sp := fun vs H Q _ => ∃ (f : Addr) (z : Str), vs = [.ref f, .str z] ∧ 0 < z.length ∧ z.length ≤ 1000 ∧ FeedAt H f ∧ ∀ c ∈ z.cps.toList, ∀ H', But f H H' → FeedAt H' f → Q (.str ⟨#[c]⟩) H'
theorem ok_pickS {f g : Addr} {fd gd : FuncData} {j : Nat} (F : Fun K "_law_pick" "_law_pick" sPick f fd) (G : FnOk P w K mg base CX0 (j + 1) g gd ["feed", "many"] spTake) (bG : Binds K gd ["feed", "many"] []) (kG : PySem.W.keepIn K (.ref g) = true) (mG : mg "_law_take" = some (.ref g)) (ml : mg "len" = none) :
    FnOk P w K mg base CX0 (j + 2) f fd ["feed", "some"] spPickS := by
  refine F.ok scPick (fun vs H Q E h => ?_) (fun cdv A outer s H vs Q E hr h => ?_)
  · obtain ⟨a, z, rfl, _⟩ := h
    rfl
  obtain ⟨f, z, rfl, pos, few, hF, q⟩ := h
  refine ⟨_, pss_one (ps_ret (pe_ix ix_str (pv 1) (pe_call G hr (by rfl) mG kG bG .nil pass0 (pa_cons (pv 0) (pa_cons (pe_callB call_len_str (by rfl) ml PySem.boot_len (pa_cons (pv 1) pa_nil)) pa_nil))) (fun _ _ => rfl))), ?_⟩
  have line : z.length ≤ sizeLine := Nat.le_trans few (by decide)
  refine ⟨_, rfl, _, rfl, _, rfl, z, rfl, line, f, _, rfl, (by omega), len200 few, hF, fun r H' r0 r1 b hF' => ?_⟩
  have ln : z.cps.toList.length = z.length := Array.length_toList
  obtain ⟨x, hx, item⟩ := atI_in (xs := z.cps.toList) r0 (by omega)
  exact ⟨z, r, _, rfl, rfl, line, item, q _ hx H' b hF'⟩
end
end Kf
set_option Elab.async false
set_option linter.all false
set_option maxRecDepth 100000
set_option maxHeartbeats 4000000
/-! The terms and sayings that the law makes. -/
namespace Kf
open PySem PySem.Spec PyProof.Rows L2 Sx
abbrev sTerm : Stmt := top 21
theorem scTerm : FnScope ["feed", "deep", "names", "around", "word", "one"] ["feed", "deep", "names", "around"] (defScope sTerm) := ⟨rfl, rfl, rfl, by decide +kernel, rfl, by decide +kernel, by decide +kernel⟩
/-! ### lists of texts as data -/
abbrev NmOk (z : Str) : Prop := z.cps.all (· < 0x110000) = true
theorem dp_strs {K : PySem.W.Frag} {H : Hp} {a : Addr} {ns : List Str} (h : SqL K H a (ns.map V.str)) : Dp K H (.ref a) (.list (ns.map PyData.str)) := by
  refine .lst h ?_
  clear h
  induction ns with
  | nil => exact .nil
  | cons x r ih => exact .cons (.str x) ih
theorem eqv_strs : ∀ xs ys : List Str, PyData.eqvAll (xs.map .str) (ys.map .str) = decide (xs = ys)
  | [], [] => rfl
  | [], _ :: _ => rfl
  | _ :: _, [] => rfl
  | x :: xs, y :: ys => by
    show (x == y && PyData.eqvAll (xs.map .str) (ys.map .str)) = decide (x :: xs = y :: ys)
    rw [eqv_strs xs ys]
    by_cases e : x = y
    · subst e
      simp
    · have e2 : (x == y) = false := beq_eq_false_iff_ne.mpr e
      rw [e2]
      simp [e]
theorem lay_strs : ∀ ns : List Str, (∀ z ∈ ns, NmOk z) → PyData.canLayAll0 (ns.map .str) = true ∧ PyData.depthAll (ns.map .str) = 0
  | [], _ => ⟨rfl, rfl⟩
  | z :: r, h => by
    obtain ⟨h1, h2⟩ := lay_strs r fun y hy => h y (List.mem_cons_of_mem _ hy)
    have hz : z.cps.all (· < 0x110000) = true := h z List.mem_cons_self
    refine ⟨?_, ?_⟩
    · show (z.cps.all (· < 0x110000) && PyData.canLayAll0 (r.map .str)) = true
      rw [hz, h1]
      rfl
    · show max 0 (PyData.depthAll (r.map .str)) = 0
      rw [h2]
      rfl
theorem shaped_strs {ns : List Str} (h : ∀ z ∈ ns, NmOk z) : SeqAt.shaped (.list (ns.map .str)) = true := by
  obtain ⟨h1, h2⟩ := lay_strs ns h
  show (PyData.canLayAll0 (ns.map .str) && decide (PyData.depthAll (ns.map .str) + 1 ≤ 64)) = true
  rw [h1, h2]
  rfl
/-! ### what the law makes -/
/-- numbers and bounds that may stand where r of all and some stand around -/
def Tr.In : Tr → Int → Prop
  | .leaf w x, r => (w = "num" ∧ ∃ n : Int, x = .int n ∧ 0 ≤ n ∧ n < 10 ^ 60) ∨ (w = "name" ∧ ∃ z, x = .str z) ∨ (w = "bound" ∧ ∃ k : Int, x = .int k ∧ 0 ≤ k ∧ k < r)
  | .n0 _, _ => True
  | .n1 w a, r => a.In (if binds w = true then r + 1 else r)
  | .n2 w a b, r => binds w = false ∧ a.In r ∧ b.In r
/-- a term -/
def Tr.Not : Tr → Prop
  | .leaf _ _ => True
  | .n0 _ => False
  | .n1 w a => w = "next" ∧ a.Not
  | .n2 w a b => (w = "plus" ∨ w = "times") ∧ a.Not ∧ b.Not
/-- the names' list -/
structure NmAt (H : Hp) (l : Addr) (ns : List Str) : Prop where
  at_ : H l = some (.lst (ns.map V.str))
  few : ns.length ≤ 60
  ok : ∀ z ∈ ns, NmOk z
theorem NmAt.keep {H H' : Hp} {f l : Addr} {ns : List Str} (h : NmAt H l ns) (n : l ≠ f) (b : But f H H') : NmAt H' l ns := ⟨b _ _ n h.at_, h.few, h.ok⟩
theorem NmAt.same {H H' : Hp} {l : Addr} {ns : List Str} (h : NmAt H l ns) (b : Same H H') : NmAt H' l ns := ⟨b _ _ h.at_, h.few, h.ok⟩
/-- a made tree -/
structure Made (ns : List Str) (r : Int) (d : Nat) (t : Tr) : Prop where
  ok : t.Ok
  inn : t.In r
  dp : t.deep ≤ d
  nm : ∀ z ∈ t.names, z ∈ ns
  no : t.Not
theorem made_num {ns : List Str} {r n : Int} (h0 : 0 ≤ n) (h1 : n < 10 ^ 60) : Made ns r 1 (.leaf "num" (.int n)) :=
  ⟨⟨by decide +kernel, .inl ⟨⟨n, rfl⟩, by decide +kernel⟩⟩, .inl ⟨rfl, n, rfl, h0, h1⟩, Nat.le_refl 1, fun z hz => by
    rw [show (Tr.leaf "num" (.int n)).names = [] from if_neg (by decide +kernel)] at hz
    exact (List.not_mem_nil hz).elim, trivial⟩
theorem made_name {ns : List Str} {r : Int} {x : Str} (h : x ∈ ns) : Made ns r 1 (.leaf "name" (.str x)) :=
  ⟨⟨by decide +kernel, .inr ⟨⟨x, rfl⟩, rfl⟩⟩, .inr (.inl ⟨rfl, x, rfl⟩), Nat.le_refl 1, fun z hz => by
    rw [show (Tr.leaf "name" (.str x)).names = [x] from if_pos rfl] at hz
    rw [List.mem_singleton.mp hz]
    exact h, trivial⟩
theorem made_bound {ns : List Str} {r k : Int} (h0 : 0 ≤ k) (h1 : k < r) : Made ns r 1 (.leaf "bound" (.int k)) :=
  ⟨⟨by decide +kernel, .inl ⟨⟨k, rfl⟩, by decide +kernel⟩⟩, .inr (.inr ⟨rfl, k, rfl, h0, h1⟩), Nat.le_refl 1, fun z hz => by
    rw [show (Tr.leaf "bound" (.int k)).names = [] from if_neg (by decide +kernel)] at hz
    exact (List.not_mem_nil hz).elim, trivial⟩
theorem Made.up {ns : List Str} {r : Int} {d e : Nat} {t : Tr} (h : Made ns r d t) (le : d ≤ e) : Made ns r e t := ⟨h.ok, h.inn, Nat.le_trans h.dp le, h.nm, h.no⟩
theorem made_one {ns : List Str} {r r2 : Int} {d : Nat} {w : Str} {a : Tr} (hw : leafy w = false) (hn : w = "next") (hr : (if binds w = true then r + 1 else r) = r2) (h : Made ns r2 d a) : Made ns r (d + 1) (.n1 w a) :=
  ⟨⟨hw, h.ok⟩, by show a.In _; rw [hr]; exact h.inn, Nat.succ_le_succ h.dp, h.nm, ⟨hn, h.no⟩⟩
theorem made_two {ns : List Str} {r : Int} {d : Nat} {w : Str} {a b : Tr} (hw : leafy w = false) (hn : w = "plus" ∨ w = "times") (hb : binds w = false) (h : Made ns r d a) (g : Made ns r d b) : Made ns r (d + 1) (.n2 w a b) :=
  ⟨⟨hw, h.ok, g.ok⟩, ⟨hb, h.inn, g.inn⟩, Nat.succ_le_succ (Nat.max_le.mpr ⟨h.dp, g.dp⟩), fun z hz => (List.mem_append.mp hz).elim (h.nm z) (g.nm z), ⟨hn, h.no, g.no⟩⟩
/-- what is promised of a made tree -/
def Out (f : Addr) (H : Hp) (ns : List Str) (r : Int) (d : Nat) (Q : VK) : Prop := ∀ t v H', Made ns r d t → At H' t v → But f H H' → FeedAt H' f → Q v H'
/-- what stands behind several ways, shown once -/
theorem join {C G : Hp → Prop} {M : Prop} (main : (∀ H, C H → G H) → M) (rest : ∀ H, C H → G H) : M := main rest
section
variable {P : Program} {w : World} {K : PySem.W.Frag} {mg : Str → Option Value} {base : Heap}
def spLeaf : Sp := fun vs H Q _ => ∃ (f l : Addr) (ns : List Str) (r : Int), vs = [.ref f, .ref l, .int r] ∧ l ≠ f ∧ NmAt H l ns ∧ r ≤ 1000 ∧ FeedAt H f ∧ Out f H ns r 1 Q
/-- the defs that draw -/
structure Draw (P : Program) (w : World) (K : PySem.W.Frag) (mg : Str → Option Value) (base : Heap) (ft fp : Addr) (dt dp : FuncData) : Prop where
  T : FnOk P w K mg base CX0 1 ft dt ["feed", "many"] spTake
  bT : Binds K dt ["feed", "many"] []
  kT : PySem.W.keepIn K (.ref ft) = true
  mT : mg "_law_take" = some (.ref ft)
  Pk : FnOk P w K mg base CX0 2 fp dp ["feed", "some"] (spPick K)
  Ps : FnOk P w K mg base CX0 2 fp dp ["feed", "some"] spPickS
  bP : Binds K dp ["feed", "some"] []
  kP : PySem.W.keepIn K (.ref fp) = true
  mP : mg "_law_pick" = some (.ref fp)
theorem few1000 {n : Int} (h0 : 0 < n) (h : n ≤ 1000) : n.natAbs < 2 ^ 200 := Nat.lt_of_le_of_lt (show n.natAbs ≤ 1000 by omega) (by decide)
theorem ok_leaf {f ft fp : Addr} {fd dt dp : FuncData} (F : Fun K "_law_leaf" "_law_leaf" sLeaf f fd) (D : Draw P w K mg base ft fp dt dp) : FnOk P w K mg base CX0 3 f fd ["feed", "names", "around"] spLeaf := by
  refine F.ok scLeaf (fun vs H Q E h => ?_) (fun cdv A outer s H vs Q E hr h => ?_)
  · obtain ⟨a, l, ns, r, rfl, _⟩ := h
    rfl
  obtain ⟨f, l, ns, r, rfl, apart, hN, r1, hF, q⟩ := h
  have h1 : Room 1 _ := hr.mono (by decide)
  refine ⟨_, pss_cons (ps_set (i := 3) scLeaf.nd rfl (.inl rfl) (pe_call D.T h1 (by rfl) D.mT D.kT D.bT .nil pass0 (pa_cons (pv 0) (pa_cons pe_int pa_nil))))
    (pss_cons (ps_if (PW.pt (pw_and (pt_cmpR op_lt (pv 3) pe_int (nomark _)) (pw_and1 (pt_cmpR (op_neD hr.units) (pv 1) (pe_lst pa_nil) (nomark _)))))
      (pss_one (ps_ret (pe_tup (pa_cons pe_str (pa_cons (pe_call D.Pk hr (by rfl) D.mP D.kP D.bP .nil pass0 (pa_cons (pv 0) (pa_cons (pv 1) pa_nil))) pa_nil))))) pss_nil)
    (pss_cons (ps_if (PW.pt (pw_and (pt_cmpR op_lt (pv 3) pe_int (nomark _)) (pw_and1 (pt_cmpR op_gt (pv 2) pe_int (nomark _)))))
      (pss_one (ps_ret (pe_tup (pa_cons pe_str (pa_cons (pe_call D.T h1 (by rfl) D.mT D.kT D.bT .nil pass0 (pa_cons (pv 0) (pa_cons (pv 2) pa_nil))) pa_nil))))) pss_nil)
    (pss_one (ps_ret (pe_tup (pa_cons pe_str (pa_cons (pe_call D.Pk hr (by rfl) D.mP D.kP D.bP .nil pass0 (pa_cons (pv 0) (pa_cons
      (pe_lst (pa_cons pe_int (pa_cons pe_int (pa_cons pe_int (pa_cons (pe_call D.T h1 (by rfl) D.mT D.kT D.bT .nil pass0 (pa_cons (pv 0) (pa_cons pe_int pa_nil)))
        (pa_cons (pe_call D.T h1 (by rfl) D.mT D.kT D.bT .nil pass0 (pa_cons (pv 0) (pa_cons (pe_op op_pow pe_int pe_int) pa_nil))) (pa_cons (pe_op op_sub (pe_op op_pow pe_int pe_int) pe_int) pa_nil))))))) pa_nil))) pa_nil))))))), ?_⟩
  refine ⟨_, rfl, f, 8, rfl, by decide, by decide, hF, fun way H1 _ _ b1 hF1 => ?_⟩
  apply join (C := fun H2 => But f H H2 ∧ FeedAt H2 f)
  · intro rest
    refine ⟨_, rfl, _, _, rfl, rfl, _, rfl, ?_⟩
    refine ite2 (fun _ => ?_) (fun _ => iteF (rest H1 ⟨b1, hF1⟩))
    refine ⟨_, rfl, Nat.zero_le _, fun e he => ?_⟩
    have hN1 := hN.keep apart b1
    have bb : But f H (upd H1 e (.lst [])) := b1.new he
    have hF2 : FeedAt (upd H1 e (.lst [])) f := hF1.same (same_new he)
    have hN2 : NmAt (upd H1 e (.lst [])) l ns := hN.keep apart bb
    have d0 : Dp K (upd H1 e (.lst [])) (.ref e) (.list (([] : List Str).map PyData.str)) := dp_strs (ns := []) (.inl (.inl upd_same))
    refine ⟨_, _, dp_strs (.inl (.inl hN2.at_)), d0, shaped_strs hN2.ok, shaped_strs (fun z hz => by cases hz), _, rfl, ?_⟩
    show if (!PyData.eqvAll (ns.map .str) (([] : List Str).map .str)) = true then _ else _
    rw [eqv_strs]
    by_cases en : ns = []
    · rw [decide_eq_true en]
      exact iteF (rest _ ⟨bb, hF2⟩)
    · rw [decide_eq_false en]
      refine iteT ?_
      have pos : 0 < (ns.map V.str).length := by
        rw [List.length_map]
        exact List.length_pos_iff.mpr en
      refine ⟨_, rfl, _, rfl, f, l, _, rfl, apart, .inl (.inl hN2.at_), pos, (by rw [List.length_map]; exact Nat.le_trans hN2.few (by decide)), hF2, fun x hx H3 b3 hF3 => ?_⟩
      obtain ⟨z, hz, rfl⟩ := List.mem_map.mp hx
      refine ⟨(by show 2 ≤ sizeLine; decide), fun p hp => ?_⟩
      exact q _ _ _ (made_name hz) ⟨p, rfl, upd_same⟩ ((bb.trans b3).new hp) (hF3.same (same_new hp))
  · intro H2 ⟨b2, hF2⟩
    apply join (C := fun H2 => But f H H2 ∧ FeedAt H2 f)
    · intro last
      refine ⟨_, rfl, _, _, rfl, rfl, _, rfl, ?_⟩
      refine ite2 (fun _ => ?_) (fun _ => iteF (last H2 ⟨b2, hF2⟩))
      refine ⟨_, rfl, _, _, rfl, rfl, _, rfl, ?_⟩
      refine ite2 (fun c => ?_) (fun _ => last H2 ⟨b2, hF2⟩)
      have pos : 0 < r := of_decide_eq_true c
      refine ⟨_, rfl, _, rfl, f, r, rfl, pos, few1000 pos r1, hF2, fun k H3 k0 k1 b3 hF3 => ?_⟩
      refine ⟨(by show 2 ≤ sizeLine; decide), fun p hp => ?_⟩
      exact q _ _ _ (made_bound k0 k1) ⟨p, rfl, upd_same⟩ ((b2.trans b3).new hp) (hF3.same (same_new hp))
    · intro H3 ⟨b3, hF3⟩
      refine ⟨_, rfl, _, rfl, f, 7, rfl, by decide, by decide, hF3, fun k H4 k0 k1 b4 hF4 => ?_⟩
      refine ⟨_, rfl, _, _, rfl, rfl, ⟨by decide, by decide, by decide⟩, f, _, rfl, by decide, by decide +kernel, hF4, fun k2 H5 k20 k21 b5 hF5 => ?_⟩
      refine ⟨_, _, rfl, rfl, ⟨by decide, by decide, by decide⟩, _, _, rfl, rfl, (by show 6 ≤ sizeLine; decide), fun g hg => ?_⟩
      have bb : But f H (upd H5 g (.lst [.int 0, .int 1, .int 2, .int k, .int k2, .int (10 ^ (60 : Int).toNat - 1)])) := (((b3.trans b4).trans b5).new hg)
      refine ⟨f, g, _, rfl, hF5.ne hg, .inl (.inl upd_same), (by show 0 < 6; decide), (by show 6 ≤ 1000; decide), hF5.same (same_new hg), fun x hx H6 b6 hF6 => ?_⟩
      have nm : ∃ n : Int, x = .int n ∧ 0 ≤ n ∧ n < 10 ^ 60 := by
        have k2b : k2 < 10 ^ 30 := k21
        rcases List.mem_cons.mp hx with e | hx
        · exact ⟨0, e, by decide, by decide⟩
        rcases List.mem_cons.mp hx with e | hx
        · exact ⟨1, e, by decide, by decide⟩
        rcases List.mem_cons.mp hx with e | hx
        · exact ⟨2, e, by decide, by decide⟩
        rcases List.mem_cons.mp hx with e | hx
        · exact ⟨k, e, k0, by omega⟩
        rcases List.mem_cons.mp hx with e | hx
        · exact ⟨k2, e, k20, by omega⟩
        · exact ⟨_, List.mem_singleton.mp hx, by decide, by decide⟩
      obtain ⟨n, rfl, n0, n1⟩ := nm
      refine ⟨(by show 2 ≤ sizeLine; decide), fun p hp => ?_⟩
      exact q _ _ _ (made_num n0 n1) ⟨p, rfl, upd_same⟩ ((bb.trans b6).new hp) (hF6.same (same_new hp))
/-! ### _law_term -/
def spTerm (n : Nat) : Sp := fun vs H Q _ => ∃ (f l : Addr) (ns : List Str) (r : Int) (d : Nat), vs = [.ref f, .int (d : Int), .ref l, .int r] ∧ d + 1 ≤ n ∧ l ≠ f ∧ NmAt H l ns ∧ r ≤ 1000 ∧ FeedAt H f ∧ Out f H ns r (d + 1) Q
theorem words3 : ∀ x ∈ ([.str "next", .str "plus", .str "times"] : List V), ∃ wd : Str, x = .str wd ∧ leafy wd = false ∧ binds wd = false ∧ (wd = "next" ∨ wd = "plus" ∨ wd = "times") := by
  intro x hx
  rcases List.mem_cons.mp hx with e | hx
  · exact ⟨_, e, by decide +kernel, by decide +kernel, by decide +kernel⟩
  rcases List.mem_cons.mp hx with e | hx
  · exact ⟨_, e, by decide +kernel, by decide +kernel, by decide +kernel⟩
  · exact ⟨_, List.mem_singleton.mp hx, by decide +kernel, by decide +kernel, by decide +kernel⟩
theorem no_calls {f : Addr} {fd : FuncData} {k : Nat} {ps : List Str} {sp : Sp} (no : ∀ vs H Q E, ¬ sp vs H Q E) : FnOk P w K mg base CX0 k f fd ps sp :=
  ⟨fun vs H Q E h => absurd h (no vs H Q E), fun A outer s H args us vs Q E _ _ _ _ h => absurd h (no vs H Q E)⟩
theorem ok_term {f ft fp fl : Addr} {fd dt dp dl : FuncData} {n : Nat} (F : Fun K "_law_term" "_law_term" sTerm f fd) (D : Draw P w K mg base ft fp dt dp)
    (L : FnOk P w K mg base CX0 3 fl dl ["feed", "names", "around"] spLeaf) (bL : Binds K dl ["feed", "names", "around"] []) (kL : PySem.W.keepIn K (.ref fl) = true) (mL : mg "_law_leaf" = some (.ref fl))
    (S : FnOk P w K mg base CX0 (3 + n) f fd ["feed", "deep", "names", "around"] (spTerm n)) (bS : Binds K fd ["feed", "deep", "names", "around"] []) (mS : mg "_law_term" = some (.ref f)) :
    FnOk P w K mg base CX0 (3 + n + 1) f fd ["feed", "deep", "names", "around"] (spTerm (n + 1)) := by
  refine F.ok scTerm (fun vs H Q E h => ?_) (fun cdv A outer s H vs Q E hr h => ?_)
  · obtain ⟨a, l, ns, r, d, rfl, _⟩ := h
    rfl
  obtain ⟨f, l, ns, r, d, rfl, dn, apart, hN, r1, hF, q⟩ := h
  have h1 : Room 1 _ := hr.mono (by omega)
  have h2 : Room 2 _ := hr.mono (by omega)
  have h3 : Room 3 _ := hr.mono (by omega)
  refine ⟨_, pss_cons (ps_if (PW.pt (pw_or (pt_cmpR op_eq (pv 1) pe_int (nomark _)) (pw_or1 (pt_cmpR op_eq (pe_call D.T h1 (by rfl) D.mT D.kT D.bT .nil pass0 (pa_cons (pv 0) (pa_cons pe_int pa_nil))) pe_int (nomark _)))))
      (pss_one (ps_ret (pe_call L h3 (by rfl) mL kL bL .nil pass0 (pa_cons (pv 0) (pa_cons (pv 2) (pa_cons (pv 3) pa_nil)))))) pss_nil)
    (pss_cons (ps_set (i := 4) scTerm.nd rfl (.inl rfl) (pe_call D.Pk h2 (by rfl) D.mP D.kP D.bP .nil pass0 (pa_cons (pv 0) (pa_cons (pe_lst (pa_cons pe_str (pa_cons pe_str (pa_cons pe_str pa_nil)))) pa_nil))))
    (pss_cons (ps_set (i := 5) scTerm.nd rfl (.inl rfl) (pe_call S hr (by rfl) mS F.kp bS .nil pass0 (pa_cons (pv 0) (pa_cons (pe_op op_sub (pv 1) pe_int) (pa_cons (pv 2) (pa_cons (pv 3) pa_nil))))))
    (pss_cons (ps_if (pt_cmpR op_eq (pv 4) pe_str (nomark _)) (pss_one (ps_ret (pe_tup (pa_cons (pv 4) (pa_cons (pv 5) pa_nil))))) pss_nil)
    (pss_one (ps_ret (pe_tup (pa_cons (pv 4) (pa_cons (pv 5) (pa_cons (pe_call S hr (by rfl) mS F.kp bS .nil pass0 (pa_cons (pv 0) (pa_cons (pe_op op_sub (pv 1) pe_int) (pa_cons (pv 2) (pa_cons (pv 3) pa_nil))))) pa_nil))))))))), ?_⟩
  -- a leaf, at any heap behind
  have leaf : ∀ H1 : Hp, But f H H1 → FeedAt H1 f → Out f H1 ns r 1 Q := fun H1 b1 _ t v H' m a b hF' => q t v H' (m.up (by omega)) a (b1.trans b) hF'
  refine ⟨_, rfl, rfl, _, rfl, ?_⟩
  refine ite2 (fun c => ?_) (fun c => ?_)
  · exact iteT ⟨_, rfl, _, rfl, _, rfl, f, l, ns, r, rfl, apart, hN, r1, hF, leaf H (But.refl f H) hF⟩
  have dpos : 0 < d := by
    rcases Nat.eq_zero_or_pos d with e | e
    · exact absurd (show decide (V.int (d : Int) = V.int 0) = true from decide_eq_true (by rw [e]; rfl)) c
    · exact e
  refine ⟨_, rfl, f, 3, rfl, by decide, by decide, hF, fun k H1 _ _ b1 hF1 => ?_⟩
  have hN1 := hN.keep apart b1
  refine ⟨rfl, _, rfl, ?_⟩
  refine ite2 (fun _ => ?_) (fun _ => ?_)
  · exact ⟨_, rfl, _, rfl, _, rfl, f, l, ns, r, rfl, apart, hN1, r1, hF1, leaf H1 b1 hF1⟩
  refine ⟨_, rfl, (by show 3 ≤ sizeLine; decide), fun g hg => ?_⟩
  refine ⟨f, g, _, rfl, hF1.ne hg, .inl (.inl upd_same), by decide, by decide, hF1.same (same_new hg), fun x hx H2 b2 hF2 => ?_⟩
  obtain ⟨wd, rfl, lw, bw, nw⟩ := words3 x hx
  have bb2 : But f H H2 := (b1.new hg).trans b2
  have ed : (d : Int) - 1 = ((d - 1 : Nat) : Int) := by omega
  refine ⟨_, rfl, _, rfl, _, _, rfl, rfl, _, rfl, _, rfl, f, l, ns, r, d - 1, (by show [V.ref f, V.int ((d : Int) - 1), V.ref l, V.int r] = _; rw [ed]), by omega, apart, hN.keep apart bb2, r1, hF2, fun t1 v1 H3 m1 a1 b3 hF3 => ?_⟩
  have bb3 := bb2.trans b3
  refine ⟨_, rfl, rfl, _, rfl, ?_⟩
  refine ite2 (fun cw => ?_) (fun cw => ?_)
  · refine ⟨_, rfl, _, rfl, (by show 2 ≤ sizeLine; decide), fun p hp => ?_⟩
    exact q _ _ _ ((made_one lw (by have z := of_decide_eq_true cw; injection z) (by rw [bw]; rfl) m1).up (by omega)) ⟨p, v1, rfl, upd_same, a1.keep (tups_same (same_new hp))⟩ (bb3.new hp) (hF3.same (same_new hp))
  · refine ⟨_, rfl, _, rfl, _, rfl, _, rfl, _, _, rfl, rfl, _, rfl, _, rfl, f, l, ns, r, d - 1, (by show [V.ref f, V.int ((d : Int) - 1), V.ref l, V.int r] = _; rw [ed]), by omega, apart, hN.keep apart bb3, r1, hF3, fun t2 v2 H4 m2 a2 b4 hF4 => ?_⟩
    refine ⟨(by show 3 ≤ sizeLine; decide), fun p hp => ?_⟩
    have k1 : At H4 t1 v1 := a1.keep (hF3.tups b4)
    exact q _ _ _ ((made_two lw (nw.resolve_left fun e => cw (by rw [e]; exact decide_eq_true rfl)) bw m1 m2).up (by omega)) ⟨p, v1, v2, rfl, upd_same, k1.keep (tups_same (same_new hp)), a2.keep (tups_same (same_new hp))⟩ ((bb3.trans b4).new hp) (hF4.same (same_new hp))
theorem ok_terms {f ft fp fl : Addr} {fd dt dp dl : FuncData} (F : Fun K "_law_term" "_law_term" sTerm f fd) (D : Draw P w K mg base ft fp dt dp)
    (L : FnOk P w K mg base CX0 3 fl dl ["feed", "names", "around"] spLeaf) (bL : Binds K dl ["feed", "names", "around"] []) (kL : PySem.W.keepIn K (.ref fl) = true) (mL : mg "_law_leaf" = some (.ref fl))
    (bS : Binds K fd ["feed", "deep", "names", "around"] []) (mS : mg "_law_term" = some (.ref f)) : ∀ n : Nat, FnOk P w K mg base CX0 (3 + n) f fd ["feed", "deep", "names", "around"] (spTerm n)
  | 0 => no_calls fun vs H Q E h => by
    obtain ⟨a, l, ns, r, d, _, dn, _⟩ := h
    omega
  | n + 1 => ok_term F D L bL kL mL (ok_terms F D L bL kL mL bS mS n) bS mS
end
end Kf
set_option Elab.async false
set_option linter.all false
set_option maxRecDepth 100000
set_option maxHeartbeats 4000000
/-! The program's own defs: beneath, pieces_of, names_in; the law's walk _law_names. -/
namespace Kf
open PySem PySem.Spec PyProof.Rows L2 Sx
abbrev sBeneath : Stmt := top 7
abbrev sPieces : Stmt := top 8
abbrev sNamesIn : Stmt := top 14
theorem scBeneath : FnScope ["piece", "around"] ["piece", "around"] (defScope sBeneath) := ⟨rfl, rfl, rfl, by decide +kernel, rfl, by decide +kernel, by decide +kernel⟩
theorem scPieces : FnScope ["thing", "found", "todo", "piece", "around", "inner", "part"] ["thing"] (defScope sPieces) := ⟨rfl, rfl, rfl, by decide +kernel, rfl, by decide +kernel, by decide +kernel⟩
theorem scNamesIn : FnScope ["thing", "found", "piece", "_"] ["thing"] (defScope sNamesIn) := ⟨rfl, rfl, rfl, by decide +kernel, rfl, by decide +kernel, by decide +kernel⟩
/-! ### rows: a tree and how many stand around it -/
def Row (H : Hp) (e : Tr × Nat) (v : V) : Prop := ∃ q x, v = .ref q ∧ H q = some (.tup [x, .int (e.2 : Int)]) ∧ At H e.1 x
theorem Row.keep {H H' : Hp} (k : Tups H H') (e : Tr × Nat) (v : V) (h : Row H e v) : Row H' e v := by
  obtain ⟨q, x, e1, e2, a⟩ := h
  exact ⟨q, x, e1, k _ _ e2, a.keep k⟩
def visits (es : List (Tr × Nat)) : List (Tr × Nat) := es.reverse.flatMap fun e => (e.1.post e.2).reverse
theorem visits_last (es : List (Tr × Nat)) (e : Tr × Nat) : visits (es ++ [e]) = (e.1.post e.2).reverse ++ visits es := by
  unfold visits
  rw [List.reverse_append, List.reverse_singleton, List.singleton_append, List.flatMap_cons]
theorem visits_kids (r : Nat) : ∀ (ks : List Tr) (es : List (Tr × Nat)), visits (es ++ ks.map fun k => (k, r)) = (ks.flatMap fun a => a.post r).reverse ++ visits es
  | [], es => by simp
  | k :: ks, es => by
    rw [List.map_cons, show es ++ (k, r) :: ks.map (fun k => (k, r)) = (es ++ [(k, r)]) ++ ks.map (fun k => (k, r)) by simp, visits_kids r ks, visits_last, List.flatMap_cons, List.reverse_append, List.append_assoc]
theorem visits_step (es : List (Tr × Nat)) (t : Tr) (r : Nat) : visits (es ++ [(t, r)]) = (t, r) :: visits (es ++ t.kids.map fun k => (k, inner t.word r)) := by
  rw [visits_last, visits_kids]
  show (t.post r).reverse ++ visits es = _
  rw [post_kids, List.reverse_append, List.reverse_singleton]
  rfl
theorem post_pos (t : Tr) (r : Nat) : 1 ≤ (t.post r).length := by
  rw [post_kids, List.length_append]
  exact Nat.le_add_left _ _
theorem flat_len {α β : Type} (g : α → List β) (h : ∀ a, 1 ≤ (g a).length) : ∀ l : List α, l.length ≤ (l.flatMap g).length
  | [] => Nat.zero_le _
  | a :: l => by
    have h1 := flat_len g h l
    have h2 := h a
    rw [List.flatMap_cons, List.length_append, List.length_cons]
    omega
theorem visits_len (es : List (Tr × Nat)) : es.length ≤ (visits es).length := by
  have h := flat_len (fun (e : Tr × Nat) => (e.1.post e.2).reverse) (fun e => by rw [List.length_reverse]; exact post_pos e.1 e.2) es.reverse
  rw [List.length_reverse] at h
  exact h
theorem cut_one (x : V) (r : List V) : cutV (x :: r) (some 1) none = r := by
  unfold cutV
  have e1 : HT.sIx (x :: r).length 0 (some 1) = 1 := by
    rw [show HT.sIx (x :: r).length 0 (some 1) = min 1 (x :: r).length from HT.sIx_nat _ 0 1, List.length_cons]
    omega
  rw [e1, HT.sIx_none]
  show List.take ((x :: r).length - 1) r = r
  rw [List.length_cons, Nat.add_sub_cancel]
  exact List.take_length
theorem cut_not (x : V) (r : List V) : ¬ (HT.sIx (x :: r).length 0 (some 1) = 0 ∧ HT.sIx (x :: r).length (x :: r).length none = (x :: r).length) := by
  intro h
  have e1 : HT.sIx (x :: r).length 0 (some 1) = 1 := by
    rw [show HT.sIx (x :: r).length 0 (some 1) = min 1 (x :: r).length from HT.sIx_nat _ 0 1, List.length_cons]
    omega
  rw [e1] at h
  exact absurd h.1 (by decide)
/-! ### the top's names -/
structure Txt (K : PySem.W.Frag) (mg : Str → Option Value) (L B : Addr) : Prop where
  mL : mg "LEAVES" = some (.ref L)
  mB : mg "BINDERS" = some (.ref B)
  leaf : ∀ H, SqT K H L leafVs
  bind : ∀ H, SqT K H B bindVs
section
variable {P : Program} {w : World} {K : PySem.W.Frag} {mg : Str → Option Value} {base : Heap} {L B : Addr}
def spBeneath : Sp := fun vs H Q _ => ∃ (p : Addr) (wd : Str) (us : List V) (r : Nat), vs = [.ref p, .int (r : Int)] ∧ H p = some (.tup (.str wd :: us)) ∧ Q (.int (inner wd r : Nat)) H
theorem head_at (x : V) (us : List V) : atI (x :: us) 0 = some x := atI_nat (j := 0) rfl
theorem ok_beneath {f : Addr} {fd : FuncData} {j : Nat} (F : Fun K "beneath" "beneath" sBeneath f fd) (T : Txt K mg L B) : FnOk P w K mg base CX0 (j + 1) f fd ["piece", "around"] spBeneath := by
  refine F.ok scBeneath (fun vs H Q E h => ?_) (fun cdv A outer s H vs Q E hr h => ?_)
  · obtain ⟨p, wd, us, r, rfl, _⟩ := h
    rfl
  obtain ⟨p, wd, us, r, rfl, hp, q⟩ := h
  refine ⟨_, pss_one (ps_ret (pe_ifExp (pt_cmpR op_in_seq (pe_ix ix_tup (pv 0) pe_int (fun _ _ => rfl)) (pe_glob (v := .ref B) (by rfl) T.mB rfl) (by rfl)) (pe_op op_add (pv 1) pe_int) (pv 1))), ?_⟩
  refine ⟨_, rfl, p, _, 0, _, rfl, rfl, .inl (.inl hp), head_at _ _, B, bindVs, rfl, .inr (T.bind H), rfl, rfl, _, rfl, ?_⟩
  show if binds wd = true then _ else _
  unfold inner at q
  by_cases c : binds wd = true
  · rw [if_pos c] at q ⊢
    exact ⟨_, rfl, _, _, rfl, rfl, q⟩
  · rw [if_neg c] at q ⊢
    exact ⟨_, rfl, q⟩
/-! ### pieces_of -/
def spPieces : Sp := fun vs H Q _ => ∃ (v : V) (t : Tr), vs = [v] ∧ At H t v ∧ t.Ok ∧ t.deep ≤ 12 ∧
  ∀ (p : Addr) (H' : Hp) (vf : List V), Same H H' → H p = none → H' p = some (.lst vf) → All2 (Row H') (t.post 0) vf → Q (.ref p) H'
theorem line_of {n : Nat} (h : n ≤ 4096) : n < sizeLine := Nat.lt_of_le_of_lt h (by decide)
/-- between two turns -/
structure Turn (H H' : Hp) (pf pt : Addr) (all : List (Tr × Nat)) (m : Nat) (ef es : List (Tr × Nat)) (vf vt : List V) : Prop where
  same : Same H H'
  lf : H' pf = some (.lst vf)
  lt : H' pt = some (.lst vt)
  rf : All2 (Row H') ef vf
  rt : All2 (Row H') es vt
  sum : ef ++ visits es = all
  ok : ∀ e ∈ es, e.1.Ok
  m : m = (visits es).length
theorem ok_pieces {f g : Addr} {fd gd : FuncData} (F : Fun K "pieces_of" "pieces_of" sPieces f fd) (T : Txt K mg L B) (G : FnOk P w K mg base CX0 1 g gd ["piece", "around"] spBeneath) (bG : Binds K gd ["piece", "around"] []) (kG : PySem.W.keepIn K (.ref g) = true) (mG : mg "beneath" = some (.ref g)) :
    FnOk P w K mg base CX0 2 f fd ["thing"] spPieces := by
  refine F.ok scPieces (fun vs H Q E h => ?_) (fun cdv A outer s H vs Q E hr h => ?_)
  · obtain ⟨v, t, rfl, _⟩ := h
    rfl
  obtain ⟨v, t, rfl, hA, hO, hd, q⟩ := h
  refine ⟨_, pss_cons (ps_set (i := 1) scPieces.nd rfl (.inl rfl) (pe_lst pa_nil))
    (pss_cons (ps_set (i := 2) scPieces.nd rfl (.inl rfl) (pe_lst (pa_cons (pe_tup (pa_cons (pv 0) (pa_cons pe_int pa_nil))) pa_nil)))
    (pss_cons (ps_while PassesOwn.never (pt_truth (pv 2) (by intro _; rfl))
      (pss_cons (ps_asg (pe_bm0 PySem.F.plainAttrs_list PySem.F.slot_list_pop PySem.F.type_list_pop mt_pop (pv 2)) (pg_tup (by rfl) (pgs_cons (pg_name (i := 3) scPieces.nd rfl (.inl rfl)) (pgs_cons (pg_name (i := 4) scPieces.nd rfl (.inl rfl)) pgs_nil))))
      (pss_cons (ps_expr (pe_bm PySem.F.plainAttrs_list PySem.F.slot_list_append PySem.F.type_list_append mt_append (pv 1) (pa_cons (pe_tup (pa_cons (pv 3) (pa_cons (pv 4) pa_nil))) pa_nil)))
      (pss_one (ps_if (pt_cmpR op_notIn_seq (pe_ix ix_tup (pv 3) pe_int (fun _ _ => rfl)) (pe_glob (v := .ref L) (by rfl) T.mL rfl) (by rfl))
        (pss_cons (ps_set (i := 5) scPieces.nd rfl (.inl rfl) (pe_call G hr (by rfl) mG kG bG .nil pass0 (pa_cons (pv 3) (pa_cons (pv 4) pa_nil))))
        (pss_one (ps_for PassesOwn.never rfl (pi_tup (pe_slice sl_tup (pv 3) (po_some pe_int) po_none)) (pg_name (i := 6) scPieces.nd rfl (.inl rfl))
          (pss_one (ps_expr (pe_bm PySem.F.plainAttrs_list PySem.F.slot_list_append PySem.F.type_list_append mt_append (pv 2) (pa_cons (pe_tup (pa_cons (pv 6) (pa_cons (pv 5) pa_nil))) pa_nil)))))))
        pss_nil)))))
    (pss_cons (ps_expr (pe_bm0 PySem.F.plainAttrs_list PySem.F.slot_list_reverse PySem.F.type_list_reverse mt_reverse (pv 1)))
    (pss_one (ps_ret (pv 1)))))), ?_⟩
  refine ⟨Nat.zero_le _, fun pf nf => ?_⟩
  refine ⟨_, rfl, (by show 2 ≤ sizeLine; decide), fun q0 nq => ?_⟩
  refine ⟨(by show 1 ≤ sizeLine; decide), fun pt nt => ?_⟩
  have s1 : Same H (upd H pf (.lst [])) := same_new nf
  have s2 := same_put (o := .tup [v, .int 0]) s1 nq
  have s3 := same_put (o := .lst [.ref q0]) s2 nt
  have nft : pf ≠ pt := fun z => by
    rw [← z, upd_ne (fun z2 => by rw [z2, upd_same] at nq; cases nq), upd_same] at nt
    cases nt
  have nfq : pf ≠ q0 := fun z => by
    rw [← z, upd_same] at nq
    cases nq
  have nqt : q0 ≠ pt := fun z => by
    rw [← z, upd_same] at nt
    cases nt
  have big : ∀ (ef es : List (Tr × Nat)), ef ++ visits es = (t.post 0).reverse → ef.length + es.length ≤ 4096 := fun ef es e => by
    have l1 := congrArg List.length e
    rw [List.length_append, List.length_reverse, post_len] at l1
    have l2 := visits_len es
    have l3 := size_deep t
    have l4 : 2 ^ t.deep ≤ 2 ^ 12 := Nat.pow_le_pow_right (by decide) hd
    omega
  refine ⟨fun m σ H' => ∃ (ef es : List (Tr × Nat)) (vf vt : List V) (y3 y4 y5 y6 : Option V), σ = [some v, some (.ref pf), some (.ref pt), y3, y4, y5, y6] ∧ Turn H H' pf pt (t.post 0).reverse m ef es vf vt,
    ⟨_, [], [(t, 0)], [], [.ref q0], none, none, none, none, rfl, ⟨s3, ?_, upd_same, .nil, .one ⟨q0, v, rfl, ?_, hA.keep (tups_same s3)⟩, ?_, fun e he => by rw [List.mem_singleton.mp he]; exact hO, rfl⟩⟩, fun m σ H1 hW => ?_⟩
  · rw [upd_ne nft, upd_ne nfq, upd_same]
  · rw [upd_ne nqt, upd_same]
    rfl
  · show visits [(t, 0)] = _
    unfold visits
    simp
  obtain ⟨ef, es, vf, vt, y3, y4, y5, y6, rfl, W⟩ := hW
  refine ⟨_, rfl, !vt.isEmpty, .inl ⟨vt, .inl (.inl W.lt), rfl⟩, ?_⟩
  rcases List.eq_nil_or_concat vt with en | ⟨vt0, y, en⟩
  · subst en
    refine iteF ?_
    have ee : es = [] := by
      have l := W.rt.len
      exact List.length_eq_zero_iff.mp l
    subst ee
    have e2 : ef = (t.post 0).reverse := by
      have e3 := W.sum
      rw [show visits [] = [] from rfl, List.append_nil] at e3
      exact e3
    refine ⟨_, rfl, .inl ⟨rfl, _, .inl (.inl W.lf)⟩, pf, vf, rfl, rfl, W.lf, ?_⟩
    refine ⟨_, rfl, q pf _ vf.reverse (fun b u e => ?_) nf upd_same ?_⟩
    · rw [upd_ne (ne_of_none e nf)]
      exact W.same _ _ e
    · have r1 := W.rf.rev
      rw [e2, List.reverse_reverse] at r1
      exact r1.mono fun e v h => Row.keep (tups_put fun xs z => by rw [W.lf] at z; cases z) e v h
  · rw [List.concat_eq_append] at en
    subst en
    rw [show (!(vt0 ++ [y]).isEmpty) = true by simp]
    refine iteT ?_
    obtain ⟨es0, ⟨t1, r1⟩, rfl, rt0, ⟨q1, x1, rfl, h1, a1⟩⟩ := W.rt.last
    have ok1 : t1.Ok := W.ok _ (List.mem_append.mpr (.inr (List.mem_singleton.mpr rfl)))
    refine ⟨fun σ' H' => ∃ m', m' < m ∧ ∃ (ef es : List (Tr × Nat)) (vf vt : List V) (y3 y4 y5 y6 : Option V), σ' = [some v, some (.ref pf), some (.ref pt), y3, y4, y5, y6] ∧ Turn H H' pf pt (t.post 0).reverse m' ef es vf vt,
      fun σ' H' h => h, ?_⟩
    -- piece, around = todo.pop()
    refine ⟨_, rfl, .inl ⟨rfl, _, .inl (.inl W.lt)⟩, pt, _, .ref q1, rfl, rfl, W.lt, by simp, ?_⟩
    rw [List.dropLast_concat]
    have nqt1 : q1 ≠ pt := ne_of h1 W.lt (by intro z; cases z)
    have k2 : Tups H1 (upd H1 pt (.lst vt0)) := tups_put fun xs z => by
      rw [W.lt] at z
      cases z
    refine ⟨q1, [x1, .int (r1 : Int)], rfl, .inl (.inl (k2 _ _ h1)), rfl, x1, [.int (r1 : Int)], rfl, .int (r1 : Int), [], rfl, rfl, ?_⟩
    -- found.append((piece, around))
    have lf2 : (upd H1 pt (.lst vt0)) pf = some (.lst vf) := by
      rw [upd_ne nft]
      exact W.lf
    have bigN := big ef (es0 ++ [(t1, r1)]) W.sum
    rw [List.length_append, List.length_singleton] at bigN
    refine ⟨_, rfl, .inl ⟨rfl, _, .inl (.inl lf2)⟩, _, rfl, _, rfl, (by show 2 ≤ sizeLine; decide), fun q2 nq2 => ?_⟩
    have nfq2 : pf ≠ q2 := ne_of_none lf2 nq2
    have ntq2 : pt ≠ q2 := ne_of_none (show (upd H1 pt (.lst vt0)) pt = _ from upd_same) nq2
    refine ⟨pf, vf, .ref q2, rfl, rfl, (by rw [upd_ne nfq2]; exact lf2), line_of (by have := W.rf.len; omega), ?_⟩
    generalize hH2 : upd (upd (upd H1 pt (.lst vt0)) q2 (.tup [x1, .int (r1 : Int)])) pf (.lst (vf ++ [.ref q2])) = H2
    have k3 : Tups H1 H2 := by
      rw [← hH2]
      refine k2.trans ((tups_same (same_new nq2)).trans (tups_put fun xs z => ?_))
      rw [upd_ne nfq2, lf2] at z
      cases z
    have same2 : Same H H2 := fun b u e => by
      rw [← hH2, upd_ne (ne_of_none e nf)]
      have nbt : b ≠ pt := fun z => by
        have z2 := s2.free nt
        rw [← z, e] at z2
        cases z2
      have e2 : (upd H1 pt (.lst vt0)) b = some u := by
        rw [upd_ne nbt]
        exact W.same _ _ e
      rw [upd_ne (ne_of_none e2 nq2)]
      exact e2
    have lf3 : H2 pf = some (.lst (vf ++ [.ref q2])) := by
      rw [← hH2, upd_same]
    have lt3 : H2 pt = some (.lst vt0) := by
      rw [← hH2, upd_ne nft.symm, upd_ne ntq2, upd_same]
    have hq2 : H2 q2 = some (.tup [x1, .int (r1 : Int)]) := by
      rw [← hH2, upd_ne nfq2.symm, upd_same]
    have a3 : At H2 t1 x1 := At.keep k3 a1
    have rf3 : All2 (Row H2) (ef ++ [(t1, r1)]) (vf ++ [.ref q2]) := (W.rf.mono (Row.keep k3)).app (.one ⟨q2, x1, rfl, hq2, a3⟩)
    have rt3 : All2 (Row H2) es0 vt0 := rt0.mono (Row.keep k3)
    obtain ⟨p1, us, rfl, hp1, lus, kids, leafs⟩ := a3.view ok1
    have e0 := W.sum
    rw [visits_step] at e0
    have em := W.m
    rw [visits_step, List.length_cons] at em
    -- if piece[0] not in LEAVES
    refine ⟨_, rfl, p1, _, 0, _, rfl, rfl, .inl (.inl hp1), head_at _ _, L, leafVs, rfl, .inr (T.leaf H2), rfl, rfl, _, rfl, ?_⟩
    show if (!leafy t1.word) = true then _ else _
    cases hl : leafy t1.word with
    | true =>
      refine iteF ?_
      obtain ⟨x, et, _⟩ := leafs hl
      have noK : t1.kids = [] := by
        rw [et]
        rfl
      rw [noK] at e0 em
      rw [show es0 ++ ([] : List Tr).map (fun k => (k, inner t1.word r1)) = es0 by simp] at e0 em
      refine ⟨(visits es0).length, by omega, ef ++ [(t1, r1)], es0, _, vt0, _, _, y5, y6, rfl, ⟨same2, lf3, lt3, rf3, rt3, ?_, fun e he => W.ok e (List.mem_append.mpr (.inl he)), rfl⟩⟩
      rw [List.append_assoc]
      exact e0
    | false =>
      refine iteT ?_
      have kd := kids hl
      -- inner = beneath(piece, around)
      refine ⟨_, rfl, _, rfl, p1, t1.word, us, r1, rfl, hp1, ?_⟩
      -- piece[1:]
      refine ⟨_, rfl, 1, rfl, p1, _, rfl, .inl (.inl hp1), cut_not _ _, fun c nc => ?_⟩
      rw [cut_one]
      have k4 : Tups H2 (upd H2 c (.tup us)) := tups_same (same_new nc)
      have ncf : c ≠ pf := fun z => by
        rw [z, lf3] at nc
        cases nc
      have nct : c ≠ pt := fun z => by
        rw [z, lt3] at nc
        cases nc
      have len1 := kd.len
      refine ⟨c, rfl, ⟨_, .inl (.inl upd_same)⟩, for_tup (K := K) (a := c) (xs := us) (fun i σ' H' => ∃ (vt : List V) (y6 : Option V), σ' = [some v, some (.ref pf), some (.ref pt), some (.ref p1), some (.int (r1 : Int)), some (.int (inner t1.word r1 : Nat)), y6] ∧
          Same H H' ∧ Tups (upd H2 c (.tup us)) H' ∧ H' pf = some (.lst (vf ++ [.ref q2])) ∧ H' pt = some (.lst vt) ∧ All2 (Row H') (es0 ++ (t1.kids.take i).map fun k => (k, inner t1.word r1)) vt)
        ⟨vt0, y6, rfl, same_put same2 nc, Tups.refl _, (by rw [upd_ne ncf.symm]; exact lf3), (by rw [upd_ne nct.symm]; exact lt3), ?_⟩ (fun i σ' H' _ ⟨_, _, _, _, kt, _⟩ => .inl (.inl (kt _ _ upd_same))) ?_ ?_⟩
      · rw [show (t1.kids.take 0).map (fun k => (k, inner t1.word r1)) = [] by simp, List.append_nil]
        exact rt3.mono (Row.keep k4)
      · rintro i x σ' H' hx ⟨vt, y6', rfl, sm, kt, gf, gt, rr⟩
        obtain ⟨tk, htk, hax⟩ := kd.get hx
        have hax' : At H' tk x := hax.keep (k4.trans kt)
        have bnd : vt.length ≤ 4096 := by
          have l1 := rr.len
          have l2 : ((t1.kids.take i).map fun k => (k, inner t1.word r1)).length ≤ 2 := by
            rw [List.length_map, List.length_take]
            omega
          have l3 := big (ef ++ [(t1, r1)]) (es0 ++ t1.kids.map fun k => (k, inner t1.word r1)) (by rw [List.append_assoc]; exact e0)
          rw [List.length_append, List.length_append, List.length_map] at l3
          rw [List.length_append, List.length_map, List.length_take] at l1
          omega
        -- todo.append((part, inner))
        refine ⟨_, rfl, .inl ⟨rfl, _, .inl (.inl gt)⟩, _, rfl, _, rfl, (by show 2 ≤ sizeLine; decide), fun q3 nq3 => ?_⟩
        have ntq3 : pt ≠ q3 := ne_of_none gt nq3
        have nfq3 : pf ≠ q3 := ne_of_none gf nq3
        refine ⟨pt, vt, .ref q3, rfl, rfl, (by rw [upd_ne ntq3]; exact gt), line_of bnd, ?_⟩
        have k5 : Tups H' (upd (upd H' q3 (.tup [x, .int (inner t1.word r1 : Nat)])) pt (.lst (vt ++ [.ref q3]))) := (tups_same (same_new nq3)).trans (tups_put fun xs z => by
          rw [upd_ne ntq3, gt] at z
          cases z)
        refine ⟨vt ++ [.ref q3], some x, rfl, fun b u e => ?_, kt.trans k5, ?_, upd_same, ?_⟩
        · have nbt : b ≠ pt := fun z => by
            have z2 := s2.free nt
            rw [← z, e] at z2
            cases z2
          rw [upd_ne nbt, upd_ne (ne_of_none (sm _ _ e) nq3)]
          exact sm _ _ e
        · rw [upd_ne nft, upd_ne nfq3]
          exact gf
        · have et : t1.kids.take (i + 1) = t1.kids.take i ++ [tk] := by
            rw [List.take_add_one, htk]
            rfl
          rw [et, List.map_append, ← List.append_assoc]
          refine (rr.mono (Row.keep k5)).app (.one ⟨q3, x, rfl, ?_, hax'.keep k5⟩)
          rw [upd_ne ntq3.symm, upd_same]
      · rintro σ' H' ⟨vt, y6', rfl, sm, kt, gf, gt, rr⟩
        rw [← len1, List.take_length] at rr
        refine ⟨_, ?_, ef ++ [(t1, r1)], es0 ++ t1.kids.map (fun k => (k, inner t1.word r1)), _, vt, _, _, _, y6', rfl, ⟨sm, gf, gt, rf3.mono (Row.keep (k4.trans kt)), rr, by rw [List.append_assoc]; exact e0, fun e he => ?_, rfl⟩⟩
        · omega
        · rcases List.mem_append.mp he with z | z
          · exact W.ok e (List.mem_append.mpr (.inl z))
          · obtain ⟨k, hk, rfl⟩ := List.mem_map.mp z
            exact kids_ok ok1 k hk
end
end Kf
set_option Elab.async false
set_option linter.all false
set_option maxRecDepth 100000
set_option maxHeartbeats 4000000
/-! names_in; the law's walk _law_names. -/
namespace Kf
open PySem PySem.Spec PyProof.Rows L2 Sx
section
variable {P : Program} {w : World} {K : PySem.W.Frag} {mg : Str → Option Value} {base : Heap} {L B : Addr}
/-- the names of the tree, once each, rising -/
structure Rising (t : Tr) (ys : List Str) : Prop where
  pairs : ys.Pairwise Le
  nd : ys.Nodup
  mem : ∀ z, z ∈ ys ↔ z ∈ t.names
theorem Rising.one {t : Tr} {ys zs : List Str} (a : Rising t ys) (b : Rising t zs) : ys = zs := one_order ys zs a.pairs b.pairs a.nd b.nd fun x => (a.mem x).trans (b.mem x).symm
def spNamesIn : Sp := fun vs H Q _ => ∃ (v : V) (t : Tr) (ns : List Str), vs = [v] ∧ At H t v ∧ t.Ok ∧ t.deep ≤ 12 ∧ (∀ z ∈ t.names, z ∈ ns) ∧ ns.length ≤ 60 ∧
  ∀ (ys : List Str) (p : Addr) (H' : Hp), Same H H' → H p = none → H' p = some (.lst (ys.map V.str)) → Rising t ys → Q (.ref p) H'
theorem leaf_name {t : Tr} (ok : t.Ok) {H : Hp} {v : V} (h : At H t v) : ∃ p us, v = .ref p ∧ H p = some (.tup (.str t.word :: us)) ∧ (t.word = "name" → ∃ z, us = [.str z] ∧ leafName t = [z]) ∧ (t.word ≠ "name" → leafName t = []) := by
  obtain ⟨p, us, e, hp, _, kids, leafs⟩ := h.view ok
  refine ⟨p, us, e, hp, fun ew => ?_, fun nw => ?_⟩
  · have hl : leafy t.word = true := by
      rw [ew]
      decide +kernel
    obtain ⟨x, et, eu⟩ := leafs hl
    cases t with
    | leaf wd x2 =>
      have ex : x2 = x := by
        injection et
      subst ex
      rcases ok.2 with ⟨_, ne⟩ | ⟨⟨z, ez⟩, ew2⟩
      · exact absurd ew ne
      · refine ⟨z, by rw [eu, ez], ?_⟩
        show (if wd = "name" then (match x2 with | .str z => [z] | _ => []) else []) = [z]
        rw [if_pos ew2, ez]
    | n0 _ => cases et
    | n1 _ _ => cases et
    | n2 _ _ _ => cases et
  · cases t with
    | leaf wd x =>
      show (if wd = "name" then (match x with | .str z => [z] | _ => []) else []) = ([] : List Str)
      rw [if_neg (show ¬ wd = "name" from nw)]
    | n0 _ => rfl
    | n1 _ _ => rfl
    | n2 _ _ _ => rfl
theorem ok_names {f g : Addr} {fd gd : FuncData} (F : Fun K "names_in" "names_in" sNamesIn f fd) (G : FnOk P w K mg base CX0 2 g gd ["thing"] spPieces) (bG : Binds K gd ["thing"] []) (kG : PySem.W.keepIn K (.ref g) = true) (mG : mg "pieces_of" = some (.ref g)) (mS : mg "set" = none) (mO : mg "sorted" = none) :
    FnOk P w K mg base CX0 3 f fd ["thing"] spNamesIn := by
  refine F.ok scNamesIn (fun vs H Q E h => ?_) (fun cdv A outer s H vs Q E hr h => ?_)
  · obtain ⟨v, t, ns, rfl, _⟩ := h
    rfl
  obtain ⟨v, t, ns, rfl, hA, hO, hd, sub, few, q⟩ := h
  refine ⟨_, pss_cons (ps_set (i := 1) scNamesIn.nd rfl (.inl rfl) (pe_callTy0 cr_newX (by rfl) mS (by decide +kernel)))
    (pss_cons (ps_for PassesOwn.never rfl (pi_list (pe_call G hr (by rfl) mG kG bG .nil pass0 (pa_cons (pv 0) pa_nil))) (pg_tup (by rfl) (pgs_cons (pg_name (i := 2) scNamesIn.nd rfl (.inl rfl)) (pgs_cons (pg_name (i := 3) scNamesIn.nd rfl (.inl rfl)) pgs_nil)))
      (pss_one (ps_if (pt_cmpR op_eq (pe_ix ix_tup (pv 2) pe_int (fun _ _ => rfl)) pe_str (nomark _)) (pss_one (ps_expr (pe_addX (pv 1) (pa_cons (pe_ix ix_tup (pv 2) pe_int (fun _ _ => rfl)) pa_nil)))) pss_nil)))
    (pss_one (ps_ret (pe_callB (cr_sortX rfl) (by rfl) mO (by decide +kernel) (pa_cons (pv 1) pa_nil))))), ?_⟩
  refine ⟨rfl, fun S nS => ?_⟩
  have s1 : Same H (upd H S (SetX w S [])) := same_new nS
  refine ⟨_, rfl, v, t, rfl, hA.keep (tups_same s1), hO, hd, fun p H1 vf sm np hp rows => ?_⟩
  have hS1 : H1 S = some (SetX w S []) := sm _ _ upd_same
  have npS : p ≠ S := fun z => by
    rw [z, upd_same] at np
    cases np
  have all := post_names t 0
  refine ⟨p, rfl, ⟨_, .inl (.inl hp)⟩, for_list (K := K) (a := p) (xs := vf) (fun i σ H' => ∃ (ks : List Str) (y2 y3 : Option V), σ = [some v, some (.ref S), y2, y3] ∧ But S H1 H' ∧ H' S = some (SetX w S ks) ∧ ks.Nodup ∧ ∀ z, z ∈ ks ↔ z ∈ ((t.post 0).take i).flatMap fun (e : Tr × Nat) => leafName e.1)
    ⟨[], none, none, rfl, But.refl _ _, hS1, List.nodup_nil, fun z => by simp⟩ (fun i σ H' _ ⟨_, _, _, _, b, _⟩ => .inl (.inl (b _ _ npS hp))) ?_ ?_⟩
  · rintro i y σ H' hy ⟨ks, y2, y3, rfl, b, hS, nd, mem⟩
    obtain ⟨⟨t1, r1⟩, he, ⟨q1, x1, rfl, h1, a1⟩⟩ := rows.get hy
    have k1 : Tups H1 H' := fun c xs e => b c _ (fun z => by rw [z, hS1] at e; cases e) e
    have a2 : At H' t1 x1 := At.keep k1 a1
    have ok1 : t1.Ok := post_ok t 0 hO (t1, r1) (List.mem_of_getElem? he)
    obtain ⟨p1, us, rfl, hp1, isN, noN⟩ := leaf_name ok1 a2
    have et : ((t.post 0).take (i + 1)).flatMap (fun (e : Tr × Nat) => leafName e.1) = ((t.post 0).take i).flatMap (fun (e : Tr × Nat) => leafName e.1) ++ leafName t1 := by
      rw [List.take_add_one, he, List.flatMap_append]
      show _ ++ ([(t1, r1)].flatMap fun (e : Tr × Nat) => leafName e.1) = _
      simp
    refine ⟨q1, [.ref p1, .int (r1 : Int)], rfl, .inl (.inl (k1 _ _ h1)), rfl, .ref p1, [.int (r1 : Int)], rfl, .int (r1 : Int), [], rfl, rfl, ?_⟩
    refine ⟨_, rfl, p1, _, 0, _, rfl, rfl, .inl (.inl hp1), head_at _ _, rfl, _, rfl, ?_⟩
    refine ite2 (fun c => ?_) (fun c => ?_)
    · have ew : t1.word = "name" := by
        have z := of_decide_eq_true c
        injection z
      obtain ⟨z, eu, el⟩ := isN ew
      have ksub : ∀ k ∈ ks, k ∈ ns := fun k hk => sub k (by
        rw [← all]
        obtain ⟨e, e1, e2⟩ := List.mem_flatMap.mp ((mem k).1 hk)
        exact List.mem_flatMap.mpr ⟨e, List.mem_of_mem_take e1, e2⟩)
      have kfew := nodup_le ks ns nd ksub
      refine ⟨_, rfl, ⟨S, ks, rfl, hS⟩, _, rfl, p1, _, 1, .str z, rfl, rfl, .inl (.inl hp1), (by rw [eu]; exact atI_nat (j := 1) rfl), S, z, ks, rfl, rfl, hS, (by unfold scanBound; omega), ?_⟩
      refine ⟨ins z ks, _, _, rfl, b.own, upd_same, ins_nodup nd, fun j => ?_⟩
      rw [ins_mem, et, List.mem_append, el, List.mem_singleton, mem j]
      exact Or.comm
    · have nw : t1.word ≠ "name" := fun z => c (by rw [z]; exact decide_eq_true rfl)
      refine ⟨ks, _, _, rfl, b, hS, nd, fun j => ?_⟩
      rw [et, noN nw, List.append_nil]
      exact mem j
  · rintro σ H' ⟨ks, y2, y3, rfl, b, hS, nd, mem⟩
    rw [← rows.len, List.take_length, all] at mem
    have kfew := nodup_le ks ns nd fun k hk => sub k ((mem k).1 hk)
    refine ⟨_, rfl, S, ks, rfl, hS, by omega, fun ys l pm ynd srt nl => ?_⟩
    refine q ys l _ (fun c u e => ?_) ?_ upd_same ⟨sorted_pairs ys srt, ynd, fun z => (pm.mem_iff).trans (mem z)⟩
    · have ncS : c ≠ S := ne_of_none e nS
      have e1 := b _ _ ncS (sm _ _ (s1 _ _ e))
      rw [upd_ne (ne_of_none e1 nl)]
      exact e1
    · cases hl : H l with
      | none => rfl
      | some u =>
        have ncS : l ≠ S := ne_of_none hl nS
        have e1 := b _ _ ncS (sm _ _ (s1 _ _ hl))
        rw [nl] at e1
        cases e1
theorem leaf_none {t : Tr} (h : leafName t = []) (hl : leafy t.word = true) (ok : t.Ok) : t.names = [] := by
  cases t with
  | leaf wd x => exact h
  | n0 wd => rfl
  | n1 wd a => exact (no_leaf ok.1 hl).elim
  | n2 wd a b => exact (no_leaf ok.1 hl).elim
theorem names_kids {t : Tr} (hl : leafy t.word = false) (ok : t.Ok) : t.names = t.kids.flatMap Tr.names := by
  cases t with
  | leaf wd x => exact (no_leaf hl ok.1).elim
  | n0 wd => rfl
  | n1 wd a => simp [Tr.names, Tr.kids]
  | n2 wd a b => simp [Tr.names, Tr.kids]
theorem kids_deep {t k : Tr} (h : k ∈ t.kids) : k.deep + 1 ≤ t.deep := by
  cases t with
  | leaf wd x => cases h
  | n0 wd => cases h
  | n1 wd a =>
    rw [List.mem_singleton.mp h]
    exact Nat.le_refl _
  | n2 wd a b =>
    rcases List.mem_cons.mp h with z | z
    · rw [z]
      exact Nat.succ_le_succ (Nat.le_max_left _ _)
    · rw [List.mem_singleton.mp z]
      exact Nat.succ_le_succ (Nat.le_max_right _ _)
abbrev endVs : List V := [.str "num", .str "bound", .str "no"]
theorem ends_or (wd : Str) (h : inV (.str wd) endVs = false) (hl : leafy wd = true) : wd = "name" := by
  have e1 : ∀ k : Str, eqV (.str k) (.str wd) = decide (k = wd) := fun k => by
    unfold eqV
    rfl
  unfold inV endVs at h
  unfold leafy inV leafVs at hl
  simp only [List.any_cons, List.any_nil, e1, Bool.or_false, Bool.or_eq_false_iff, Bool.or_eq_true, decide_eq_true_eq, decide_eq_false_iff_not] at h hl
  rcases hl with z | z | z
  · exact absurd z h.1
  · exact z.symm
  · exact absurd z h.2.1
theorem names_leaf {t : Tr} (hl : leafy t.word = true) (ok : t.Ok) : t.names = leafName t := by
  cases t with
  | leaf wd x => rfl
  | n0 wd => rfl
  | n1 wd a => exact (no_leaf ok.1 hl).elim
  | n2 wd a b => exact (no_leaf ok.1 hl).elim
theorem end_word {wd : Str} (h : inV (.str wd) endVs = true) : wd = "num" ∨ wd = "bound" ∨ wd = "no" := by
  have e1 : ∀ k : Str, eqV (.str k) (.str wd) = decide (k = wd) := fun k => by
    unfold eqV
    rfl
  unfold inV endVs at h
  simp only [List.any_cons, List.any_nil, e1, Bool.or_false, Bool.or_eq_true, decide_eq_true_eq] at h
  rcases h with z | z | z
  · exact .inl z.symm
  · exact .inr (.inl z.symm)
  · exact .inr (.inr z.symm)
theorem kids_not {t : Tr} (no : t.Not) : ∀ a ∈ t.kids, a.Not := by
  cases t with
  | leaf w x => intro a h; cases h
  | n0 w => intro a h; cases h
  | n1 w a =>
    intro c h
    rw [List.mem_singleton.mp h]
    exact no.2
  | n2 w a b =>
    intro c h
    rcases List.mem_cons.mp h with z | z
    · rw [z]
      exact no.2.1
    · rw [List.mem_singleton.mp z]
      exact no.2.2
end
end Kf
set_option Elab.async false
set_option linter.all false
set_option maxRecDepth 100000
set_option maxHeartbeats 3900000
/-! A lambda with parameters and captured names, handed as the second of two to a def, called there. Its frame is begun as that of a def within a def. -/
namespace LmY
open PySem PySem.Spec PyProof.Rows L2 LamX NdefX
/-- the lambda as a def within the def of X, whose code object is k -/
abbrev lamF (X : Cx) (ar : Arguments) (sc : Scope) (k : Addr) : NF := ⟨"<lambda>", X.env.qual ++ "<lambda>", ar, [], sc, cloFrom X.env.cells sc.names [], k⟩
/-- where its body runs: its names are N -/
abbrev lamX (X : Cx) (N : List Str) (ar : Arguments) (sc : Scope) (fo k : Addr) (A : Around) (outer : List Env) (sh : Shared) (hp : Hp) : Cx := ncx L2.CX0 X.prog X.w X.K X.mg X.base N (lamF X ar sc k) fo A outer sh hp L2.E0
/-- where the def runs that got it, entered from X's frame -/
abbrev gotX (X : Cx) (Ng : List Str) (x : Str) (sg : Scope) (g : Addr) (cg : Value) (sh : Shared) (hp : Hp) : Cx := (cxOf L2.CX0 X.prog X.w X.K X.mg X.base Ng x sg g cg X.A X.stack sh hp L2.E0).nox
/-- cells that no def of the text writes hold what they held -/
theorem cells_stay {cl : List (Str × Addr)} {fr : List Str} {ws : List (Option V)} {g g2 : Heap} {hp hp2 : Hp} {fs : List Addr} (un : Un fs [] hp hp2 g g2) (cs : CellsAt cl fr ws g hp) : CellsAt cl fr ws g2 hp2 := by
  have still : ∀ a, hp a = none → ∀ val, g.IsCell a val → g2.IsCell a val := fun a off val ⟨ob, at1, dat⟩ => by
    obtain ⟨_, at2⟩ := un.any at1 off List.not_mem_nil
    exact ⟨_, at2, dat⟩
  refine ⟨cs.len, fun nm a e => ?_, cs.inj, fun j nm e => ?_⟩
  · obtain ⟨off, val, cell⟩ := cs.all nm a e
    obtain ⟨ob, at1, _⟩ := id cell
    exact ⟨un.free a ob at1 off List.not_mem_nil, val, still a off val cell⟩
  · obtain ⟨a, e1, has⟩ := cs.has j nm e
    refine ⟨a, e1, fun z ez => ?_⟩
    obtain ⟨u, rz, cell⟩ := has z ez
    exact ⟨u, rz, still a (cs.all nm a e1).1 _ cell⟩
section
variable {X : Cx} {pins : List (Addr × Obj)} {σ : L2.St} {H : Hp} {s : Shared}
/-- a call that ends without an exception, told to its caller -/
theorem land {fo : Addr} {us : List Value} {Q : VK} (I : Inv X pins σ H s) (run : codeAny (model X.prog X.w) X.A (.call (.ref fo) ⟨us, []⟩) (CR L2.CX0 X.stack X.prog X.w H s Q L2.E0) s) :
    wpAny (model X.prog X.w) X.A (call (.ref fo) us) (EP X pins σ Q) X.xe s :=
  wpAny_call (codeAny_mono run fun res s2 told => match res, told with
    | .ok (.ret _), told => I.after told
    | .ok .next, told => told.elim
    | .ok .brk, told => told.elim
    | .ok .cont, told => told.elim
    | .error _, told => (show False from told).elim)
/-- x(e, ..), in the def that got the lambda as x -/
theorem pe_lact {N ps fr Ng : List Str} {js : List Nat} {qg : Str} {sg : Scope} {g fo k : Addr} {cg pm ctv : Value} {ar : Arguments} {body : Expr} {sc : Scope} {m i : Nat} {a : Str} {tb : TE} {p1 p2 : Pos} {e : Expr} {es : List Expr} {t : TA}
    (I : Inv X pins σ H s) (S : NScope N ps fr sc) (cp : Caps X (cloFrom X.env.cells sc.names []) fr js)
    (at_ : s.heap.get? fo = some (PySem.W.kla_obj "<lambda>" (X.env.qual ++ "<lambda>") ar body sc (cloFrom X.env.cells sc.names []) pm k ctv)) (off : H fo = none) (noF : fo ∉ frs X.stack)
    (bind : ∀ us : List Value, us.length = ps.length → bindArgs (PySem.W.kla_fn "<lambda>" (X.env.qual ++ "<lambda>") ar body sc (cloFrom X.env.cells sc.names []) pm (.ref k) ctv) ⟨us, []⟩ = pure (ps.zip us))
    (room : Room (m + 1) (X.A.deeper (envOfC qg sg s.heap.objs.size g cg)))
    (inner : ∀ (A : Around) (outer : List Env) (sh : Shared) (hp : Hp), Room m (A.deeper (envF (lamF X ar sc k) fo sh.heap.objs.size)) → PE (lamX X N ar sc fo k A outer sh hp) body tb)
    (hN : Ng[i]? = some a) (hv : Vis sg a) (pa : PA (gotX X Ng qg sg g cg s H) (e :: es) t)
    (h1 : (a == ("__debug__" : Str)) = false := by decide) (h2 : (a == ("__classdict__" : Str)) = false := by decide)
    (h3 : starEach (e :: es) (envOfC qg sg s.heap.objs.size g cg) = (false, eval e (envOfC qg sg s.heap.objs.size g cg)) :: starEach es (envOfC qg sg s.heap.objs.size g cg) := by rfl)
    (h4 : (backTo p2 (starEach es (envOfC qg sg s.heap.objs.size g cg))).any (·.1) = false := by rfl) :
    PE (gotX X Ng qg sg g cg s H) (.Call (.Name a p1) (e :: es) [] p2)
      (fun σZ HZ Q => σZ[i]? = some (some (.ref fo)) ∧ t σZ HZ fun vs H1 => vs.length = ps.length ∧ H1 k = some (CodeO k (X.env.qual ++ "<lambda>")) ∧ tb (startF N vs (js.map (slotAt σ))) H1 Q) := by
  refine ⟨fun pinsZ sZ σZ HZ Q IZ ⟨slot, rest⟩ => ?_⟩
  have same : ∀ {pn : List (Addr × Obj)} {τ : L2.St} {hp : Hp} {sh : Shared}, Inv (gotX X Ng qg sg g cg s H) pn τ hp sh → sh.heap.get? fo = some (PySem.W.kla_obj "<lambda>" (X.env.qual ++ "<lambda>") ar body sc (cloFrom X.env.cells sc.names []) pm k ctv) :=
    fun J => J.base.keep fo _ at_ off noF List.not_mem_nil
  have name := (pe_var (X := gotX X Ng qg sg g cg s H) (pos := p1) (i := i) hN hv h1 h2).run pinsZ sZ σZ HZ (fun val hp => val = .ref fo ∧ hp = HZ) IZ ⟨.ref fo, slot, rfl, rfl⟩
  refine wpAny_Call_Name_kw (thn name fun val s1 ⟨_, _, I1, rel, ev, eh⟩ => ?_)
  subst ev eh
  cases (show val = Value.ref fo from rel)
  refine PySem.W.callWith_F (first := []) ⟨_, _, _, _, same I1⟩ (thn (pa.run p2 pinsZ s1 σZ _ _ I1 rest) fun us s2 ⟨vs, H2, I2, rv, len, code, ht⟩ => ⟨⟨_, _, _, _, same I2⟩, land (us := us) I2 ?_⟩) h3 h4
  obtain ⟨⟨oc, fields, tq, o1, o2, o3⟩, _, _⟩ := I2.hok k _ code
  refine PySem.W.kla_callFunE room.depth (same I2) rfl S.co S.gen rfl ⟨k, oc, fields, tq, rfl, o1, o2, o3⟩ ?_
  rw [bind us (rv.length.symm.trans len)]
  refine wpAny_pure (wpAny_newFunctionEnv (fun y hy => S.nocell y hy) (fun y hy => S.par y.1 (List.of_mem_zip hy).1) (fun g1 ns1 more => ⟨I2.nolimit.fresh _ more, ?_⟩) S.kind)
  have grown : ∀ b ob, s2.heap.get? b = some ob → g1.get? b = some ob := fun b ob eb => more.extBut b ob (Nat.ne_of_lt (Heap.lt_size eb)) (Heap.get?_push_of_some _ eb)
  have J := inv_startN (CX := L2.CX0) (E := L2.E0) (tk := s2.toks + (ps.zip us).length) (F := lamF X ar sc k) (f := fo) S room.hd I2.env0 len rv (cells_stay I2.base (cells_of I cp)) ns1 grown
  refine PySem.W.kla_codeExpr (wpAny_mono ((inner _ _ s2 H2 (room.deeper _)).run [] _ _ H2 Q J ht) (fun _ s3 ⟨w3, H3, J3, r3, q3⟩ => ?_) fun _ _ bad => bad)
  exact ⟨w3, H3, J3.os, J3.bare, J3.base, J3.hok, r3, q3⟩
end
/-- what the def that got the lambda makes of its calls: TT -/
def Gives2 (X : Cx) (Ng : List Str) (x : Str) (sg : Scope) (g : Addr) (cg : Value) (bg : List Stmt) (a : Str) (q : Str) (ps : List Str) (m : Nat) (TT : (List V → Hp → VK → Prop) → V → Hp → VK → Prop) : Prop :=
  ∀ (fo k : Addr) (s : Shared) (H : Hp) (v : V) (Q : VK) (tl : List V → Hp → VK → Prop),
    (∀ (p1 p2 : Pos) (e : Expr) (es : List Expr) (t : TA), PA (gotX X Ng x sg g cg s H) (e :: es) t →
      starEach (e :: es) (envOfC x sg s.heap.objs.size g cg) = (false, eval e (envOfC x sg s.heap.objs.size g cg)) :: starEach es (envOfC x sg s.heap.objs.size g cg) → (backTo p2 (starEach es (envOfC x sg s.heap.objs.size g cg))).any (·.1) = false →
      PE (gotX X Ng x sg g cg s H) (.Call (.Name a p1) (e :: es) [] p2) (fun σZ HZ Q => σZ[1]? = some (some (.ref fo)) ∧ t σZ HZ fun vs H1 => vs.length = ps.length ∧ H1 k = some (CodeO k q) ∧ tl vs H1 Q)) →
    Room (m + 1) (X.A.deeper (envOfC x sg s.heap.objs.size g cg)) → H k = some (CodeO k q) → TT tl v H Q →
    ∃ t, PSs (gotX X Ng x sg g cg s H) bg t ∧ t { nx := fun _ H' => Q .non H', rt := Q } (L2.start Ng [v, .ref fo]) H
def tLam2 (T : List (Addr × Str)) (N : List Str) (js : List Nat) (TT : (List V → Hp → VK → Prop) → V → Hp → VK → Prop) (te : TE) (t : TE) : TE := fun σ H Q => te σ H fun v H0 => Tabs T H0 ∧ ∀ H1, ExtN H0 H1 → Tabs T H1 → TT (fun vs H' Q' => t (startF N vs (js.map (slotAt σ))) H' Q') v H1 Q
section
variable {X : Cx}
/-- x(e, lambda ..: body) -/
theorem pe_lamcall2 {T : List (Addr × Str)} {TT : (List V → Hp → VK → Prop) → V → Hp → VK → Prop} {x a0 a : Str} {g c tab : Addr} {m : Nat} {pg : Arguments} {bg : List Stmt} {sg : Scope} {dV kV doc pm cdv ct oc : Value} {an od : Option Addr} {osl : Array (Option Value)} {N Ng ps fr : List Str} {js : List Nat}
    {ar : Arguments} {body e : Expr} {sc : Scope} {te t : TE} {p0 p1 p2 : Pos} (gx : Gl X x) (mx : X.mg x = some (.ref g)) (kx : PySem.W.keepIn X.K (.ref g) = true)
    (look : X.K.lookup g = some ⟨oc, od, .func (PySem.W.fnOf x x pg bg sg dV kV doc pm an cdv ct), osl⟩) (code : PySem.W.codeIn X.K cdv x = true) (bx : L2.Binds X.K (PySem.W.fnOf x x pg bg sg dV kV doc pm an cdv ct) [a0, a] []) (Sg : FnScope Ng [a0, a] sg) (second : Ng[1]? = some a) (seen : Vis sg a)
    (gives : Gives2 X Ng x sg g cdv bg a (X.env.qual ++ "<lambda>") ps m TT) (pe : PE X e te)
    (own : TabB X.base X.mg c tab) (mine : X.env.code = .ref c) (inT : (tab, X.env.qual ++ "<lambda>") ∈ T) (sole : ∀ p ∈ T, p.1 = tab → p.2 = X.env.qual ++ "<lambda>") (room : Room (m + 2) X.A)
    (S : NScope N ps fr sc) (held : ndefB X.env.scope sc fr = true) (slots : js.map (fun j => X.N[j]?) = fr.map some) (plain : defaultsOf ar X.env = ([], []))
    (bind : ∀ (q : Str) (cl : List (Str × Addr)) (pm cv ctv : Value) (us : List Value), us.length = ps.length → bindArgs (PySem.W.kla_fn "<lambda>" q ar body sc cl pm cv ctv) ⟨us, []⟩ = pure (ps.zip us))
    (inner : ∀ (A : Around) (outer : List Env) (sh : Shared) (hp : Hp) (fo k : Addr), Room m (A.deeper (envF (lamF X ar sc k) fo sh.heap.objs.size)) → PE (lamX X N ar sc fo k A outer sh hp) body t)
    (h0 : (x == ("__debug__" : Str)) = false := by decide) (h1 : (a == ("__debug__" : Str)) = false := by decide) (h2 : (a == ("__classdict__" : Str)) = false := by decide)
    (h3 : starEach (e :: [.Lambda ar body sc p1]) X.env = (false, eval e X.env) :: starEach [.Lambda ar body sc p1] X.env := by rfl) :
    PE X (.Call (.Name x p0) [e, .Lambda ar body sc p1] [] p2) (tLam2 T N js TT te t) := by
  refine ⟨fun pins s σ H Q I reading => wpAny_Call_Name_kw (ld_glob I gx mx (PySem.W.callWith_K (h₀ := X.base) I.ok.mod.kin kx ?_ h3 (by rfl)) h0)⟩
  rw [h3]
  show wpAny _ _ (spliced ((false, eval e X.env) :: backTo p2 (starEach [.Lambda ar body sc p1] X.env))) _ _ s
  refine Calls.spliced_cons (thn (pe.run pins s σ H _ I reading) fun u s0 ⟨v, H0, I0, r0, tabs0, later⟩ => ?_)
  show wpAny _ _ (spliced ((false, eval (.Lambda ar body sc p1) X.env) :: backTo p2 (starEach [] X.env))) _ _ s0
  refine Calls.spliced_cons (lam_make2 I0 own mine inT sole tabs0 plain (fun y hy e => (ndef_free held y hy e).elim (fun z => I0.ok.has _ (.inl z)) fun z => I0.ok.has _ (.inr z)) fun fo k pmF ctF H1 s1 I1 grown tabs1 at_ off noF codeK => Calls.spliced_nil ⟨I1.kIn, land I1 ?_⟩)
  refine run_ofS (N := Ng) (ps := [a0, a]) (us := [u, .ref fo]) (vs := [v, .ref fo]) look code Sg room I1.env0 (bx s1 [u, .ref fo] I1.kIn rfl) (.cons r0 (.cons rfl .nil)) rfl fun room1 => ?_
  obtain ⟨ts, run, told⟩ := gives fo k s1 H1 v Q _ (fun q1 q2 e1 es1 t1 pa he hp => pe_lact (i := 1) (js := js) I1 S (Caps.made I1.ok (ndef_free held) (ndef_fr held) slots) at_ off noF (fun us hl => bind _ _ _ _ _ us hl) room1 (fun A outer sh hp2 r2 => inner A outer sh hp2 fo k r2) second seen pa h1 h2 he hp) room1 codeK (later H1 grown tabs1)
  exact ⟨ts, run.nox, told⟩
end
end LmY
set_option Elab.async false
set_option linter.all false
set_option maxRecDepth 100000
set_option maxHeartbeats 4000000
/-! del xs[a:] of a list. -/
namespace L2
open PySem PySem.Spec PyProof.Rows
open PySem.SeqAt
open PySem.AutoSeq1 (wpAny_loadPart')
open PySem.MeetsSeq PySem.MeetsSeq2 PySem.MeetsSeq3
theorem keep_first (a : Nat) (f : Nat → Bool) : ∀ (its : List Value) (m : Nat), (∀ k, k < m + its.length → f k = decide (a ≤ k)) → (its.zipIdx m).filterMap (fun p => if f p.2 = true then none else some p.1) = its.take (a - m)
  | [], m, _ => by simp
  | x :: r, m, h => by
    have ih := keep_first a f r (m + 1) fun k hk => h k (by rw [List.length_cons]; omega)
    have hm := h m (by rw [List.length_cons]; omega)
    rw [List.zipIdx_cons]
    by_cases c : a ≤ m
    · rw [List.filterMap_cons_none (by show (if f m = true then none else some x) = none; rw [hm, decide_eq_true c]; rfl), ih, show a - (m + 1) = 0 by omega, show a - m = 0 by omega]
      rfl
    · rw [List.filterMap_cons_some (b := x) (by show (if f m = true then none else some x) = some x; rw [hm, decide_eq_false c]; rfl), ih, show a - m = (a - (m + 1)) + 1 by omega]
      rfl
section
variable {prog : Program} {w : World} {A : Around} {E : Value → Shared → Prop} {s : Shared}
theorem bounds_from {a n : Nat} (ha : a ≤ n) : sliceBounds (some (a : Int)) none none n = ((a : Int), (n : Int), 1) := by
  simp only [sliceBounds, Option.getD_none]
  have h1 : ¬ ((a : Int) < 0) := by omega
  simp only [h1, if_false, show (1 : Int) > 0 by decide, if_true]
  congr 1
  omega
theorem sel_from {a n k : Nat} (hk : k < n) : (decide ((a : Int) ≤ (k : Int)) && decide ((k : Int) < (n : Int)) && (((k : Int) - (a : Int)) % 1 == 0)) = decide (a ≤ k) := by
  have e1 : decide ((k : Int) < (n : Int)) = true := decide_eq_true (by omega)
  have e2 : ((((k : Int) - (a : Int)) % 1) == 0) = true := by rw [Int.emod_one]; rfl
  rw [e1, e2, Bool.and_true, Bool.and_true]
  by_cases c : a ≤ k
  · rw [decide_eq_true c, decide_eq_true (by omega)]
  · rw [decide_eq_false c, decide_eq_false (by omega)]
/-- list.__delitem__ with a slice from a to the end -/
theorem delItem_from {l sl : Addr} {items : Array Value} {n : Nat} {vl vu : Value} {a : Nat} {Q : Unit → Shared → Prop}
    (here : s.heap.get? l = some { cls := .type "list", data := .seq items n })
    (cut : s.heap.IsSliceOf sl vl vu .none) (low : IsPart vl (some (a : Int))) (high : IsPart vu none) (within : a ≤ items.size)
    (room : items.size ≤ sizeLine) (h : ∀ f : Array Value → Array Value, f items = (items.toList.take a).toArray → Q () { s with heap := s.heap.update l (Obj.mapSeq f) }) :
    wpAny (model prog w) A (delItem (.ref l) (.ref sl)) Q E s := by
  have lst : s.heap.IsList l items := PySem.IsL.isList here
  obtain ⟨cutO, cutAt, cutCls, cutDat⟩ := id cut
  have slT : s.TypeIs (.ref sl) "slice" := ⟨cutO, cutAt, cutCls⟩
  have noStep : ¬ ((rawPart none == rawInt 0) = true) := fun z => by cases z
  refine wpAny_delItem_slot lst.typeIs (by decide) F.slot_list_delitem (wpAny_call_entry F.slot_list_delitem lst.typeIs F.entry_list_delitem ?_ (F.args_list_delitem_2 _ _))
  refine wpAny_bind (m := Builtin.List.listSubscript? (.ref sl)) ?_
  rw [Builtin.List.listSubscript?]
  refine wpAny_bind (wpAny_specialOf slT slice_no_index ?_)
  rw [if_pos (show (none : Option Value).isNone = true from rfl)]
  refine wpAny_pure (wpAny_bind (m := typeOf (.ref sl)) (wpAny_typeOf slT ?_))
  first
    | rw [if_neg (by decide)]
    | refine (PySem.W.KFB.if_not (by decide) ?_)
  rw [listSliceParts_eq]
  refine wpAny_bind (wpAny_bind (wpAny_field cutAt cutDat (x := .none) rfl (wpAny_bind (wpAny_listPart .none ?_))))
  rw [if_neg noStep]
  refine wpAny_bind (wpAny_field cutAt cutDat (x := vl) rfl (wpAny_bind (wpAny_listPart low (wpAny_bind (wpAny_field cutAt cutDat (x := vu) rfl (wpAny_bind (wpAny_listPart high (wpAny_pure ?_))))))))
  unfold Builtin.List.listItems
  refine wpAny_bind (wpAny_bind (wpAny_seqItems here rfl (wpAny_pure (wpAny_bind (wpAny_of_eq ((sliceIndices_raw (some (a : Int)) none none items.size (by simp)).trans (congrArg (pure : Int × Int × Int → Sem (Int × Int × Int)) (bounds_from within))) (wpAny_bind (wpAny_rule ?_)))))))
  refine wpAny_bind (m := updateSeq l _) (wpAny_updateSeq (hz := room) (_hz' := ?_) here rfl ?_)
  · refine wpAny_bind (wpAny_letGo (wpAny_pure ⟨.none, rfl, h _ ?_⟩))
    exact congrArg List.toArray (keep_first a _ items.toList 0 fun k hk => (if_pos (show (1 : Int) > 0 by decide)).trans (sel_from (by rw [Nat.zero_add, Array.length_toList] at hk; exact hk)))
  · refine Nat.le_trans (Nat.le_trans (by rw [List.size_toArray]; exact List.length_filterMap_le _ _) ?_) (Nat.le_add_right _ _)
    rw [List.length_zipIdx, Array.length_toList]
    exact room
end
section
variable {X : Cx}
/-- del xs[a:], at the value level -/
theorem del_from {pins : List (Addr × Obj)} {s : Shared} {σ : St} {H : Hp} {l sl : Addr} {xs : List V} {a : Int} {vl vu : Value} {Q : Unit → Shared → Prop} (I : Inv X pins σ H s)
    (hH : H l = some (.lst xs)) (hs : s.heap.IsSliceOf sl vl vu .none) (pl : IsPart vl (some a)) (pu : IsPart vu none) (h0 : 0 ≤ a) (ha : a ≤ xs.length)
    (h : ∀ s', Inv X pins σ (upd H l (.lst (xs.take a.toNat))) s' → Q () s') :
    wpAny (model X.prog X.w) X.A (delItem (.ref l) (.ref sl)) Q X.xe s := by
  obtain ⟨z, its, n, r, hl, e⟩ := I.lstM hH
  obtain ⟨a', rfl⟩ := Int.eq_ofNat_of_zero_le h0
  simp only [Int.toNat_natCast] at h
  refine delItem_from (a := a') e hs pl pu (by rw [List.size_toArray]; omega) (by rw [List.size_toArray]; omega) fun f hf => h _ ?_
  refine I.lset (its' := its.take a') (t' := s.toks) hH e hf (r.take _) ?_
  rw [List.length_take]
  omega
/-- del xs[a:] -/
def tDelF (to : TE) (tl : TO) : TS := fun D σ H => to σ H fun x H1 => tl σ H1 fun lo H2 => ∃ (l : Addr) (xs : List V) (a : Int), x = .ref l ∧ lo = some a ∧ H2 l = some (.lst xs) ∧ 0 ≤ a ∧ a ≤ xs.length ∧ D.nx σ (upd H2 l (.lst (xs.take a.toNat)))
theorem ps_delF {o : Expr} {lo : Option Expr} {to : TE} {tl : TO} {tpos p2 pos : Pos} (ho : PE X o to) (hl : PO X lo tl) : PS X (.Delete [.Subscript o (.Slice lo none none p2) tpos] pos) (tDelF to tl) := by
  refine ⟨fun pins s σ H D I h => ?_⟩
  refine wpAny_Delete (wpAny_deleteEach_cons (wpAny_delete_Subscript (thn (ho.run pins s σ H _ I h) fun u s1 ⟨x, H1, I1, rx, q1⟩ => ?_)))
  refine wpAny_Slice (thn (hl.run pins s1 σ H1 _ I1 q1) fun vl s2 ⟨l, H2, I2, pl, q2⟩ => ?_)
  rw [evalPart_none]
  refine wpAny_pure ?_
  refine wpAny_pure ?_
  obtain ⟨a, xs, k, rfl, rfl, hH, h0, ha, q⟩ := q2
  cases (show u = Value.ref a from rx)
  have I4 : Inv X pins σ H2 { s2 with heap := s2.heap.push { cls := .type "slice", data := .fields #[vl, .none, .none] } } := I2.kept (t' := s2.toks) fun b ob q => Heap.get?_push_of_some _ q
  exact del_from I4 hH (Heap.IsSliceOf.new ..) pl .none h0 ha fun s3 I3 => wpAny_deleteEach_nil ⟨σ, _, I3, q⟩
end
end L2
set_option Elab.async false
set_option linter.all false
set_option maxRecDepth 100000
set_option maxHeartbeats 4000000
set_option pp.maxSteps 400
/-! changed, with a lambda. -/
namespace Kf
open PySem PySem.Spec PyProof.Rows L2 Sx LmY
abbrev sChanged : Stmt := top 9
theorem scChanged : FnScope ["thing", "leaf", "done", "piece", "around", "first", "parts"] ["thing", "leaf"] (defScope sChanged) := ⟨rfl, rfl, rfl, by decide +kernel, rfl, by decide +kernel, by decide +kernel⟩
/-! ### what it makes -/
def chg (g : Tr → Nat → Tr) : Tr → Nat → Tr
  | .leaf w x, r => g (.leaf w x) r
  | .n0 w, _ => .n0 w
  | .n1 w a, r => .n1 w (chg g a (inner w r))
  | .n2 w a b, r => .n2 w (chg g a (inner w r)) (chg g b (inner w r))
def node (w : Str) : List Tr → Tr
  | [a] => .n1 w a
  | [a, b] => .n2 w a b
  | _ => .n0 w
def stp (g : Tr → Nat → Tr) (st : List Tr) (e : Tr × Nat) : List Tr :=
  if leafy e.1.word = true then st ++ [g e.1 e.2] else st.take (st.length - e.1.kids.length) ++ [node e.1.word (st.drop (st.length - e.1.kids.length))]
def Runs (g : Tr → Nat → Tr) (res : List Tr) : List (Tr × Nat) → List Tr → Prop
  | [], st => st = res
  | e :: es, st => (leafy e.1.word = false → e.1.kids.length ≤ st.length) ∧ Runs g res es (stp g st e)
theorem runs_post {g : Tr → Nat → Tr} {res : List Tr} : ∀ (t : Tr) (r : Nat) (es : List (Tr × Nat)) (st : List Tr), t.Ok → Runs g res es (st ++ [chg g t r]) → Runs g res (t.post r ++ es) st
  | .leaf w x, r, es, st, ok, h => ⟨fun z => (no_leaf z ok.1).elim, by
    show Runs g res es (if leafy w = true then _ else _)
    rw [if_pos ok.1]
    exact h⟩
  | .n0 w, r, es, st, ok, h => ⟨fun _ => Nat.zero_le _, by
    show Runs g res es (if leafy w = true then _ else _)
    rw [if_neg (fun z => no_leaf ok z)]
    show Runs g res es (st.take (st.length - 0) ++ [node w (st.drop (st.length - 0))])
    rw [Nat.sub_zero, List.take_length, List.drop_length]
    exact h⟩
  | .n1 w a, r, es, st, ok, h => by
    show Runs g res (a.post (inner w r) ++ [(.n1 w a, r)] ++ es) st
    rw [List.append_assoc]
    refine runs_post a _ _ _ ok.2 ⟨fun _ => ?_, ?_⟩
    · rw [List.length_append]
      exact Nat.le_add_left 1 _
    · show Runs g res es (if leafy w = true then _ else _)
      rw [if_neg (fun z => no_leaf ok.1 z)]
      show Runs g res es (List.take ((st ++ [chg g a (inner w r)]).length - 1) (st ++ [chg g a (inner w r)]) ++ [node w (List.drop ((st ++ [chg g a (inner w r)]).length - 1) (st ++ [chg g a (inner w r)]))])
      rw [show (st ++ [chg g a (inner w r)]).length - 1 = st.length by simp, List.take_left, List.drop_left]
      exact h
  | .n2 w a b, r, es, st, ok, h => by
    show Runs g res (a.post (inner w r) ++ b.post (inner w r) ++ [(.n2 w a b, r)] ++ es) st
    rw [List.append_assoc, List.append_assoc]
    refine runs_post a _ _ _ ok.2.1 (runs_post b _ _ _ ok.2.2 ⟨fun _ => ?_, ?_⟩)
    · show 2 ≤ (st ++ [chg g a (inner w r)] ++ [chg g b (inner w r)]).length
      rw [List.length_append, List.length_append]
      exact Nat.le_add_left 2 _
    · show Runs g res es (if leafy w = true then _ else _)
      rw [if_neg (fun z => no_leaf ok.1 z)]
      rw [List.append_assoc]
      show Runs g res es (List.take ((st ++ ([chg g a (inner w r)] ++ [chg g b (inner w r)])).length - 2) (st ++ ([chg g a (inner w r)] ++ [chg g b (inner w r)])) ++ [node w (List.drop ((st ++ ([chg g a (inner w r)] ++ [chg g b (inner w r)])).length - 2) (st ++ ([chg g a (inner w r)] ++ [chg g b (inner w r)])))])
      rw [show (st ++ ([chg g a (inner w r)] ++ [chg g b (inner w r)])).length - 2 = st.length by simp, List.take_left, List.drop_left]
      exact h
theorem stp_len {g : Tr → Nat → Tr} {st : List Tr} {e : Tr × Nat} : (stp g st e).length ≤ st.length + 1 := by
  unfold stp
  split
  · rw [List.length_append]
    exact Nat.le_refl _
  · rw [List.length_append, List.length_take, List.length_singleton]
    omega
theorem at_node {H : Hp} {t : Tr} (ok : t.Ok) (nl : leafy t.word = false) {ks : List Tr} {vs : List V} {p : Addr} (len : ks.length = t.kids.length) (h : All2 (At H) ks vs) (hp : H p = some (.tup (.str t.word :: vs))) : At H (node t.word ks) (.ref p) := by
  cases t with
  | leaf w x => exact (no_leaf nl ok.1).elim
  | n0 w =>
    have e : ks = [] := List.length_eq_zero_iff.mp len
    subst e
    cases h
    exact ⟨p, rfl, hp⟩
  | n1 w a =>
    obtain ⟨k, rfl⟩ := List.length_eq_one_iff.mp len
    cases h with
    | cons h1 h2 =>
      cases h2
      exact ⟨p, _, rfl, hp, h1⟩
  | n2 w a b =>
    obtain ⟨k, l, rfl⟩ : ∃ k l, ks = [k, l] := by
      match ks, len with
      | [k, l], _ => exact ⟨k, l, rfl⟩
    cases h with
    | cons h1 h2 =>
      cases h2 with
      | cons h3 h4 =>
        cases h4
        exact ⟨p, _, _, rfl, hp, h1, h3⟩
theorem All2.take {α β : Type} {F : α → β → Prop} : ∀ {l : List α} {m : List β} (n : Nat), All2 F l m → All2 F (l.take n) (m.take n)
  | _, _, 0, _ => by rw [List.take_zero, List.take_zero]; exact .nil
  | _, _, n + 1, .nil => by rw [List.take_nil, List.take_nil]; exact .nil
  | _, _, n + 1, .cons r t => .cons r (t.take n)
theorem All2.drop {α β : Type} {F : α → β → Prop} : ∀ {l : List α} {m : List β} (n : Nat), All2 F l m → All2 F (l.drop n) (m.drop n)
  | _, _, 0, h => h
  | _, _, n + 1, .nil => .nil
  | _, _, n + 1, .cons r t => t.drop n
/-- what changed makes of the lambda's reading tl -/
def TTc : (List V → Hp → VK → Prop) → V → Hp → VK → Prop := fun tl v H Q => ∃ (t : Tr) (g : Tr → Nat → Tr), At H t v ∧ t.Ok ∧ t.deep ≤ 12 ∧
  (∀ (H' : Hp) (t1 : Tr) (v1 : V) (r : Nat) (Q' : VK), (t1, r) ∈ t.post 0 → Same H H' → At H' t1 v1 → leafy t1.word = true → (∀ w H2, Same H' H2 → At H2 (g t1 r) w → Q' w H2) → tl [v1, .int (r : Int)] H' Q') ∧
  ∀ w H', Same H H' → At H' (chg g t 0) w → Q w H'
theorem cut_from (xs : List V) {a : Nat} (h : a ≤ xs.length) : cutV xs (some (a : Int)) none = xs.drop a := by
  unfold cutV
  rw [show HT.sIx xs.length 0 (some (a : Int)) = min a xs.length from HT.sIx_nat _ 0 a, HT.sIx_none, Nat.min_eq_left h]
  exact List.take_of_length_le (by rw [List.length_drop]; exact Nat.le_refl _)
theorem changed_gives {X : Cx} {gp g L : Addr} {dp : FuncData} {cdg : Value} {q : Str} (G : FnOk X.prog X.w X.K X.mg X.base CX0 2 gp dp ["thing"] spPieces) (bG : Binds X.K dp ["thing"] []) (kG : PySem.W.keepIn X.K (.ref gp) = true) (mG : X.mg "pieces_of" = some (.ref gp))
    (mL : X.mg "LEAVES" = some (.ref L)) (tL : ∀ H, SqT X.K H L leafVs) (ml : X.mg "len" = none) :
    Gives2 X ["thing", "leaf", "done", "piece", "around", "first", "parts"] "changed" (defScope sChanged) g cdg (defBody sChanged) "leaf" q ["piece", "around"] 1 TTc := by
  intro f c' s H v Q tl act hr hc h
  obtain ⟨t, gg, hA, hO, hd, hl, q⟩ := h
  refine ⟨_, pss_cons (ps_set (i := 2) scChanged.nd rfl (.inl rfl) (pe_lst pa_nil))
    (pss_cons (ps_for PassesOwn.never rfl (pi_list (pe_call G hr (by rfl) mG kG bG .nil pass0 (pa_cons (pv 0) pa_nil))) (pg_tup (by rfl) (pgs_cons (pg_name (i := 3) scChanged.nd rfl (.inl rfl)) (pgs_cons (pg_name (i := 4) scChanged.nd rfl (.inl rfl)) pgs_nil)))
      (pss_one (ps_if (pt_cmpR op_in_seq (pe_ix ix_tup (pv 3) pe_int (fun _ _ => rfl)) (pe_glob (v := .ref L) (by rfl) mL rfl) (by rfl))
        (pss_one (ps_expr (pe_bm PySem.F.plainAttrs_list PySem.F.slot_list_append PySem.F.type_list_append mt_append (pv 2) (pa_cons (act _ _ _ _ _ (pa_cons (pv 3) (pa_cons (pv 4) pa_nil)) (by rfl) (by rfl)) pa_nil))))
        (pss_cons (ps_set (i := 5) scChanged.nd rfl (.inl rfl) (pe_op op_add (pe_op op_sub (pe_callB call_len_seq (by rfl) ml PySem.boot_len (pa_cons (pv 2) pa_nil)) (pe_callB call_len_seq (by rfl) ml PySem.boot_len (pa_cons (pv 3) pa_nil))) pe_int))
        (pss_cons (ps_set (i := 6) scChanged.nd rfl (.inl rfl) (pe_slice sl_list (pv 2) (po_some (pv 5)) po_none))
        (pss_cons (ps_delF (pv 2) (po_some (pv 5)))
        (pss_one (ps_expr (pe_bm PySem.F.plainAttrs_list PySem.F.slot_list_append PySem.F.type_list_append mt_append (pv 2) (pa_cons (pe_tup (pa_cons (pe_ix ix_tup (pv 3) pe_int (fun _ _ => rfl)) (StX.pa_star (pv 6) pa_nil))) pa_nil))))))))))
    (pss_one (ps_ret (pe_ix ix_list (pv 2) pe_int (fun _ _ => rfl))))), ?_⟩
  refine ⟨Nat.zero_le _, fun pd nd => ?_⟩
  have s1 : Same H (upd H pd (.lst [])) := same_new nd
  refine ⟨_, rfl, v, t, rfl, hA.keep (tups_same s1), hO, hd, fun p H1 vf sm np hp rows => ?_⟩
  have hD1 : H1 pd = some (.lst []) := sm _ _ upd_same
  have npd : p ≠ pd := fun z => by
    rw [z, upd_same] at np
    cases np
  have lenP : vf.length ≤ 4096 := by
    have l1 := rows.len
    rw [post_len] at l1
    have l3 := size_deep t
    have l4 : 2 ^ t.deep ≤ 2 ^ 12 := Nat.pow_le_pow_right (by decide) hd
    omega
  have sH : ∀ {H' : Hp}, But pd H1 H' → Same H H' := fun b c u e => b c u (ne_of_none e nd) (sm _ _ (s1 _ _ e))
  refine ⟨p, rfl, ⟨_, .inl (.inl hp)⟩, for_list (K := X.K) (a := p) (xs := vf) (fun i σ H' => ∃ (st : List Tr) (vd : List V) (y3 y4 y5 y6 : Option V), σ = [some v, some (.ref f), some (.ref pd), y3, y4, y5, y6] ∧ But pd H1 H' ∧ H' pd = some (.lst vd) ∧ All2 (At H') st vd ∧ Runs gg [chg gg t 0] ((t.post 0).drop i) st ∧ st.length ≤ i)
    ⟨[], [], none, none, none, none, rfl, But.refl _ _, hD1, .nil, ?_, Nat.le_refl _⟩ (fun i σ H' _ ⟨_, _, _, _, _, _, _, b, _⟩ => .inl (.inl (b _ _ npd hp))) ?_ ?_⟩
  · have z := runs_post (g := gg) (res := [chg gg t 0]) t 0 [] [] hO rfl
    rw [List.append_nil] at z
    exact z
  · rintro i y σ H' hy ⟨st, vd, y3, y4, y5, y6, rfl, b, hD, all, runs, lst⟩
    obtain ⟨⟨t1, r1⟩, he, ⟨q1, x1, rfl, h1, a1⟩⟩ := rows.get hy
    have k1 : Tups H1 H' := b.tups hD1
    have a2 : At H' t1 x1 := At.keep k1 a1
    have mem1 := List.mem_of_getElem? he
    have ok1 : t1.Ok := post_ok t 0 hO (t1, r1) mem1
    obtain ⟨p1, us, rfl, hp1, lus, kids, leafs⟩ := a2.view ok1
    have il : i < (t.post 0).length := (List.getElem?_eq_some_iff.mp he).1
    have ed : (t.post 0).drop i = (t1, r1) :: (t.post 0).drop (i + 1) := by
      rw [List.drop_eq_getElem_cons il, (List.getElem?_eq_some_iff.mp he).2]
    rw [ed] at runs
    obtain ⟨enough, runs⟩ := runs
    have lenI : i < vf.length := by rw [← rows.len]; exact il
    have lvd := all.len
    refine ⟨q1, [.ref p1, .int (r1 : Int)], rfl, .inl (.inl (k1 _ _ h1)), rfl, .ref p1, [.int (r1 : Int)], rfl, .int (r1 : Int), [], rfl, rfl, ?_⟩
    refine ⟨_, rfl, p1, _, 0, _, rfl, rfl, .inl (.inl hp1), head_at _ _, L, leafVs, rfl, .inr (tL H'), rfl, rfl, _, rfl, ?_⟩
    show if leafy t1.word = true then _ else _
    cases lf : leafy t1.word with
    | true =>
      refine iteT ?_
      have es : stp gg st (t1, r1) = st ++ [gg t1 r1] := if_pos lf
      rw [es] at runs
      refine ⟨_, rfl, .inl ⟨rfl, _, .inl (.inl hD)⟩, rfl, _, rfl, _, rfl, rfl, sH b _ _ hc, hl H' t1 (.ref p1) r1 _ mem1 (sH b) a2 lf fun w H2 sm2 aw => ?_⟩
      refine ⟨pd, vd, w, rfl, rfl, sm2 _ _ hD, line_of (by omega), ?_⟩
      have k3 : Tups H2 (upd H2 pd (.lst (vd ++ [w]))) := tups_put fun xs z => by
        rw [sm2 _ _ hD] at z
        cases z
      refine ⟨st ++ [gg t1 r1], vd ++ [w], _, _, _, _, rfl, (b.trans (but_same sm2)).own, upd_same, (all.mono fun a c h => h.keep ((tups_same sm2).trans k3)).app (.one (aw.keep k3)), runs, ?_⟩
      rw [List.length_append, List.length_singleton]
      omega
    | false =>
      refine iteF ?_
      have kd := kids lf
      have len1 := kd.len
      have en : t1.kids.length ≤ st.length := enough lf
      have es : stp gg st (t1, r1) = st.take (st.length - t1.kids.length) ++ [node t1.word (st.drop (st.length - t1.kids.length))] := if_neg (by rw [lf]; exact Bool.false_ne_true)
      rw [es] at runs
      refine ⟨_, rfl, pd, vd, rfl, .inl (.inl (.inl hD)), _, rfl, p1, _, rfl, .inr (.inl (.inl hp1)), _, _, rfl, rfl, _, _, rfl, rfl, ?_⟩
      show gName 5 (.int (((vd.length : Nat) : Int) - ((V.str t1.word :: us).length : Nat) + 1)) _ _ _
      rw [show ((vd.length : Int) - ((V.str t1.word :: us).length : Nat) + 1) = ((vd.length - us.length : Nat) : Int) by rw [List.length_cons]; omega]
      refine ⟨_, rfl, _, rfl, _, rfl, pd, vd, rfl, .inl (.inl hD), fun c nc => ?_⟩
      rw [cut_from vd (by omega : vd.length - us.length ≤ vd.length)]
      have ncd : c ≠ pd := fun z => by
        rw [z, hD] at nc
        cases nc
      refine ⟨_, rfl, _, rfl, _, rfl, pd, vd, _, rfl, rfl, (by rw [upd_ne ncd.symm]; exact hD), by omega, by omega, ?_⟩
      rw [Int.toNat_natCast]
      generalize hH2 : upd (upd H' c (.lst (vd.drop (vd.length - us.length)))) pd (.lst (vd.take (vd.length - us.length))) = H2
      have k2 : Tups H' H2 := by
        rw [← hH2]
        refine (tups_same (same_new nc)).trans (tups_put fun xs z => ?_)
        rw [upd_ne ncd.symm, hD] at z
        cases z
      have hD2 : H2 pd = some (.lst (vd.take (vd.length - us.length))) := by rw [← hH2, upd_same]
      have hc2 : H2 c = some (.lst (vd.drop (vd.length - us.length))) := by rw [← hH2, upd_ne ncd, upd_same]
      have b2 : But pd H1 H2 := by
        rw [← hH2]
        exact (b.new nc).own
      have hp2 := k2 _ _ hp1
      refine ⟨_, rfl, .inl ⟨rfl, _, .inl (.inl hD2)⟩, _, rfl, p1, _, 0, _, rfl, rfl, .inl (.inl hp2), head_at _ _, _, rfl, c, _, rfl, .inr (.inl (.inl hc2)), ?_⟩
      have hn : st.length - t1.kids.length = vd.length - us.length := by omega
      have cutl : (vd.drop (vd.length - us.length)).length ≤ 4096 := by rw [List.length_drop]; omega
      refine ⟨(by show (V.str t1.word :: (vd.drop (vd.length - us.length) ++ [])).length ≤ sizeLine; rw [List.append_nil]; exact Nat.le_trans (Nat.succ_le_succ cutl) (by decide)), fun q2 nq2 => ?_⟩
      have ndq2 : pd ≠ q2 := ne_of_none hD2 nq2
      refine ⟨pd, vd.take (vd.length - us.length), .ref q2, rfl, rfl, (by rw [upd_ne ndq2]; exact hD2), line_of (by rw [List.length_take]; omega), ?_⟩
      generalize hH3 : upd (upd H2 q2 (.tup (.str t1.word :: (vd.drop (vd.length - us.length) ++ [])))) pd (.lst (vd.take (vd.length - us.length) ++ [.ref q2])) = H3
      rw [List.append_nil] at hH3
      have k3 : Tups H2 H3 := by
        rw [← hH3]
        refine (tups_same (same_new nq2)).trans (tups_put fun xs z => ?_)
        rw [upd_ne ndq2, hD2] at z
        cases z
      have hq3 : H3 q2 = some (.tup (.str t1.word :: vd.drop (vd.length - us.length))) := by rw [← hH3, upd_ne ndq2.symm, upd_same]
      have hD3 : H3 pd = some (.lst (vd.take (vd.length - us.length) ++ [.ref q2])) := by rw [← hH3, upd_same]
      have all3 : All2 (At H3) st vd := all.mono fun a c h => h.keep (k2.trans k3)
      rw [hn] at runs
      refine ⟨_, _, _, _, _, _, rfl, ?_, hD3, (all3.take _).app (.one (at_node ok1 lf ?_ (all3.drop (vd.length - us.length)) hq3)), runs, ?_⟩
      · rw [← hH3]
        exact (b2.new nq2).own
      · rw [List.length_drop]
        omega
      · rw [List.length_append, List.length_take, List.length_singleton]
        omega
  · rintro σ H' ⟨st, vd, y3, y4, y5, y6, rfl, b, hD, all, runs, lst⟩
    rw [← rows.len, List.drop_length] at runs
    have e2 : st = [chg gg t 0] := runs
    subst e2
    cases all with
    | cons h1 h2 =>
      cases h2
      refine ⟨_, rfl, pd, _, 0, _, rfl, rfl, .inl (.inl hD), atI_nat (j := 0) rfl, ?_⟩
      exact q _ _ (sH b) h1
end Kf
set_option Elab.async false
set_option linter.all false
set_option maxRecDepth 100000
set_option maxHeartbeats 4000000
set_option pp.maxSteps 400
/-! Trees as data; put_in, taken, put_for. -/
namespace Kf
open PySem PySem.Spec PyProof.Rows L2 Sx LmY
/-! ### trees as data -/
def datV : V → PyData
  | .int i => .int i
  | .str z => .str z
  | _ => .none
def Tr.dat : Tr → PyData
  | .leaf w x => .tuple [.str w, datV x]
  | .n0 w => .tuple [.str w]
  | .n1 w a => .tuple [.str w, a.dat]
  | .n2 w a b => .tuple [.str w, a.dat, b.dat]
theorem leaf_val {w : Str} {x : V} (ok : (Tr.leaf w x).Ok) : (∃ i, x = .int i) ∨ ∃ z, x = .str z := ok.2.elim (fun h => .inl h.1) (fun h => .inr h.1)
theorem At.dp {K : PySem.W.Frag} {H : Hp} : ∀ {t : Tr} {v : V}, t.Ok → At H t v → Dp K H v t.dat
  | .leaf w x, _, ok, ⟨p, e, h⟩ => by
    subst e
    refine .tup (.inl (.inl h)) (.cons (.str w) (.cons ?_ .nil))
    rcases leaf_val ok with ⟨i, rfl⟩ | ⟨z, rfl⟩
    · exact .int i
    · exact .str z
  | .n0 w, _, ok, ⟨p, e, h⟩ => by
    subst e
    exact .tup (.inl (.inl h)) (.cons (.str w) .nil)
  | .n1 w a, _, ok, ⟨p, y, e, h, ha⟩ => by
    subst e
    exact .tup (.inl (.inl h)) (.cons (.str w) (.cons (ha.dp ok.2) .nil))
  | .n2 w a b, _, ok, ⟨p, y, z, e, h, ha, hb⟩ => by
    subst e
    exact .tup (.inl (.inl h)) (.cons (.str w) (.cons (ha.dp ok.2.1) (.cons (hb.dp ok.2.2) .nil)))
theorem eqv_val {x y : V} (hx : (∃ i, x = .int i) ∨ ∃ z, x = .str z) (hy : (∃ i, y = .int i) ∨ ∃ z, y = .str z) : PyData.eqv (datV x) (datV y) = decide (x = y) := by
  rcases hx with ⟨i, rfl⟩ | ⟨z, rfl⟩ <;> rcases hy with ⟨j, rfl⟩ | ⟨u, rfl⟩
  · show (i == j) = _
    by_cases e : i = j
    · subst e
      simp
    · rw [beq_eq_false_iff_ne.mpr e, decide_eq_false (fun z => e (by injection z))]
  · show false = _
    rw [decide_eq_false (fun z => by cases z)]
  · show false = _
    rw [decide_eq_false (fun z => by cases z)]
  · show (z == u) = _
    by_cases e : z = u
    · subst e
      simp
    · rw [beq_eq_false_iff_ne.mpr e, decide_eq_false (fun z => e (by injection z))]
theorem val_tree {x : V} (hx : (∃ i, x = .int i) ∨ ∃ z, x = .str z) (t : Tr) : PyData.eqv (datV x) t.dat = false ∧ PyData.eqv t.dat (datV x) = false := by
  rcases hx with ⟨i, rfl⟩ | ⟨z, rfl⟩ <;> cases t <;> exact ⟨rfl, rfl⟩
theorem eqv_dat : ∀ t u : Tr, t.Ok → u.Ok → (PyData.eqv t.dat u.dat = true ↔ t = u)
  | .leaf w x, .leaf w2 x2, ht, hu => by
    show (w == w2 && (PyData.eqv (datV x) (datV x2) && true)) = true ↔ _
    rw [eqv_val (leaf_val ht) (leaf_val hu), Bool.and_true, Bool.and_eq_true, beq_iff_eq, decide_eq_true_eq]
    exact ⟨fun h => by rw [h.1, h.2], fun h => by injection h with a b; exact ⟨a, b⟩⟩
  | .leaf w x, .n0 w2, ht, hu => ⟨fun h => by
    have z : (w == w2 && false) = true := h
    rw [Bool.and_false] at z
    exact (Bool.false_ne_true z).elim, fun h => by cases h⟩
  | .leaf w x, .n1 w2 a, ht, hu => ⟨fun h => by
    have z : (w == w2 && (PyData.eqv (datV x) a.dat && true)) = true := h
    rw [(val_tree (leaf_val ht) a).1, Bool.false_and, Bool.and_false] at z
    exact (Bool.false_ne_true z).elim, fun h => by cases h⟩
  | .leaf w x, .n2 w2 a b, ht, hu => ⟨fun h => by
    have z : (w == w2 && (PyData.eqv (datV x) a.dat && false)) = true := h
    rw [Bool.and_false, Bool.and_false] at z
    exact (Bool.false_ne_true z).elim, fun h => by cases h⟩
  | .n0 w, .leaf w2 x, ht, hu => ⟨fun h => by
    have z : (w == w2 && false) = true := h
    rw [Bool.and_false] at z
    exact (Bool.false_ne_true z).elim, fun h => by cases h⟩
  | .n0 w, .n0 w2, ht, hu => by
    show (w == w2 && true) = true ↔ _
    rw [Bool.and_true, beq_iff_eq]
    exact ⟨fun h => by rw [h], fun h => by injection h⟩
  | .n0 w, .n1 w2 a, ht, hu => ⟨fun h => by
    have z : (w == w2 && false) = true := h
    rw [Bool.and_false] at z
    exact (Bool.false_ne_true z).elim, fun h => by cases h⟩
  | .n0 w, .n2 w2 a b, ht, hu => ⟨fun h => by
    have z : (w == w2 && false) = true := h
    rw [Bool.and_false] at z
    exact (Bool.false_ne_true z).elim, fun h => by cases h⟩
  | .n1 w a, .leaf w2 x, ht, hu => ⟨fun h => by
    have z : (w == w2 && (PyData.eqv a.dat (datV x) && true)) = true := h
    rw [(val_tree (leaf_val hu) a).2, Bool.false_and, Bool.and_false] at z
    exact (Bool.false_ne_true z).elim, fun h => by cases h⟩
  | .n1 w a, .n0 w2, ht, hu => ⟨fun h => by
    have z : (w == w2 && false) = true := h
    rw [Bool.and_false] at z
    exact (Bool.false_ne_true z).elim, fun h => by cases h⟩
  | .n1 w a, .n1 w2 a2, ht, hu => by
    show (w == w2 && (PyData.eqv a.dat a2.dat && true)) = true ↔ _
    rw [Bool.and_true, Bool.and_eq_true, beq_iff_eq, eqv_dat a a2 ht.2 hu.2]
    exact ⟨fun h => by rw [h.1, h.2], fun h => by injection h with a b; exact ⟨a, b⟩⟩
  | .n1 w a, .n2 w2 a2 b2, ht, hu => ⟨fun h => by
    have z : (w == w2 && (PyData.eqv a.dat a2.dat && false)) = true := h
    rw [Bool.and_false, Bool.and_false] at z
    exact (Bool.false_ne_true z).elim, fun h => by cases h⟩
  | .n2 w a b, .leaf w2 x, ht, hu => ⟨fun h => by
    have z : (w == w2 && (PyData.eqv a.dat (datV x) && false)) = true := h
    rw [Bool.and_false, Bool.and_false] at z
    exact (Bool.false_ne_true z).elim, fun h => by cases h⟩
  | .n2 w a b, .n0 w2, ht, hu => ⟨fun h => by
    have z : (w == w2 && false) = true := h
    rw [Bool.and_false] at z
    exact (Bool.false_ne_true z).elim, fun h => by cases h⟩
  | .n2 w a b, .n1 w2 a2, ht, hu => ⟨fun h => by
    have z : (w == w2 && (PyData.eqv a.dat a2.dat && false)) = true := h
    rw [Bool.and_false, Bool.and_false] at z
    exact (Bool.false_ne_true z).elim, fun h => by cases h⟩
  | .n2 w a b, .n2 w2 a2 b2, ht, hu => by
    show (w == w2 && (PyData.eqv a.dat a2.dat && (PyData.eqv b.dat b2.dat && true))) = true ↔ _
    rw [Bool.and_true, Bool.and_eq_true, Bool.and_eq_true, beq_iff_eq, eqv_dat a a2 ht.2.1 hu.2.1, eqv_dat b b2 ht.2.2 hu.2.2]
    exact ⟨fun h => by rw [h.1, h.2.1, h.2.2], fun h => by injection h with a b c; exact ⟨a, b, c⟩⟩
/-- its texts can stand -/
def Tr.Lay : Tr → Prop
  | .leaf w x => NmOk w ∧ ∀ z, x = .str z → NmOk z
  | .n0 w => NmOk w
  | .n1 w a => NmOk w ∧ a.Lay
  | .n2 w a b => NmOk w ∧ a.Lay ∧ b.Lay
theorem lay_dat : ∀ t : Tr, t.Ok → t.Lay → PyData.canLay0 t.dat = true ∧ PyData.depth t.dat = t.deep
  | .leaf w x, ok, h => by
    rcases leaf_val ok with ⟨i, rfl⟩ | ⟨z, rfl⟩
    · refine ⟨?_, rfl⟩
      show (w.cps.all (· < 0x110000) && (true && true)) = true
      rw [h.1]
      rfl
    · refine ⟨?_, rfl⟩
      show (w.cps.all (· < 0x110000) && (z.cps.all (· < 0x110000) && true)) = true
      rw [h.1, h.2 z rfl]
      rfl
  | .n0 w, ok, h => by
    refine ⟨?_, rfl⟩
    show (w.cps.all (· < 0x110000) && true) = true
    rw [show w.cps.all (· < 0x110000) = true from h]
    rfl
  | .n1 w a, ok, h => by
    obtain ⟨h1, h2⟩ := lay_dat a ok.2 h.2
    refine ⟨?_, ?_⟩
    · show (w.cps.all (· < 0x110000) && (PyData.canLay0 a.dat && true)) = true
      rw [h.1, h1]
      rfl
    · show max 0 (max (PyData.depth a.dat) 0) + 1 = a.deep + 1
      rw [h2]
      omega
  | .n2 w a b, ok, h => by
    obtain ⟨h1, h2⟩ := lay_dat a ok.2.1 h.2.1
    obtain ⟨h3, h4⟩ := lay_dat b ok.2.2 h.2.2
    refine ⟨?_, ?_⟩
    · show (w.cps.all (· < 0x110000) && (PyData.canLay0 a.dat && (PyData.canLay0 b.dat && true))) = true
      rw [h.1, h1, h3]
      rfl
    · show max 0 (max (PyData.depth a.dat) (max (PyData.depth b.dat) 0)) + 1 = max a.deep b.deep + 1
      rw [h2, h4]
      omega
theorem shaped_dat {t : Tr} (ok : t.Ok) (h : t.Lay) (d : t.deep ≤ 64) : SeqAt.shaped t.dat = true := by
  obtain ⟨h1, h2⟩ := lay_dat t ok h
  show (PyData.canLay0 t.dat && decide (PyData.depth t.dat ≤ 64)) = true
  rw [h1, h2, decide_eq_true d]
  rfl
theorem post_lay : ∀ (t : Tr) (r : Nat), t.Lay → ∀ e ∈ t.post r, e.1.Lay
  | .leaf w x, r, h, e, he => by rw [List.mem_singleton.mp he]; exact h
  | .n0 w, r, h, e, he => by rw [List.mem_singleton.mp he]; exact h
  | .n1 w a, r, h, e, he => by
    rcases List.mem_append.mp he with z | z
    · exact post_lay a _ h.2 e z
    · rw [List.mem_singleton.mp z]
      exact h
  | .n2 w a b, r, h, e, he => by
    rcases List.mem_append.mp he with z | z
    · rcases List.mem_append.mp z with z | z
      · exact post_lay a _ h.2.1 e z
      · exact post_lay b _ h.2.2 e z
    · rw [List.mem_singleton.mp z]
      exact h
theorem lay_made {ns : List Str} (hn : ∀ z ∈ ns, NmOk z) : ∀ {t : Tr} {r : Int}, t.Ok → t.In r → t.Not → (∀ z ∈ t.names, z ∈ ns) → t.Lay
  | .leaf w x, r, ok, inn, no, nm => by
    refine ⟨?_, fun z hz => ?_⟩
    · rcases inn with ⟨rfl, _⟩ | ⟨rfl, _⟩ | ⟨rfl, _⟩ <;> decide +kernel
    · subst hz
      rcases ok.2 with ⟨⟨i, e⟩, _⟩ | ⟨_, e⟩
      · cases e
      · exact hn z (nm z (by
          show z ∈ (if w = "name" then [z] else [])
          rw [if_pos e]
          exact List.mem_singleton.mpr rfl))
  | .n0 w, r, ok, inn, no, nm => no.elim
  | .n1 w a, r, ok, inn, no, nm => ⟨by rw [no.1]; decide +kernel, lay_made hn ok.2 inn no.2 nm⟩
  | .n2 w a b, r, ok, inn, no, nm => ⟨by rcases no.1 with e | e <;> rw [e] <;> decide +kernel, lay_made hn ok.2.1 inn.2.1 no.2.1 fun z hz => nm z (List.mem_append.mpr (.inl hz)), lay_made hn ok.2.2 inn.2.2 no.2.2 fun z hz => nm z (List.mem_append.mpr (.inr hz))⟩
end Kf
set_option Elab.async false
set_option linter.all false
set_option maxRecDepth 100000
set_option maxHeartbeats 4000000
set_option pp.maxSteps 400
/-! put_in, taken, put_for. -/
namespace Kf
open PySem PySem.Spec PyProof.Rows L2 Sx LmY LamX NdefX
abbrev sPutFor : Stmt := top 15
theorem scPutFor : FnScope ["saying", "name", "term"] ["saying", "name", "term"] (defScope sPutFor) := ⟨rfl, rfl, rfl, by decide +kernel, rfl, by decide +kernel, by decide +kernel⟩
/-- the tree new where the tree old stands -/
def sub (old new : Nat → Tr) (t : Tr) (r : Nat) : Tr := if PyData.eqv t.dat (old r).dat = true then new r else t
abbrev bnd (r : Nat) : Tr := .leaf "bound" (.int (r : Int))
abbrev nme (z : Str) : Tr := .leaf "name" (.str z)
def putB (u t : Tr) : Tr := chg (sub bnd fun _ => u) t 0
def takeN (z : Str) (t : Tr) : Tr := chg (sub (fun _ => nme z) bnd) t 0
def putN (z : Str) (u t : Tr) : Tr := chg (sub (fun _ => nme z) fun _ => u) t 0
abbrev lq (x : Str) : Str := x ++ ".<locals>." ++ "<lambda>"
theorem same_extN {H H' : Hp} (s : Same H H') : ExtN H H' := fun b o e _ => s b o e
theorem extN_tups {H H' : Hp} (s : ExtN H H') : Tups H H' := fun b xs e => s b _ e fun ps z => by cases z
def spPutIn (T : List (Addr × Str)) : Sp := fun vs H Q _ => ∃ (v1 v2 : V) (t u : Tr), vs = [v1, v2] ∧ At H t v1 ∧ t.Ok ∧ t.Lay ∧ t.deep ≤ 12 ∧ At H u v2 ∧ Tabs T H ∧ ∀ w H', ExtN H H' → Tabs T H' → At H' (putB u t) w → Q w H'
def spTaken (T : List (Addr × Str)) : Sp := fun vs H Q _ => ∃ (v1 : V) (z : Str) (t : Tr), vs = [v1, .str z] ∧ At H t v1 ∧ t.Ok ∧ t.Lay ∧ t.deep ≤ 12 ∧ NmOk z ∧ Tabs T H ∧ ∀ w H', ExtN H H' → Tabs T H' → At H' (takeN z t) w → Q w H'
def spPutFor (T : List (Addr × Str)) : Sp := fun vs H Q _ => ∃ (v1 v2 : V) (z : Str) (t u : Tr), vs = [v1, .str z, v2] ∧ At H t v1 ∧ t.Ok ∧ t.Lay ∧ t.deep ≤ 12 ∧ NmOk z ∧ At H u v2 ∧ Tabs T H ∧ ∀ w H', ExtN H H' → Tabs T H' → At H' (putN z u t) w → Q w H'
theorem ok_bnd (r : Nat) : (bnd r).Ok := ⟨by decide +kernel, .inl ⟨⟨_, rfl⟩, by decide +kernel⟩⟩
theorem ok_nme (z : Str) : (nme z).Ok := ⟨by decide +kernel, .inr ⟨⟨_, rfl⟩, rfl⟩⟩
theorem sh_bnd (r : Nat) : SeqAt.shaped (bnd r).dat = true := shaped_dat (ok_bnd r) ⟨by decide +kernel, fun z e => by cases e⟩ (by show 1 ≤ 64; decide)
theorem sh_nme {z : Str} (h : NmOk z) : SeqAt.shaped (nme z).dat = true := shaped_dat (ok_nme z) ⟨by decide +kernel, fun y e => by injection e with e; rw [← e]; exact h⟩ (by show 1 ≤ 64; decide)
/-- what the three rest on -/
structure Put (P : Program) (w : World) (K : PySem.W.Frag) (mg : Str → Option Value) (base : Heap) (T : List (Addr × Str)) (gc gp L : Addr) (dc dp : FuncData) : Prop where
  C : Fun K "changed" "changed" sChanged gc dc
  bC : Binds K dc ["thing", "leaf"] []
  mC : mg "changed" = some (.ref gc)
  G : FnOk P w K mg base CX0 2 gp dp ["thing"] spPieces
  bG : Binds K dp ["thing"] []
  kG : PySem.W.keepIn K (.ref gp) = true
  mG : mg "pieces_of" = some (.ref gp)
  mL : mg "LEAVES" = some (.ref L)
  tL : ∀ H, SqT K H L leafVs
  ml : mg "len" = none
theorem leaf_deep {t : Tr} (ok : t.Ok) (h : leafy t.word = true) : t.deep ≤ 64 := by
  cases t with
  | leaf w x => show 1 ≤ 64; decide
  | n0 w => show 1 ≤ 64; decide
  | n1 w a => exact (no_leaf ok.1 h).elim
  | n2 w a b => exact (no_leaf ok.1 h).elim
section
variable {P : Program} {w : World} {K : PySem.W.Frag} {mg : Str → Option Value} {base : Heap} {T : List (Addr × Str)} {gc gp L : Addr} {dc dp : FuncData}
theorem ok_putfor {f c PT : Addr} {oc kV dcv pm ct : Value} {od an : Option Addr} {osl : Array (Option Value)}
    (lk : K.lookup f = some ⟨oc, od, .func (PySem.W.fnOf "put_for" "put_for" (defArgs sPutFor) (defBody sPutFor) (defScope sPutFor) .none kV dcv pm an (.ref c) ct), osl⟩) (hcd : PySem.W.codeIn K (.ref c) "put_for" = true) (tab : TabB base mg c PT)
    (hm : (PT, lq "put_for") ∈ T) (hu : ∀ p ∈ T, p.1 = PT → p.2 = lq "put_for") (W : Put P w K mg base T gc gp L dc dp) :
    FnOk P w K mg base CX0 4 f (PySem.W.fnOf "put_for" "put_for" (defArgs sPutFor) (defBody sPutFor) (defScope sPutFor) .none kV dcv pm an (.ref c) ct) ["saying", "name", "term"] (spPutFor T) := by
  obtain ⟨oc2, od2, kV2, doc2, pm2, an2, cdv2, ct2, osl2, rfl, lk2, hcd2⟩ := W.C.ex
  refine fn_of lk hcd scPutFor (fun vs H Q E h => ?_) fun A outer s H vs Q E hr h => ?_
  · obtain ⟨v1, v2, z, t, u, rfl, _⟩ := h
    rfl
  obtain ⟨v1, v2, z, t, u, rfl, hA, hO, hL, hd, hz, hB, hT, q⟩ := h
  refine ⟨_, pss_one (ps_ret (pe_lamcall2 (T := T) (js := [1, 2]) (ps := ["piece", "around"]) (a0 := "thing") (a := "leaf") (by rfl) W.mC W.C.kp lk2 hcd2 W.bC scChanged rfl (.inl rfl)
    (changed_gives W.G W.bG W.kG W.mG W.mL W.tL W.ml) (pv 0) tab rfl hm hu hr (nscope_by (N := ["piece", "around", "name", "term"]) (fr := ["name", "term"]) (by decide +kernel)) (show ndefB (defScope sPutFor) _ ["name", "term"] = true from by decide +kernel) rfl (by rfl)
    (fun _ _ _ _ _ us hl => match us, hl with | [_, _], _ => rfl)
    (fun A outer sh hp fo k hr2 => pe_ifExp (pt_cmpR (show OpR _ (compareOp .Eq) (rEqD K) from op_eqD hr2.units) (pv 0) (pe_tup (pa_cons pe_str (pa_cons (pv 2) pa_nil))) (nomark _)) (pv 3) (pv 0)))), ?_⟩
  refine ⟨_, rfl, hT, fun H1 e1 hT1 => ?_⟩
  refine ⟨t, sub (fun _ => nme z) fun _ => u, hA.keep (extN_tups e1), hO, hd, fun H' t1 v1 r Q' mem sm a1 lf k => ?_, fun w H' sm a => q w H' (e1.trans (same_extN sm)) (hT1.ext sm) a⟩
  have ok1 : t1.Ok := post_ok t 0 hO (t1, r) mem
  have ly1 : t1.Lay := post_lay t 0 hL (t1, r) mem
  refine ⟨_, rfl, _, rfl, (by show 2 ≤ sizeLine; decide), fun p np => ?_⟩
  have sp : Same H' (upd H' p (.tup [.str "name", .str z])) := same_new np
  refine ⟨t1.dat, (nme z).dat, (a1.keep (tups_same sp)).dp ok1, At.dp (ok_nme z) ⟨p, rfl, upd_same⟩, shaped_dat ok1 ly1 (leaf_deep ok1 lf), sh_nme hz, _, rfl, ?_⟩
  have e2 : ∀ {b : Bool}, PyData.eqv t1.dat (nme z).dat = b → sub (fun _ => nme z) (fun _ => u) t1 r = if b = true then u else t1 := fun {b} e => by
    unfold sub
    rw [e]
  cases eb : PyData.eqv t1.dat (nme z).dat with
  | true =>
    refine iteT ⟨_, rfl, k _ _ sp ?_⟩
    rw [e2 eb]
    exact hB.keep ((extN_tups e1).trans ((tups_same sm).trans (tups_same sp)))
  | false =>
    refine iteF ⟨_, rfl, k _ _ sp ?_⟩
    rw [e2 eb]
    exact a1.keep (tups_same sp)
end
end Kf
set_option Elab.async false
set_option linter.all false
set_option maxRecDepth 100000
set_option maxHeartbeats 4000000
set_option pp.maxSteps 400
/-! Puttings, one behind the other. -/
namespace Kf
open PySem PySem.Spec PyProof.Rows L2 Sx
theorem sub_yes {old new : Nat → Tr} {t : Tr} {r : Nat} (ok : t.Ok) (e : t = old r) : sub old new t r = new r := by
  unfold sub
  rw [if_pos ((eqv_dat t (old r) ok (e ▸ ok)).2 e)]
theorem sub_no {old new : Nat → Tr} {t : Tr} {r : Nat} (ok : t.Ok) (ok2 : (old r).Ok) (e : t ≠ old r) : sub old new t r = t := by
  unfold sub
  rw [if_neg fun h => e ((eqv_dat t (old r) ok ok2).1 h)]
/-- a leaf: a number, a name, a bound -/
theorem leaf_ways {w : Str} {x : V} (ok : (Tr.leaf w x).Ok) : (∃ z, Tr.leaf w x = nme z ∧ (Tr.leaf w x).names = [z]) ∨ (w ≠ "name" ∧ (Tr.leaf w x).names = []) := by
  rcases ok.2 with ⟨_, ne⟩ | ⟨⟨z, e⟩, ew⟩
  · exact .inr ⟨ne, if_neg ne⟩
  · subst e
    subst ew
    exact .inl ⟨z, rfl, if_pos rfl⟩
theorem nme_names (z : Str) : (nme z).names = [z] := if_pos rfl
theorem not_nme {w : Str} {x : V} (h : w ≠ "name") (z : Str) : Tr.leaf w x ≠ nme z := fun e => h (by injection e)
theorem nme_ne {y z : Str} (h : y ≠ z) : nme y ≠ nme z := fun e => h (by injection e with _ e; injection e)
theorem nme_bnd (y : Str) (r : Nat) : nme y ≠ bnd r := fun e => by
  injection e with e _
  exact absurd e (by decide +kernel)
/-- by a test that is nowhere so, all stays -/
theorem chg_none {z : Str} {new : Nat → Tr} : ∀ (t : Tr) (r : Nat), t.Ok → z ∉ t.names → chg (sub (fun _ => nme z) new) t r = t
  | .leaf w x, r, ok, h => by
    refine sub_no ok (ok_nme z) fun e => h ?_
    rw [e, nme_names]
    exact List.mem_singleton.mpr rfl
  | .n0 w, r, ok, h => rfl
  | .n1 w a, r, ok, h => by
    show Tr.n1 w (chg _ a _) = _
    rw [chg_none a _ ok.2 h]
  | .n2 w a b, r, ok, h => by
    show Tr.n2 w (chg _ a _) (chg _ b _) = _
    rw [chg_none a _ ok.2.1 fun z => h (List.mem_append.mpr (.inl z)), chg_none b _ ok.2.2 fun z => h (List.mem_append.mpr (.inr z))]
theorem chg_same {z : Str} : ∀ (t : Tr) (r : Nat), t.Ok → chg (sub (fun _ => nme z) fun _ => nme z) t r = t
  | .leaf w x, r, ok => by
    show sub _ _ _ _ = _
    by_cases e : Tr.leaf w x = nme z
    · rw [sub_yes ok e, e]
    · exact sub_no ok (ok_nme z) e
  | .n0 w, r, ok => rfl
  | .n1 w a, r, ok => by
    show Tr.n1 w (chg _ a _) = _
    rw [chg_same a _ ok.2]
  | .n2 w a b, r, ok => by
    show Tr.n2 w (chg _ a _) (chg _ b _) = _
    rw [chg_same a _ ok.2.1, chg_same b _ ok.2.2]
theorem chg_far {z : Str} {u : Tr} : ∀ (t : Tr) (r q : Nat), chg (sub (fun _ => nme z) fun _ => u) t r = chg (sub (fun _ => nme z) fun _ => u) t q
  | .leaf w x, r, q => rfl
  | .n0 w, r, q => rfl
  | .n1 w a, r, q => by
    show Tr.n1 w (chg _ a _) = Tr.n1 w (chg _ a _)
    rw [chg_far a _ (inner w q)]
  | .n2 w a b, r, q => by
    show Tr.n2 w (chg _ a _) (chg _ b _) = Tr.n2 w (chg _ a _) (chg _ b _)
    rw [chg_far a _ (inner w q), chg_far b _ (inner w q)]
theorem in_one {w : Str} {a : Tr} {r : Int} {k : Nat} (h : (Tr.n1 w a).In (k + r)) : a.In ((inner w k : Nat) + r) := by
  have h : a.In (if binds w = true then (k : Int) + r + 1 else k + r) := h
  unfold inner
  by_cases c : binds w = true
  · rw [if_pos c] at h ⊢
    rw [show ((k + 1 : Nat) : Int) + r = (k : Int) + r + 1 by omega]
    exact h
  · rw [if_neg c] at h ⊢
    exact h
theorem in_two {w : Str} {a b : Tr} {r : Int} {k : Nat} (h : (Tr.n2 w a b).In (k + r)) : a.In ((inner w k : Nat) + r) ∧ b.In ((inner w k : Nat) + r) := by
  have e : inner w k = k := if_neg (by rw [h.1]; exact Bool.false_ne_true)
  rw [e]
  exact h.2
/-- a name taken away, a term put in -/
theorem put_taken {z : Str} {u : Tr} : ∀ (t : Tr) (r : Nat), t.Ok → t.In ((r : Int) + 0) → chg (sub bnd fun _ => u) (chg (sub (fun _ => nme z) bnd) t r) r = chg (sub (fun _ => nme z) fun _ => u) t r
  | .leaf w x, r, ok, inn => by
    show chg (sub bnd fun _ => u) (sub _ _ (.leaf w x) r) r = sub _ _ (.leaf w x) r
    by_cases e : Tr.leaf w x = nme z
    · rw [sub_yes ok e, sub_yes ok e]
      exact sub_yes (ok_bnd r) rfl
    · rw [sub_no ok (ok_nme z) e, sub_no ok (ok_nme z) e]
      refine sub_no ok (ok_bnd r) fun e2 => ?_
      rcases inn with ⟨ew, _⟩ | ⟨ew, _⟩ | ⟨_, k, ek, _, lt⟩
      · injection e2 with e3 _
        rw [ew] at e3
        exact absurd e3 (by decide +kernel)
      · injection e2 with e3 _
        rw [ew] at e3
        exact absurd e3 (by decide +kernel)
      · injection e2 with _ e4
        rw [ek] at e4
        injection e4 with e5
        omega
  | .n0 w, r, ok, inn => rfl
  | .n1 w a, r, ok, inn => by
    show Tr.n1 w (chg _ (chg _ a _) _) = Tr.n1 w (chg _ a _)
    rw [put_taken a _ ok.2 (in_one inn)]
  | .n2 w a b, r, ok, inn => by
    show Tr.n2 w (chg _ (chg _ a _) _) (chg _ (chg _ b _) _) = Tr.n2 w (chg _ a _) (chg _ b _)
    rw [put_taken a _ ok.2.1 (in_two inn).1, put_taken b _ ok.2.2 (in_two inn).2]
/-- a name that stands nowhere put in -/
theorem taken_put {z : Str} : ∀ (t : Tr) (r : Nat), t.Ok → z ∉ t.names → chg (sub (fun _ => nme z) bnd) (chg (sub bnd fun _ => nme z) t r) r = t
  | .leaf w x, r, ok, h => by
    show chg (sub (fun _ => nme z) bnd) (sub _ _ (.leaf w x) r) r = _
    by_cases e : Tr.leaf w x = bnd r
    · rw [sub_yes ok e, e]
      exact sub_yes (ok_nme z) rfl
    · rw [sub_no ok (ok_bnd r) e]
      exact chg_none _ _ ok h
  | .n0 w, r, ok, h => rfl
  | .n1 w a, r, ok, h => by
    show Tr.n1 w (chg _ (chg _ a _) _) = _
    rw [taken_put a _ ok.2 h]
  | .n2 w a b, r, ok, h => by
    show Tr.n2 w (chg _ (chg _ a _) _) (chg _ (chg _ b _) _) = _
    rw [taken_put a _ ok.2.1 fun z => h (List.mem_append.mpr (.inl z)), taken_put b _ ok.2.2 fun z => h (List.mem_append.mpr (.inr z))]
theorem put_put {z : Str} {u : Tr} : ∀ (t : Tr) (r : Nat), t.Ok → z ∉ t.names → chg (sub (fun _ => nme z) fun _ => u) (chg (sub bnd fun _ => nme z) t r) r = chg (sub bnd fun _ => u) t r
  | .leaf w x, r, ok, h => by
    show chg (sub (fun _ => nme z) fun _ => u) (sub _ _ (.leaf w x) r) r = sub _ _ (.leaf w x) r
    by_cases e : Tr.leaf w x = bnd r
    · rw [sub_yes ok e, sub_yes ok e]
      exact sub_yes (ok_nme z) rfl
    · rw [sub_no ok (ok_bnd r) e, sub_no ok (ok_bnd r) e]
      exact chg_none _ _ ok h
  | .n0 w, r, ok, h => rfl
  | .n1 w a, r, ok, h => by
    show Tr.n1 w (chg _ (chg _ a _) _) = Tr.n1 w (chg _ a _)
    rw [put_put a _ ok.2 h]
  | .n2 w a b, r, ok, h => by
    show Tr.n2 w (chg _ (chg _ a _) _) (chg _ (chg _ b _) _) = Tr.n2 w (chg _ a _) (chg _ b _)
    rw [put_put a _ ok.2.1 fun z => h (List.mem_append.mpr (.inl z)), put_put b _ ok.2.2 fun z => h (List.mem_append.mpr (.inr z))]
/-- two names, either way about -/
theorem two_ways {n o : Str} {u v : Tr} (ne : n ≠ o) (okv : v.Ok) (hv : n ∉ v.names) : ∀ (t : Tr) (r : Nat), t.Ok →
    chg (sub (fun _ => nme o) fun _ => v) (chg (sub (fun _ => nme n) fun _ => u) t r) r = chg (sub (fun _ => nme n) fun _ => chg (sub (fun _ => nme o) fun _ => v) u 0) (chg (sub (fun _ => nme o) fun _ => v) t r) r
  | .leaf w x, r, ok => by
    show chg _ (sub _ _ (.leaf w x) r) r = chg _ (sub _ _ (.leaf w x) r) r
    by_cases e : Tr.leaf w x = nme n
    · rw [sub_yes ok e, sub_no ok (ok_nme o) (by rw [e]; exact nme_ne ne), e]
      show chg _ u r = sub _ _ (nme n) r
      rw [sub_yes (ok_nme n) rfl]
      exact chg_far u r 0
    · rw [sub_no ok (ok_nme n) e]
      by_cases e2 : Tr.leaf w x = nme o
      · show sub _ _ (.leaf w x) r = _
        rw [sub_yes ok e2]
        exact (chg_none v r okv hv).symm
      · show sub _ _ (.leaf w x) r = _
        rw [sub_no ok (ok_nme o) e2]
        exact (sub_no ok (ok_nme n) e).symm
  | .n0 w, r, ok => rfl
  | .n1 w a, r, ok => by
    show Tr.n1 w (chg _ (chg _ a _) _) = Tr.n1 w (chg _ (chg _ a _) _)
    rw [two_ways ne okv hv a _ ok.2]
  | .n2 w a b, r, ok => by
    show Tr.n2 w (chg _ (chg _ a _) _) (chg _ (chg _ b _) _) = Tr.n2 w (chg _ (chg _ a _) _) (chg _ (chg _ b _) _)
    rw [two_ways ne okv hv a _ ok.2.1, two_ways ne okv hv b _ ok.2.2]
/-- the names that stand there behind it -/
theorem put_names {n : Str} {u : Tr} : ∀ (t : Tr) (r : Nat), t.Ok → ∀ z, z ∈ (chg (sub (fun _ => nme n) fun _ => u) t r).names ↔ (z ∈ t.names ∧ z ≠ n) ∨ (n ∈ t.names ∧ z ∈ u.names)
  | .leaf w x, r, ok, z => by
    show z ∈ (sub _ _ (.leaf w x) r).names ↔ _
    by_cases e : Tr.leaf w x = nme n
    · rw [sub_yes ok e, e, nme_names]
      constructor
      · intro h
        exact .inr ⟨List.mem_singleton.mpr rfl, h⟩
      · rintro (⟨h, ne⟩ | ⟨_, h⟩)
        · exact absurd (List.mem_singleton.mp h) ne
        · exact h
    · rw [sub_no ok (ok_nme n) e]
      have hn : n ∉ (Tr.leaf w x).names := fun h => by
        rcases leaf_ways ok with ⟨y, e2, e3⟩ | ⟨_, e3⟩
        · rw [e3] at h
          exact e (by rw [e2, List.mem_singleton.mp h])
        · rw [e3] at h
          exact List.not_mem_nil h
      constructor
      · intro h
        exact .inl ⟨h, fun q => hn (q ▸ h)⟩
      · rintro (⟨h, _⟩ | ⟨h, _⟩)
        · exact h
        · exact absurd h hn
  | .n0 w, r, ok, z => by
    show z ∈ ([] : List Str) ↔ (z ∈ ([] : List Str) ∧ _) ∨ (n ∈ ([] : List Str) ∧ _)
    simp
  | .n1 w a, r, ok, z => put_names a (inner w r) ok.2 z
  | .n2 w a b, r, ok, z => by
    show z ∈ (chg _ a _).names ++ (chg _ b _).names ↔ (z ∈ a.names ++ b.names ∧ _) ∨ (n ∈ a.names ++ b.names ∧ _)
    rw [List.mem_append, List.mem_append, List.mem_append, put_names a _ ok.2.1 z, put_names b _ ok.2.2 z]
    constructor
    · rintro ((⟨h, q⟩ | ⟨h, q⟩) | (⟨h, q⟩ | ⟨h, q⟩))
      · exact .inl ⟨.inl h, q⟩
      · exact .inr ⟨.inl h, q⟩
      · exact .inl ⟨.inr h, q⟩
      · exact .inr ⟨.inr h, q⟩
    · rintro (⟨h | h, q⟩ | ⟨h | h, q⟩)
      · exact .inl (.inl ⟨h, q⟩)
      · exact .inr (.inl ⟨h, q⟩)
      · exact .inl (.inr ⟨h, q⟩)
      · exact .inr (.inr ⟨h, q⟩)
/-! ### what is put together stays a tree -/
theorem chg_ok {g : Tr → Nat → Tr} (hg : ∀ t r, t.Ok → leafy t.word = true → (g t r).Ok) : ∀ (t : Tr) (r : Nat), t.Ok → (chg g t r).Ok
  | .leaf w x, r, ok => hg _ r ok ok.1
  | .n0 w, r, ok => ok
  | .n1 w a, r, ok => ⟨ok.1, chg_ok hg a _ ok.2⟩
  | .n2 w a b, r, ok => ⟨ok.1, chg_ok hg a _ ok.2.1, chg_ok hg b _ ok.2.2⟩
theorem chg_not {g : Tr → Nat → Tr} (hg : ∀ t r, t.Not → (g t r).Not) : ∀ (t : Tr) (r : Nat), t.Not → (chg g t r).Not
  | .leaf w x, r, no => hg _ r no
  | .n0 w, r, no => no
  | .n1 w a, r, no => ⟨no.1, chg_not hg a _ no.2⟩
  | .n2 w a b, r, no => ⟨no.1, chg_not hg a _ no.2.1, chg_not hg b _ no.2.2⟩
theorem chg_lay {g : Tr → Nat → Tr} (hg : ∀ t r, t.Lay → (g t r).Lay) : ∀ (t : Tr) (r : Nat), t.Lay → (chg g t r).Lay
  | .leaf w x, r, h => hg _ r h
  | .n0 w, r, h => h
  | .n1 w a, r, h => ⟨h.1, chg_lay hg a _ h.2⟩
  | .n2 w a b, r, h => ⟨h.1, chg_lay hg a _ h.2.1, chg_lay hg b _ h.2.2⟩
theorem chg_deep {g : Tr → Nat → Tr} {d : Nat} (hg : ∀ t r, t.deep ≤ 1 → (g t r).deep ≤ d + 1) : ∀ (t : Tr) (r : Nat), (chg g t r).deep ≤ t.deep + d
  | .leaf w x, r => by
    have h := hg (.leaf w x) r (Nat.le_refl 1)
    show (g (.leaf w x) r).deep ≤ 1 + d
    omega
  | .n0 w, r => Nat.le_add_right _ _
  | .n1 w a, r => by
    have h := chg_deep hg a (inner w r)
    show (chg g a (inner w r)).deep + 1 ≤ a.deep + 1 + d
    omega
  | .n2 w a b, r => by
    have h1 := chg_deep hg a (inner w r)
    have h2 := chg_deep hg b (inner w r)
    show max (chg g a (inner w r)).deep (chg g b (inner w r)).deep + 1 ≤ max a.deep b.deep + 1 + d
    omega
section
variable {old new : Nat → Tr}
theorem sub_pick (old new : Nat → Tr) (t : Tr) (r : Nat) : sub old new t r = new r ∨ sub old new t r = t := by
  unfold sub
  split
  · exact .inl rfl
  · exact .inr rfl
theorem put_ok (hn : ∀ r, (new r).Ok) {t : Tr} {r : Nat} (ok : t.Ok) : (chg (sub old new) t r).Ok := chg_ok (fun t r h _ => (sub_pick old new t r).elim (fun e => e ▸ hn r) fun e => e.symm ▸ h) t r ok
theorem put_not (hn : ∀ r, (new r).Not) {t : Tr} {r : Nat} (no : t.Not) : (chg (sub old new) t r).Not := chg_not (fun t r h => (sub_pick old new t r).elim (fun e => e ▸ hn r) fun e => e.symm ▸ h) t r no
theorem put_lay (hn : ∀ r, (new r).Lay) {t : Tr} {r : Nat} (ly : t.Lay) : (chg (sub old new) t r).Lay := chg_lay (fun t r h => (sub_pick old new t r).elim (fun e => e ▸ hn r) fun e => e.symm ▸ h) t r ly
theorem put_deep {d : Nat} (hn : ∀ r, (new r).deep ≤ d + 1) (t : Tr) (r : Nat) : (chg (sub old new) t r).deep ≤ t.deep + d := chg_deep (fun t r h => (sub_pick old new t r).elim (fun e => e ▸ hn r) fun e => by rw [e]; omega) t r
end
end Kf
set_option Elab.async false
set_option linter.all false
set_option maxRecDepth 100000
set_option maxHeartbeats 4000000
set_option pp.maxSteps 400
/-! worth: a refusal made without parts, the worths of terms. -/
namespace Kf
open PySem PySem.Spec PyProof.Rows L2 Sx
/-- X(), X an own exception class without own __init__ -/
theorem pmk_own0 {X : Cx} {C : Addr} {bmB : List Value} {B newId initId : String} {x : Str} {p pos : Pos} (F : ExcBaseFacts B newId initId bmB) (isC : PySem.W.excIn X.K C bmB newId = true) (at_ : X.mg x = some (.ref C)) (kept : PySem.W.keepIn X.K (.ref C) = true) (can : Raises X (.ref C)) (gl : Gl X x)
    (nd : (x == ("__debug__" : Str)) = false := by decide) : PMk X (.Call (.Name x p) [] [] pos) (fun _ H Q => Q (.ref C) none H) := by
  intro pins s σ H Q I told
  refine wpAny_Call_Name_kw (ld_glob I gl at_ (PySem.W.callWith_K0 (first := []) I.kIn kept ?_) nd)
  obtain ⟨bm, N, nm, qn, bs, hdct, sn, sub, ab, col, dd, k0, k1, k2, k3, k5, mN, hC, hN, hni, T⟩ := exc_obj I.kIn isC
  exact wpAny_call_exc_subT F T hC hN hni (fun h' e made => mk_of I made can told (I.hok.gone made.new)) (by decide)
/-! ### worths -/
abbrev TG : Int := 10 ^ 60
def cap (n : Int) : Option Int := if n < TG then some n else none
def wt (v : Str → Int) : Tr → Option Int
  | .leaf _ x => match x with
    | .int n => cap n
    | .str z => cap (v z)
    | _ => none
  | .n0 _ => none
  | .n1 _ a => (wt v a).bind fun m => cap (m + 1)
  | .n2 w a b => (wt v a).bind fun m => (wt v b).bind fun n => cap (if w = "plus" then m + n else m * n)
/-- a term without bounds -/
def Tr.Tm : Tr → Prop
  | .leaf w x => (w = "num" ∧ ∃ n : Int, x = .int n ∧ 0 ≤ n) ∨ (w = "name" ∧ ∃ z, x = .str z)
  | .n0 _ => False
  | .n1 w a => w = "next" ∧ a.Tm
  | .n2 w a b => (w = "plus" ∨ w = "times") ∧ a.Tm ∧ b.Tm
/-- what comes of the pieces es behind the stack st -/
def RunsW (v : Str → Int) (res : Option Int) : List (Tr × Nat) → List Int → Prop
  | [], st => ∃ n, res = some n ∧ st = [n]
  | (.leaf _ x, _) :: es, st => ∃ n, ((x = .int n) ∨ ∃ z, x = .str z ∧ n = v z) ∧ (n < TG → RunsW v res es (st ++ [n])) ∧ (¬ n < TG → res = none)
  | (.n0 _, _) :: _, _ => False
  | (.n1 _ _, _) :: es, st => ∃ s0 a, st = s0 ++ [a] ∧ 0 ≤ a ∧ a < TG ∧ (a + 1 < TG → RunsW v res es (s0 ++ [a + 1])) ∧ (¬ a + 1 < TG → res = none)
  | (.n2 w _ _, _) :: es, st => ∃ s0 a b, st = s0 ++ [a] ++ [b] ∧ 0 ≤ a ∧ a < TG ∧ 0 ≤ b ∧ b < TG ∧ ∀ c, c = (if w = "plus" then a + b else a * b) → (c < TG → RunsW v res es (s0 ++ [c])) ∧ (¬ c < TG → res = none)
theorem cap_some {n m : Int} (h : cap n = some m) : n = m ∧ n < TG := by
  unfold cap at h
  split at h
  · rename_i c
    exact ⟨Option.some.inj h, c⟩
  · cases h
theorem wt_pos {v : Str → Int} (hv : ∀ z, 0 ≤ v z) : ∀ t : Tr, t.Tm → ∀ n, wt v t = some n → 0 ≤ n ∧ n < TG
  | .leaf w x, tm, n, h => by
    rcases tm with ⟨_, m, e, p⟩ | ⟨_, z, e⟩
    · subst e
      obtain ⟨e2, lt⟩ := cap_some (show cap m = some n from h)
      subst e2
      exact ⟨p, lt⟩
    · subst e
      obtain ⟨e2, lt⟩ := cap_some (show cap (v z) = some n from h)
      rw [← e2]
      exact ⟨hv z, lt⟩
  | .n1 w a, tm, n, h => by
    obtain ⟨m, e1, e2⟩ := Option.bind_eq_some_iff.mp (show (wt v a).bind _ = some n from h)
    obtain ⟨e3, lt⟩ := cap_some e2
    have p := (wt_pos hv a tm.2 m e1).1
    rw [← e3]
    exact ⟨by omega, lt⟩
  | .n2 w a b, tm, n, h => by
    obtain ⟨m, e1, e2⟩ := Option.bind_eq_some_iff.mp (show (wt v a).bind _ = some n from h)
    obtain ⟨k, e4, e5⟩ := Option.bind_eq_some_iff.mp e2
    obtain ⟨e3, lt⟩ := cap_some e5
    have p := (wt_pos hv a tm.2.1 m e1).1
    have q := (wt_pos hv b tm.2.2 k e4).1
    rw [← e3]
    refine ⟨?_, lt⟩
    split
    · omega
    · exact Int.mul_nonneg p q
theorem runsW_post {v : Str → Int} (hv : ∀ z, 0 ≤ v z) {res : Option Int} : ∀ (t : Tr) (r : Nat) (es : List (Tr × Nat)) (st : List Int), t.Tm → (∀ n, wt v t = some n → RunsW v res es (st ++ [n])) → (wt v t = none → res = none) → RunsW v res (t.post r ++ es) st
  | .leaf w x, r, es, st, tm, yes, no => by
    have fin : ∀ n, wt v (.leaf w x) = cap n → (n < TG → RunsW v res es (st ++ [n])) ∧ (¬ n < TG → res = none) := fun n e =>
      ⟨fun c => yes n (by rw [e]; exact if_pos c), fun c => no (by rw [e]; exact if_neg c)⟩
    rcases tm with ⟨_, m, e, p⟩ | ⟨_, z, e⟩
    · subst e
      exact ⟨m, .inl rfl, fin m rfl⟩
    · subst e
      exact ⟨v z, .inr ⟨z, rfl, rfl⟩, fin (v z) rfl⟩
  | .n1 w a, r, es, st, tm, yes, no => by
    show RunsW v res (a.post _ ++ [(.n1 w a, r)] ++ es) st
    rw [List.append_assoc]
    refine runsW_post hv a _ _ _ tm.2 (fun m em => ?_) fun em => no (by show (wt v a).bind _ = none; rw [em]; rfl)
    obtain ⟨p, lt⟩ := wt_pos hv a tm.2 m em
    have e : wt v (.n1 w a) = cap (m + 1) := by
      show (wt v a).bind _ = _
      rw [em]
      rfl
    exact ⟨st, m, rfl, p, lt, fun c => yes _ (by rw [e]; exact if_pos c), fun c => no (by rw [e]; exact if_neg c)⟩
  | .n2 w a b, r, es, st, tm, yes, no => by
    show RunsW v res (a.post _ ++ b.post _ ++ [(.n2 w a b, r)] ++ es) st
    rw [List.append_assoc, List.append_assoc]
    refine runsW_post hv a _ _ _ tm.2.1 (fun m em => runsW_post hv b _ _ _ tm.2.2 (fun k ek => ?_) fun ek => no (by show (wt v a).bind _ = none; rw [em]; show (wt v b).bind _ = none; rw [ek]; rfl)) fun em => no (by show (wt v a).bind _ = none; rw [em]; rfl)
    obtain ⟨p, lt⟩ := wt_pos hv a tm.2.1 m em
    obtain ⟨p2, lt2⟩ := wt_pos hv b tm.2.2 k ek
    refine ⟨st, m, k, rfl, p, lt, p2, lt2, fun c ec => ?_⟩
    have e : wt v (.n2 w a b) = cap c := by
      show (wt v a).bind _ = _
      rw [em]
      show (wt v b).bind _ = _
      rw [ek, ec]
      rfl
    exact ⟨fun c => yes _ (by rw [e]; exact if_pos c), fun c => no (by rw [e]; exact if_neg c)⟩
/-! ### worth -/
abbrev sWorth : Stmt := top 12
abbrev wN : List Str := ["term", "numbers", "done", "piece", "_", "word", "number", "right", "left"]
theorem scWorth : FnScope wN ["term", "numbers"] (defScope sWorth) := ⟨rfl, rfl, rfl, by decide +kernel, rfl, by decide +kernel, by decide +kernel⟩
theorem post_tm : ∀ (t : Tr) (r : Nat), t.Tm → ∀ e ∈ t.post r, e.1.Tm
  | .leaf w x, r, h, e, he => by rw [List.mem_singleton.mp he]; exact h
  | .n1 w a, r, h, e, he => by
    rcases List.mem_append.mp he with z | z
    · exact post_tm a _ h.2 e z
    · rw [List.mem_singleton.mp z]
      exact h
  | .n2 w a b, r, h, e, he => by
    rcases List.mem_append.mp he with z | z
    · rcases List.mem_append.mp z with z | z
      · exact post_tm a _ h.2.1 e z
      · exact post_tm b _ h.2.2 e z
    · rw [List.mem_singleton.mp z]
      exact h
theorem post_sub : ∀ (t : Tr) (r : Nat), ∀ e ∈ t.post r, ∀ z ∈ e.1.names, z ∈ t.names
  | .leaf w x, r, e, he, z, hz => by rw [List.mem_singleton.mp he] at hz; exact hz
  | .n0 w, r, e, he, z, hz => by rw [List.mem_singleton.mp he] at hz; exact hz
  | .n1 w a, r, e, he, z, hz => by
    rcases List.mem_append.mp he with y | y
    · exact post_sub a _ e y z hz
    · rw [List.mem_singleton.mp y] at hz
      exact hz
  | .n2 w a b, r, e, he, z, hz => by
    rcases List.mem_append.mp he with y | y
    · rcases List.mem_append.mp y with y | y
      · exact List.mem_append.mpr (.inl (post_sub a _ e y z hz))
      · exact List.mem_append.mpr (.inr (post_sub b _ e y z hz))
    · rw [List.mem_singleton.mp y] at hz
      exact hz
/-- the module's TooMany -/
structure Many (K : PySem.W.Frag) (mg : Str → Option Value) (TM : Addr) : Prop where
  isC : ∃ bm nw ini, PySem.W.excIn K TM bm nw = true ∧ ExcBaseFacts "ValueError" nw ini bm
  at_ : mg "TooMany" = some (.ref TM)
  kept : PySem.W.keepIn K (.ref TM) = true
  sub : PySem.W.subIn K (.ref TM) (.type "BaseException") = some true
  ty : PySem.W.typeIn K (.ref TM) = some (.type "type")
  own : PySem.W.exmOne K (.ref TM) (.ref TM) = some true
def spWorth (TM : Addr) : Sp := fun vs H Q E => ∃ (v1 : V) (d : Addr) (t : Tr) (v : Str → Int) (kvs : List (Key × V)), vs = [v1, .ref d] ∧ At H t v1 ∧ t.Ok ∧ t.Tm ∧ t.deep ≤ 12 ∧ H d = some (.dK kvs) ∧ (∀ z ∈ t.names, valV kvs (.inr z) = some (.int (v z))) ∧ (∀ z, 0 ≤ v z) ∧
  (∀ n H', wt v t = some n → Same H H' → Q (.int n) H') ∧ ∀ H', wt v t = none → Same H H' → E (.ref TM) none H'
theorem joinS {C G : L2.St → Hp → Prop} {M : Prop} (main : (∀ σ H, C σ H → G σ H) → M) (rest : ∀ σ H, C σ H → G σ H) : M := main rest
theorem same_wd {k : Str} {A B : Prop} (h : A) : if decide (V.str k = V.str k) = true then A else B := by
  rw [if_pos (decide_eq_true rfl)]
  exact h
theorem other_wd {k l : Str} {A B : Prop} (ne : k ≠ l) (h : B) : if decide (V.str k = V.str l) = true then A else B := by
  rw [if_neg fun z => ne (by have q := of_decide_eq_true z; injection q)]
  exact h
section
variable {P : Program} {w : World} {K : PySem.W.Frag} {mg : Str → Option Value} {base : Heap}
theorem ok_worth {f gp TM : Addr} {fd dp : FuncData} {tk : Tok} (F : Fun K "worth" "worth" sWorth f fd) (G : FnOk P w K mg base CX0 2 gp dp ["thing"] spPieces) (bG : Binds K dp ["thing"] []) (kG : PySem.W.keepIn K (.ref gp) = true) (mG : mg "pieces_of" = some (.ref gp))
    (M : Many K mg TM) (mT : mg "TOO_GREAT" = some (.int TG tk)) : FnOk P w K mg base (L2.CX P w) 3 f fd ["term", "numbers"] (spWorth TM) := by
  obtain ⟨bm, nw, ini, isC, FB⟩ := M.isC
  refine F.okX scWorth (fun vs H Q E h => ?_) (fun cdv A outer s H vs Q E hr h => ?_)
  · obtain ⟨v1, d, t, v, kvs, rfl, _⟩ := h
    rfl
  obtain ⟨v1, d, t, v, kvs, rfl, hA, hO, hM, hd, hK, hv, pos, qy, qn⟩ := h
  have u1 : (A.deeper (envOfC "worth" (defScope sWorth) s.heap.objs.size f cdv)).units + 1 < cLine := by
    have := hr.units
    omega
  refine ⟨_, pss_cons (ps_set (i := 2) scWorth.nd rfl (.inl rfl) (pe_lst pa_nil))
    (pss_cons (ps_for (passes_of rfl) rfl (pi_list (pe_call G hr (by rfl) mG kG bG .nil pass0 (pa_cons (pv 0) pa_nil))) (pg_tup (by rfl) (pgs_cons (pg_name (i := 3) scWorth.nd rfl (.inl rfl)) (pgs_cons (pg_name (i := 4) scWorth.nd rfl (.inl rfl)) pgs_nil)))
      (pss_cons (ps_set (i := 5) scWorth.nd rfl (.inl rfl) (pe_ix ix_tup (pv 3) pe_int (fun _ _ => rfl)))
      (pss_cons (ps_if (pt_cmpR op_eq (pv 5) pe_str (nomark _)) (pss_one (ps_set (i := 6) scWorth.nd rfl (.inl rfl) (pe_ix ix_tup (pv 3) pe_int (fun _ _ => rfl))))
        (pss_one (ps_if (pt_cmpR op_eq (pv 5) pe_str (nomark _))
          (pss_cons (ps_if (pt_cmp (pc_dnotin u1 (pe_ix ix_tup (pv 3) pe_int (fun _ _ => rfl)) (pv 1))) (pss_one ps_never) pss_nil) (pss_one (ps_set (i := 6) scWorth.nd rfl (.inl rfl) (pe_dget u1 (pv 1) (pe_ix ix_tup (pv 3) pe_int (fun _ _ => rfl)) (fun _ _ => rfl)))))
          (pss_one (ps_if (pt_cmpR op_eq (pv 5) pe_str (nomark _)) (pss_one (ps_set (i := 6) scWorth.nd rfl (.inl rfl) (pe_op op_add (pe_bm0 PySem.F.plainAttrs_list PySem.F.slot_list_pop PySem.F.type_list_pop mt_pop (pv 2)) pe_int)))
            (pss_cons (ps_set (i := 7) scWorth.nd rfl (.inl rfl) (pe_bm0 PySem.F.plainAttrs_list PySem.F.slot_list_pop PySem.F.type_list_pop mt_pop (pv 2)))
            (pss_cons (ps_set (i := 8) scWorth.nd rfl (.inl rfl) (pe_bm0 PySem.F.plainAttrs_list PySem.F.slot_list_pop PySem.F.type_list_pop mt_pop (pv 2)))
            (pss_one (ps_set (i := 6) scWorth.nd rfl (.inl rfl) (pe_ifExp (pt_cmpR op_eq (pv 5) pe_str (nomark _)) (pe_op op_add (pv 8) (pv 7)) (pe_op op_mulX (pv 8) (pv 7))))))))))))
      (pss_cons (ps_if (pt_cmpR op_ge (pv 6) (pe_glob (v := .int TG) (by rfl) mT ⟨_, rfl⟩) (nomark _)) (pss_one (ps_raise rfl (takes_of rfl rfl rfl rfl) (pmk_own0 FB isC M.at_ M.kept (raises_own M.sub M.ty) (by rfl)))) pss_nil)
      (pss_one (ps_expr (pe_bm PySem.F.plainAttrs_list PySem.F.slot_list_append PySem.F.type_list_append mt_append (pv 2) (pa_cons (pv 6) pa_nil))))))))
    (pss_one (ps_ret (pe_ix ix_list (pv 2) pe_int (fun _ _ => rfl))))), ?_⟩
  refine ⟨Nat.zero_le _, fun pd nd => ?_⟩
  have s1 : Same H (upd H pd (.lst [])) := same_new nd
  refine ⟨_, rfl, v1, t, rfl, hA.keep (tups_same s1), hO, hd, fun p H1 vf sm np hp rows => ?_⟩
  have hD1 : H1 pd = some (.lst []) := sm _ _ upd_same
  have npd : p ≠ pd := fun z => by
    rw [z, upd_same] at np
    cases np
  have ndd : d ≠ pd := ne_of_none hK nd
  have hK1 : H1 d = some (.dK kvs) := sm _ _ (s1 _ _ hK)
  have lenP : vf.length ≤ 4096 := by
    have l1 := rows.len
    rw [post_len] at l1
    have l3 := size_deep t
    have l4 : 2 ^ t.deep ≤ 2 ^ 12 := Nat.pow_le_pow_right (by decide) hd
    omega
  have sH : ∀ {H' : Hp}, But pd H1 H' → Same H H' := fun b c u e => b c u (ne_of_none e nd) (sm _ _ (s1 _ _ e))
  refine ⟨p, rfl, ⟨_, .inl (.inl hp)⟩, for_list (K := K) (a := p) (xs := vf) (fun i σ H' => ∃ (st : List Int) (y3 y4 y5 y6 y7 y8 : Option V), σ = [some v1, some (.ref d), some (.ref pd), y3, y4, y5, y6, y7, y8] ∧ But pd H1 H' ∧ H' pd = some (.lst (st.map V.int)) ∧ RunsW v (wt v t) ((t.post 0).drop i) st ∧ st.length ≤ i)
    ⟨[], none, none, none, none, none, none, rfl, But.refl _ _, hD1, ?_, Nat.le_refl _⟩ (fun i σ H' _ ⟨_, _, _, _, _, _, _, _, b, _⟩ => .inl (.inl (b _ _ npd hp))) ?_ ?_⟩
  · have z := runsW_post (v := v) pos (res := wt v t) t 0 [] [] hM (fun n e => ⟨n, e, rfl⟩) id
    rw [List.append_nil] at z
    exact z
  · rintro i y σ H' hy ⟨st, y3, y4, y5, y6, y7, y8, rfl, b, hD, runs, lst⟩
    obtain ⟨⟨t1, r1⟩, he, ⟨q1, x1, rfl, h1, a1⟩⟩ := rows.get hy
    have k1 : Tups H1 H' := b.tups hD1
    have a2 : At H' t1 x1 := At.keep k1 a1
    have mem1 := List.mem_of_getElem? he
    have ok1 : t1.Ok := post_ok t 0 hO (t1, r1) mem1
    have tm1 : t1.Tm := post_tm t 0 hM (t1, r1) mem1
    have il : i < (t.post 0).length := (List.getElem?_eq_some_iff.mp he).1
    have ed : (t.post 0).drop i = (t1, r1) :: (t.post 0).drop (i + 1) := by
      rw [List.drop_eq_getElem_cons il, (List.getElem?_eq_some_iff.mp he).2]
    rw [ed] at runs
    have lenI : i < vf.length := by rw [← rows.len]; exact il
    obtain ⟨p1, us, rfl, hp1, lus, kids, leafs⟩ := a2.view ok1
    refine ⟨q1, [.ref p1, .int (r1 : Int)], rfl, .inl (.inl (k1 _ _ h1)), rfl, .ref p1, [.int (r1 : Int)], rfl, .int (r1 : Int), [], rfl, rfl, ?_⟩
    refine ⟨_, rfl, p1, _, 0, _, rfl, rfl, .inl (.inl hp1), head_at _ _, ?_⟩
    apply joinS (C := fun σ X => ∃ (n : Int) (st2 : List Int) (y3 y4 y5 y7 y8 : Option V), σ = [some v1, some (.ref d), some (.ref pd), y3, y4, y5, some (.int n), y7, y8] ∧ But pd H1 X ∧ X pd = some (.lst (st2.map V.int)) ∧ st2.length ≤ i ∧ (n < TG → RunsW v (wt v t) ((t.post 0).drop (i + 1)) (st2 ++ [n])) ∧ (¬ n < TG → wt v t = none))
    · intro rest
      cases t1 with
      | leaf wd x =>
        obtain ⟨n, en, r1', r2'⟩ := runs
        obtain ⟨x2, ex, eu⟩ := leafs ok1.1
        have ex2 : x = x2 := by injection ex
        subst ex2
        subst eu
        rcases tm1 with ⟨rfl, m, em, _⟩ | ⟨rfl, z, ez⟩
        · subst em
          have e : n = m := by
            rcases en with e | ⟨z, e, _⟩
            · injection e with e
              exact e.symm
            · cases e
          subst e
          refine ⟨_, rfl, rfl, _, rfl, same_wd ?_⟩
          refine ⟨_, rfl, p1, _, 1, _, rfl, rfl, .inl (.inl hp1), atI_nat (j := 1) rfl, ?_⟩
          dsimp only [gName, List.set]
          exact rest _ H' ⟨n, st, _, _, _, _, _, rfl, b, hD, lst, r1', r2'⟩
        · subst ez
          have hz0 : z ∈ (Tr.leaf "name" (.str z)).names := by
            rw [show (Tr.leaf "name" (.str z)).names = [z] from if_pos rfl]
            exact List.mem_singleton.mpr rfl
          have hkz : valV kvs (.inr z) = some (.int (v z)) := hv z (post_sub t 0 _ mem1 z hz0)
          have e : n = v z := by
            rcases en with e | ⟨z2, e, e3⟩
            · cases e
            · injection e with e
              rw [e3, e]
          subst e
          have hKd : H' d = some (.dK kvs) := b _ _ ndd hK1
          refine ⟨_, rfl, rfl, _, rfl, other_wd (show Str.ofString "name" ≠ "num" by decide +kernel) ⟨_, rfl, rfl, _, rfl, same_wd ?_⟩⟩
          refine ⟨_, rfl, p1, _, 1, _, rfl, rfl, .inl (.inl hp1), atI_nat (j := 1) rfl, _, rfl, d, _, rfl, DGet.k (k := .inr z) hKd, ?_⟩
          have got : DGet H' d (.str z) (some (.int (v z))) := by
            have g0 := DGet.k (k := .inr z) hKd
            rw [hkz] at g0
            exact g0
          refine ⟨_, rfl, ?_⟩
          rw [hkz]
          refine iteF ?_
          refine ⟨_, rfl, _, rfl, p1, _, 1, _, rfl, rfl, .inl (.inl hp1), atI_nat (j := 1) rfl, d, _, rfl, got, ?_⟩
          dsimp only [gName, List.set]
          exact rest _ H' ⟨v z, st, _, _, _, _, _, rfl, b, hD, lst, r1', r2'⟩
      | n0 wd => exact tm1.elim
      | n1 wd a =>
        obtain ⟨rfl, _⟩ := tm1
        obtain ⟨s0, m, es, m0, m1, r1', r2'⟩ := runs
        subst es
        have hpop : ((s0 ++ [m]).map V.int)[((s0 ++ [m]).map V.int).length - 1]? = some (.int m) := by simp
        refine ⟨_, rfl, rfl, _, rfl, other_wd (show Str.ofString "next" ≠ "num" by decide +kernel) ⟨_, rfl, rfl, _, rfl, other_wd (show Str.ofString "next" ≠ "name" by decide +kernel) ⟨_, rfl, rfl, _, rfl, same_wd ?_⟩⟩⟩
        refine ⟨_, rfl, .inl ⟨rfl, _, .inl (.inl hD)⟩, pd, _, .int m, rfl, rfl, hD, hpop, ?_⟩
        refine ⟨_, _, rfl, rfl, ?_⟩
        dsimp only [gName, List.set]
        have k2 : But pd H1 (upd H' pd (.lst ((s0 ++ [m]).map V.int).dropLast)) := b.own
        refine rest _ _ ⟨m + 1, s0, _, _, _, _, _, rfl, k2, by rw [upd_same, List.map_append]; simp, by rw [List.length_append, List.length_singleton] at lst; omega, r1', r2'⟩
      | n2 wd a c =>
        obtain ⟨s0, m, k, es, m0, m1, n0, n1, fin⟩ := runs
        subst es
        have hpop : ((s0 ++ [m] ++ [k]).map V.int)[((s0 ++ [m] ++ [k]).map V.int).length - 1]? = some (.int k) := by simp
        have hpop2 : ((s0 ++ [m]).map V.int)[((s0 ++ [m]).map V.int).length - 1]? = some (.int m) := by simp
        have hw : wd ≠ "num" ∧ wd ≠ "name" ∧ wd ≠ "next" := by
          rcases tm1.1 with e | e <;> rw [e] <;> decide +kernel
        refine ⟨_, rfl, rfl, _, rfl, other_wd hw.1 ⟨_, rfl, rfl, _, rfl, other_wd hw.2.1 ⟨_, rfl, rfl, _, rfl, other_wd hw.2.2 ?_⟩⟩⟩
        refine ⟨_, rfl, .inl ⟨rfl, _, .inl (.inl hD)⟩, pd, _, .int k, rfl, rfl, hD, hpop, ?_⟩
        rw [show ((s0 ++ [m] ++ [k]).map V.int).dropLast = (s0 ++ [m]).map V.int by simp]
        refine ⟨_, rfl, .inl ⟨rfl, _, .inl (.inl upd_same)⟩, pd, _, .int m, rfl, rfl, upd_same, hpop2, ?_⟩
        rw [show ((s0 ++ [m]).map V.int).dropLast = s0.map V.int by simp]
        have k2 : But pd H1 (upd (upd H' pd (.lst ((s0 ++ [m]).map V.int))) pd (.lst (s0.map V.int))) := b.own.own
        have ls : s0.length ≤ i := by
          rw [List.length_append, List.length_append, List.length_singleton, List.length_singleton] at lst
          omega
        refine ⟨_, rfl, rfl, _, rfl, ?_⟩
        by_cases cw : wd = "plus"
        · subst cw
          have f := fin (m + k) (if_pos rfl).symm
          refine same_wd ⟨_, rfl, _, rfl, _, _, rfl, rfl, ?_⟩
          dsimp only [gName, List.set]
          exact rest _ _ ⟨m + k, s0, _, _, _, _, _, rfl, k2, upd_same, ls, f.1, f.2⟩
        · have f := fin (m * k) (if_neg cw).symm
          refine other_wd cw ⟨_, rfl, _, rfl, _, _, rfl, rfl, ?_, ?_⟩
          · have bits : ∀ x : Int, 0 ≤ x → x < TG → Builtin.Int.intBits x ≤ 200 := fun x p q => PyProof.Rows.intBits_le (k := 200) (by
              have q2 : x < 10 ^ 60 := q
              have q3 : x.natAbs < 10 ^ 60 := by omega
              exact Nat.lt_of_lt_of_le q3 (by decide))
            have e1 := bits m m0 m1
            have e2 := bits k n0 n1
            unfold CMulX
            omega
          dsimp only [gName, List.set]
          exact rest _ _ ⟨m * k, s0, _, _, _, _, _, rfl, k2, upd_same, ls, f.1, f.2⟩
    · rintro σ X ⟨n, st2, y3, y4, y5, y7, y8, rfl, bX, hX, l2, f1, f2⟩
      refine ⟨_, rfl, _, _, rfl, rfl, _, rfl, ?_⟩
      refine ite2 (fun c => ?_) (fun c => ?_)
      · exact qn _ (f2 (by have := of_decide_eq_true c; omega)) (sH bX)
      · have lt : n < TG := by
          have q : ¬ TG ≤ n := fun z => c (decide_eq_true z)
          omega
        refine ⟨_, rfl, .inl ⟨rfl, _, .inl (.inl hX)⟩, _, rfl, pd, _, .int n, rfl, rfl, hX, line_of (by rw [List.length_map]; omega), ?_⟩
        refine ⟨st2 ++ [n], _, _, _, _, _, _, rfl, bX.own, by rw [upd_same, List.map_append]; rfl, f1 lt, ?_⟩
        rw [List.length_append, List.length_singleton]
        omega
  · rintro σ H' ⟨st, y3, y4, y5, y6, y7, y8, rfl, b, hD, runs, lst⟩
    rw [← rows.len, List.drop_length] at runs
    obtain ⟨n, en, rfl⟩ := runs
    refine ⟨_, rfl, pd, _, 0, _, rfl, rfl, .inl (.inl hD), atI_nat (j := 0) rfl, ?_⟩
    exact qy n _ en (sH b)
end
end Kf
set_option Elab.async false
set_option linter.all false
set_option maxRecDepth 100000
set_option maxHeartbeats 4000000
set_option pp.maxSteps 400
/-! The law's way to ask a worth: None where it is too great. -/
namespace Kf
open PySem PySem.Spec PyProof.Rows L2 Sx
abbrev sTold : Stmt := top 22
theorem scTold : FnScope ["term", "numbers", "found"] ["term", "numbers"] (defScope sTold) := ⟨rfl, rfl, rfl, by decide +kernel, rfl, by decide +kernel, by decide +kernel⟩
/-- what a callee lets out, told for the names that are there -/
theorem passes_len {X : Cx} {W : WX} {E : XK} (tk : Takes X W) (hW : ∀ cls d σ H, σ.length = X.N.length → E cls d H → W cls d σ H) : Passes (L2.CX X.prog X.w) X E :=
  fun pins σ H s e s' I c => tk e s' (XE.of_call I (fun cls d H' h => hW cls d σ H' I.len h) c)
def spTold : Sp := fun vs H Q E => ∃ (v1 : V) (d : Addr) (t : Tr) (v : Str → Int) (kvs : List (Key × V)), vs = [v1, .ref d] ∧ At H t v1 ∧ t.Ok ∧ t.Tm ∧ t.deep ≤ 12 ∧ H d = some (.dK kvs) ∧ (∀ z ∈ t.names, valV kvs (.inr z) = some (.int (v z))) ∧ (∀ z, 0 ≤ v z) ∧
  (∀ n H', wt v t = some n → Same H H' → Q (.int n) H') ∧ ∀ H', wt v t = none → Same H H' → Q .non H'
section
variable {P : Program} {w : World} {K : PySem.W.Frag} {mg : Str → Option Value} {base : Heap}
theorem ok_told {f gw TM : Addr} {fd dw : FuncData} (F : Fun K "_law_told" "_law_told" sTold f fd) (G : FnOk P w K mg base (L2.CX P w) 3 gw dw ["term", "numbers"] (spWorth TM)) (bG : Binds K dw ["term", "numbers"] []) (kG : PySem.W.keepIn K (.ref gw) = true) (mG : mg "worth" = some (.ref gw))
    (M : Many K mg TM) : FnOk P w K mg base CX0 4 f fd ["term", "numbers"] spTold := by
  refine F.ok scTold (fun vs H Q E h => ?_) (fun cdv A outer s H vs Q E hr h => ?_)
  · obtain ⟨v1, d, t, v, kvs, rfl, _⟩ := h
    rfl
  obtain ⟨v1, d, t, v, kvs, rfl, hA, hO, hM, hd, hK, hv, pos, qy, qn⟩ := h
  refine ⟨_, pss_cons (ps_set (i := 2) scTold.nd rfl (.inl rfl) pe_non)
    (pss_cons (ps_try_only (c := .ref TM) rfl rfl ⟨by rfl, by decide, .inl M.at_⟩ L2.takes0
      (fun W pn xe tk _ => pss_one (ps_set (i := 2) scTold.nd rfl (.inl rfl) (pe_call (E := fun cls d H => ∀ σ : L2.St, σ.length = 3 → W cls d σ H) G hr (by rfl) mG kG bG .nil (passes_len tk fun cls d σ H l h => h σ l) (pa_cons (pv 0) (pa_cons (pv 1) pa_nil)))))
      (fun a oe cls d pn _ _ => pss_one (ps_set (i := 2) scTold.nd rfl (.inl rfl) pe_non)))
    (pss_one (ps_ret (pv 2)))), ?_⟩
  refine ⟨_, rfl, _, rfl, v1, d, t, v, kvs, rfl, hA, hO, hM, hd, hK, hv, pos, fun n H' e sm => ?_, fun H' e sm σ l => ?_⟩
  · exact ⟨_, rfl, qy n H' e sm⟩
  · refine ⟨true, M.own, fun _ a na => ?_, fun z => by cases z⟩
    match σ, l with
    | [x, y, z], _ => exact ⟨_, rfl, qn H' e sm⟩
end
end Kf
set_option Elab.async false
set_option linter.all false
set_option maxRecDepth 100000
set_option maxHeartbeats 4000000
set_option pp.maxSteps 400
/-! Worths of what is put together. -/
namespace Kf
open PySem PySem.Spec PyProof.Rows L2 Sx
abbrev nmb (n : Int) : Tr := .leaf "num" (.int n)
theorem ok_nmb (n : Int) : (nmb n).Ok := ⟨by decide +kernel, .inl ⟨⟨_, rfl⟩, by decide +kernel⟩⟩
theorem nmb_names (n : Int) : (nmb n).names = [] := if_neg (by decide +kernel)
def bind1 (v : Str → Int) (z : Str) (m : Int) : Str → Int := fun y => if y = z then m else v y
theorem tm_made {ns : List Str} : ∀ {t : Tr}, t.In 0 → t.Not → t.Tm
  | .leaf w x, inn, _ => by
    rcases inn with ⟨e, n, en, p, _⟩ | ⟨e, z, ez⟩ | ⟨_, k, _, p, q⟩
    · exact .inl ⟨e, n, en, p⟩
    · exact .inr ⟨e, z, ez⟩
    · omega
  | .n0 w, _, no => no
  | .n1 w a, inn, no => by
    obtain ⟨e, no2⟩ := no
    subst e
    have h : a.In (if binds "next" = true then (0 : Int) + 1 else 0) := inn
    rw [if_neg (by decide +kernel)] at h
    exact ⟨rfl, tm_made (ns := ns) h no2⟩
  | .n2 w a b, inn, no => ⟨no.1, tm_made (ns := ns) inn.2.1 no.2.1, tm_made (ns := ns) inn.2.2 no.2.2⟩
theorem wt_congr {v v2 : Str → Int} : ∀ t : Tr, t.Tm → (∀ z ∈ t.names, v z = v2 z) → wt v t = wt v2 t
  | .leaf w x, tm, h => by
    rcases tm with ⟨e, n, en, _⟩ | ⟨e, z, ez⟩
    · subst en
      rfl
    · subst e
      subst ez
      show cap (v z) = cap (v2 z)
      rw [h z (by rw [show (Tr.leaf "name" (.str z)).names = [z] from if_pos rfl]; exact List.mem_singleton.mpr rfl)]
  | .n1 w a, tm, h => by
    show (wt v a).bind _ = (wt v2 a).bind _
    rw [wt_congr a tm.2 h]
  | .n2 w a b, tm, h => by
    show (wt v a).bind (fun m => (wt v b).bind _) = (wt v2 a).bind (fun m => (wt v2 b).bind _)
    rw [wt_congr a tm.2.1 fun z hz => h z (List.mem_append.mpr (.inl hz)), wt_congr b tm.2.2 fun z hz => h z (List.mem_append.mpr (.inr hz))]
theorem leaf_not_nme {w : Str} {x : V} {z : Str} (h : w ≠ "name") : Tr.leaf w x ≠ nme z := not_nme h z
/-- the worth of a put term for its name -/
theorem wt_put {v : Str → Int} {z : Str} {u : Tr} {m : Int} (hm : wt v u = some m) (lt : m < TG) : ∀ (t : Tr) (r : Nat), t.Ok → t.Tm → wt v (chg (sub (fun _ => nme z) fun _ => u) t r) = wt (bind1 v z m) t
  | .leaf w x, r, ok, tm => by
    show wt v (sub _ _ (.leaf w x) r) = _
    rcases tm with ⟨e, n, en, _⟩ | ⟨e, y, ey⟩
    · subst e
      subst en
      rw [sub_no ok (ok_nme z) (not_nme (by decide +kernel) z)]
      rfl
    · subst e
      subst ey
      by_cases c : y = z
      · subst c
        rw [sub_yes ok rfl, hm]
        show some m = cap (bind1 v y m y)
        unfold bind1 cap
        rw [if_pos rfl, if_pos lt]
      · rw [sub_no ok (ok_nme z) (nme_ne c)]
        show cap (v y) = cap (bind1 v z m y)
        unfold bind1
        rw [if_neg c]
  | .n1 w a, r, ok, tm => by
    show (wt v (chg _ a _)).bind _ = (wt _ a).bind _
    rw [wt_put hm lt a _ ok.2 tm.2]
  | .n2 w a b, r, ok, tm => by
    show (wt v (chg _ a _)).bind (fun m => (wt v (chg _ b _)).bind _) = (wt _ a).bind (fun m => (wt _ b).bind _)
    rw [wt_put hm lt a _ ok.2.1 tm.2.1, wt_put hm lt b _ ok.2.2 tm.2.2]
theorem bind_none2 {α β γ : Type} (a : Option α) (f : α → β → Option γ) : (a.bind fun m => (none : Option β).bind fun n => f m n) = none := by
  cases a <;> rfl
/-- what is too great makes all too great -/
theorem wt_great {v : Str → Int} {z : Str} {u : Tr} (hn : wt v u = none) : ∀ (t : Tr) (r : Nat), t.Ok → t.Tm → z ∈ t.names → wt v (chg (sub (fun _ => nme z) fun _ => u) t r) = none
  | .leaf w x, r, ok, tm, hz => by
    show wt v (sub _ _ (.leaf w x) r) = _
    rcases tm with ⟨e, n, en, _⟩ | ⟨e, y, ey⟩
    · subst e
      subst en
      rw [nmb_names] at hz
      exact (List.not_mem_nil hz).elim
    · subst e
      subst ey
      rw [nme_names] at hz
      obtain rfl : z = y := List.mem_singleton.mp hz
      rw [sub_yes ok rfl, hn]
  | .n1 w a, r, ok, tm, hz => by
    show (wt v (chg _ a _)).bind _ = _
    rw [wt_great hn a _ ok.2 tm.2 hz]
    rfl
  | .n2 w a b, r, ok, tm, hz => by
    show (wt v (chg _ a _)).bind (fun m => (wt v (chg _ b _)).bind _) = _
    rcases List.mem_append.mp hz with h | h
    · rw [wt_great hn a _ ok.2.1 tm.2.1 h]
      rfl
    · rw [wt_great hn b _ ok.2.2 tm.2.2 h]
      exact bind_none2 _ _
theorem put_tm {z : Str} {u : Tr} (hu : u.Tm) : ∀ (t : Tr) (r : Nat), t.Tm → (chg (sub (fun _ => nme z) fun _ => u) t r).Tm
  | .leaf w x, r, tm => (sub_pick (fun _ => nme z) (fun _ => u) (.leaf w x) r).elim (fun e => by show (sub _ _ _ _).Tm; rw [e]; exact hu) fun e => by show (sub _ _ _ _).Tm; rw [e]; exact tm
  | .n1 w a, r, tm => ⟨tm.1, put_tm hu a _ tm.2⟩
  | .n2 w a b, r, tm => ⟨tm.1, put_tm hu a _ tm.2.1, put_tm hu b _ tm.2.2⟩
theorem put_same {z : Str} {u a b : Tr} : putN z u (.n2 "same" a b) = .n2 "same" (putN z u a) (putN z u b) := by
  have e : inner "same" 0 = 0 := if_neg (by decide +kernel)
  show Tr.n2 "same" (chg _ a (inner "same" 0)) (chg _ b (inner "same" 0)) = _
  rw [e]
  rfl
/-- all names' numbers put for them -/
def clo (v : Str → Int) : List Str → Tr → Tr
  | [], t => t
  | z :: zs, t => clo v zs (putN z (nmb (v z)) t)
theorem clo_more (v : Str → Int) (z : Str) : ∀ (zs : List Str) (t : Tr), clo v (zs ++ [z]) t = putN z (nmb (v z)) (clo v zs t)
  | [], t => rfl
  | y :: ys, t => clo_more v z ys _
theorem clo_same (v : Str → Int) : ∀ (zs : List Str) (a b : Tr), clo v zs (.n2 "same" a b) = .n2 "same" (clo v zs a) (clo v zs b)
  | [], a, b => rfl
  | z :: zs, a, b => by
    show clo v zs (putN z _ (.n2 "same" a b)) = _
    rw [put_same, clo_same v zs]
    rfl
theorem clo_wt {v : Str → Int} (hv : ∀ z, 0 ≤ v z ∧ v z < TG) : ∀ (zs : List Str) (t : Tr), t.Ok → t.Tm → wt v (clo v zs t) = wt v t ∧ (clo v zs t).Ok ∧ (clo v zs t).Tm
  | [], t, ok, tm => ⟨rfl, ok, tm⟩
  | z :: zs, t, ok, tm => by
    have tm2 : (nmb (v z)).Tm := .inl ⟨rfl, v z, rfl, (hv z).1⟩
    obtain ⟨h1, h2, h3⟩ := clo_wt hv zs (putN z (nmb (v z)) t) (put_ok (fun _ => ok_nmb _) ok) (put_tm tm2 t 0 tm)
    refine ⟨h1.trans ?_, h2, h3⟩
    rw [show putN z (nmb (v z)) t = chg (sub (fun _ => nme z) fun _ => nmb (v z)) t 0 from rfl, wt_put (v := v) (u := nmb (v z)) (m := v z) (show cap (v z) = some (v z) from if_pos (hv z).2) (hv z).2 t 0 ok tm]
    refine wt_congr t tm fun y _ => ?_
    unfold bind1
    split
    · rename_i c
      rw [c]
    · rfl
theorem clo_names {v : Str → Int} : ∀ (zs : List Str) (t : Tr), t.Ok → ∀ y, y ∈ (clo v zs t).names → y ∈ t.names ∧ y ∉ zs
  | [], t, ok, y, h => ⟨h, List.not_mem_nil⟩
  | z :: zs, t, ok, y, h => by
    obtain ⟨h1, h2⟩ := clo_names zs _ (put_ok (fun _ => ok_nmb (v z)) ok) y h
    rcases (put_names t 0 ok y).1 h1 with ⟨h3, h4⟩ | ⟨_, h3⟩
    · exact ⟨h3, fun q => (List.mem_cons.mp q).elim h4 h2⟩
    · rw [nmb_names] at h3
      exact (List.not_mem_nil h3).elim
theorem wt_swap {v : Str → Int} {a b : Tr} : wt v (.n2 "plus" a b) = wt v (.n2 "plus" b a) := by
  show (wt v a).bind (fun m => (wt v b).bind fun n => cap (if Str.ofString "plus" = "plus" then m + n else m * n)) = (wt v b).bind (fun m => (wt v a).bind fun n => cap (if Str.ofString "plus" = "plus" then m + n else m * n))
  cases wt v a with
  | none => cases wt v b <;> rfl
  | some m =>
    cases wt v b with
    | none => rfl
    | some n =>
      show cap (if _ then m + n else m * n) = cap (if _ then n + m else n * m)
      rw [Int.add_comm, Int.mul_comm]
end Kf
set_option Elab.async false
set_option linter.all false
set_option maxRecDepth 100000
set_option maxHeartbeats 8000000
set_option pp.maxSteps 400
/-! The law. -/
namespace Kf
open PySem PySem.Spec PyProof.Rows L2 Sx LamX
abbrev sLaw : Stmt := top 23
abbrev lawN : List Str := ["script", "k", "feed", "names", "one", "two", "numbers", "name", "here", "second", "led", "closed", "other"]
theorem scLaw : FnScope lawN ["script"] (defScope sLaw) := ⟨rfl, rfl, rfl, by decide +kernel, rfl, by decide +kernel, by decide +kernel⟩
theorem lo62 {r : Int} (h : 0 ≤ r) : -(2 ^ 62) ≤ r := Int.le_trans (by decide) h
theorem hi62 {r : Int} (h : r ≤ 1000) : r < 2 ^ 62 := Int.lt_of_le_of_lt h (by decide)
def spLaw (K : PySem.W.Frag) (T : List (Addr × Str)) : Sp := fun vs H Q _ => ∃ (a : Addr) (ns : List Int), vs = [.ref a] ∧ SqL K H a (ns.map V.int) ∧ ns.length ≤ 63 ∧ (∀ z ∈ ns, Builtin.Int.intBits z ≤ 1048576) ∧ Tabs T H ∧ ∀ H', Q (.bl true) H'
/-! ### what stays -/
theorem ext_seq {K : PySem.W.Frag} {a : Addr} {H H' : Hp} {xs : List V} (b : ExtN H H') (h : SqL K H a xs) : SqL K H' a xs := by
  rcases h with (h | ⟨o, h⟩) | h
  · exact .inl (.inl (b _ _ h fun ps z => by cases z))
  · exact .inl (.inr ⟨o, b _ _ h fun ps z => by cases z⟩)
  · exact .inr h
theorem tabs_but {T : List (Addr × Str)} {f : Addr} {H H' : Hp} (hF : FeedAt H f) (b : But f H H') (t : Tabs T H) : Tabs T H' := fun p hp => by
  obtain ⟨x, y, e, _⟩ := hF
  obtain ⟨ps, h1, h2, h3⟩ := t p hp
  refine ⟨ps, b _ _ (fun z => by rw [z, e] at h1; cases h1) h1, h2, fun pos cv hc => ?_⟩
  obtain ⟨c, e1, e2⟩ := h3 pos cv hc
  exact ⟨c, e1, b _ _ (fun z => by rw [z, e] at e2; unfold CodeO at e2; cases e2) e2⟩
theorem put_at {H : Hp} {p q : Addr} {o u : HO} (e : H p = some o) (n : H q = none) : (upd H q u) p = some o := by
  rw [upd_ne (ne_of_none e n)]
  exact e
theorem ne_eq {K : PySem.W.Frag} {H : Hp} {t u : Tr} {v w : V} {Q : VK} (e : t = u) (ok : u.Ok) (ly : u.Lay) (d : u.deep ≤ 64) (a : At H t v) (b : At H u w) (h : Q (.bl false) H) : rNeD K v w H Q := by
  subst e
  refine ⟨t.dat, t.dat, a.dp ok, b.dp ok, shaped_dat ok ly d, shaped_dat ok ly d, ?_⟩
  rw [(eqv_dat t t ok ok).2 rfl]
  exact h
/-- a tree that can be handed on -/
structure Fit (t : Tr) (d : Nat) : Prop where
  ok : t.Ok
  ly : t.Lay
  no : t.Not
  dp : t.deep ≤ d
theorem fit_made {ns : List Str} {r : Int} {d : Nat} {t : Tr} (m : Made ns r d t) (h : ∀ z ∈ ns, NmOk z) : Fit t d := ⟨m.ok, lay_made h m.ok m.inn m.no m.nm, m.no, m.dp⟩
theorem fit_nme {z : Str} (h : NmOk z) : Fit (nme z) 1 := ⟨ok_nme z, ⟨by decide +kernel, fun y e => by injection e with e; rw [← e]; exact h⟩, trivial, Nat.le_refl 1⟩
theorem fit_putN {t u : Tr} {d e : Nat} {z : Str} (h : Fit t d) (k : Fit u (e + 1)) : Fit (putN z u t) (d + e) :=
  ⟨put_ok (fun _ => k.ok) h.ok, put_lay (fun _ => k.ly) h.ly, put_not (fun _ => k.no) h.no, Nat.le_trans (put_deep (d := e) (fun _ => k.dp) t 0) (Nat.add_le_add_right h.dp e)⟩
theorem in_zero {t : Tr} (h : t.In 0) : t.In (((0 : Nat) : Int) + 0) := h
abbrev nsA : List Str := ["x", "n", "m"]
theorem okA : ∀ z ∈ nsA, NmOk z := by decide +kernel
theorem inV_strs (z : Str) : ∀ ys : List Str, inV (.str z) (ys.map V.str) = decide (z ∈ ys)
  | [] => by simp [inV]
  | y :: r => by
    have h := inV_strs z r
    unfold inV at h ⊢
    rw [List.map_cons, List.any_cons, h]
    have e1 : eqV (.str y) (.str z) = decide (y = z) := by
      unfold eqV
      rfl
    rw [e1]
    by_cases e : y = z
    · subst e
      simp
    · rw [decide_eq_false e, Bool.false_or]
      have e3 : z ≠ y := fun q => e q.symm
      simp [e3]
theorem flat_strs : ∀ ys : List Str, (ys.map V.str).all flatV = true
  | [] => rfl
  | y :: r => by
    rw [List.map_cons, List.all_cons, flat_strs r]
    rfl
theorem joinV {C G : V → Hp → Prop} {M : Prop} (main : (∀ v H, C v H → G v H) → M) (rest : ∀ v H, C v H → G v H) : M := main rest
def tv : Option Int → V
  | some n => .int n
  | none => .non
theorem told2 {v1 : V} {d : Addr} {t : Tr} {v : Str → Int} {kvs : List (Key × V)} {H : Hp} {Q : VK} {E : XK} (a : At H t v1) (ok : t.Ok) (tm : t.Tm) (dp : t.deep ≤ 12) (hd : H d = some (.dK kvs)) (hv : ∀ z ∈ t.names, valV kvs (.inr z) = some (.int (v z))) (pos : ∀ z, 0 ≤ v z)
    (h : ∀ H', Same H H' → Q (tv (wt v t)) H') : spTold [v1, .ref d] H Q E :=
  ⟨v1, d, t, v, kvs, rfl, a, ok, tm, dp, hd, hv, pos, fun n H' e s => by have z := h H' s; rw [e] at z; exact z, fun H' e s => by have z := h H' s; rw [e] at z; exact z⟩
theorem ne_tv {o1 o2 : Option Int} {H : Hp} {Q : VK} (e : o1 = o2) (h : Q (.bl false) H) : rNe (tv o1) (tv o2) H Q := by
  subst e
  refine ⟨by cases o1 <;> rfl, ?_⟩
  rw [show decide (tv o1 = tv o1) = true from decide_eq_true rfl]
  exact h
theorem clo_fit (v : Str → Int) : ∀ (zs : List Str) (t : Tr) (d : Nat), t.Ok → t.Lay → t.deep ≤ d → (clo v zs t).Ok ∧ (clo v zs t).Lay ∧ (clo v zs t).deep ≤ d
  | [], t, d, h1, h2, h3 => ⟨h1, h2, h3⟩
  | z :: zs, t, d, h1, h2, h3 => clo_fit v zs _ d (put_ok (fun _ => ok_nmb _) h1) (put_lay (new := fun _ => nmb (v z)) (fun _ => ⟨by decide +kernel, fun y e => by cases e⟩) h2) (Nat.le_trans (put_deep (new := fun _ => nmb (v z)) (d := 0) (fun _ => Nat.le_refl 1) t 0) h3)
section
variable {P : Program} {w : World} {K : PySem.W.Frag} {mg : Str → Option Value} {base : Heap} {T : List (Addr × Str)}
structure Calls (P : Program) (w : World) (K : PySem.W.Frag) (mg : Str → Option Value) (base : Heap) (T : List (Addr × Str)) (ff ft fp fm fi fg fw : Addr) (df dt dp dm di dg dw : FuncData) : Prop where
  D : Draw P w K mg base ft fp dt dp
  Fd : FnOk P w K mg base CX0 1 ff df ["script", "k"] (spFeed K)
  bFd : Binds K df ["script", "k"] []
  kFd : PySem.W.keepIn K (.ref ff) = true
  mFd : mg "_law_feed" = some (.ref ff)
  M : FnOk P w K mg base CX0 8 fm dm ["feed", "deep", "names", "around"] (spTerm 5)
  bM : Binds K dm ["feed", "deep", "names", "around"] []
  kM : PySem.W.keepIn K (.ref fm) = true
  mM : mg "_law_term" = some (.ref fm)
  I : FnOk P w K mg base CX0 3 fi di ["thing"] spNamesIn
  bI : Binds K di ["thing"] []
  kI : PySem.W.keepIn K (.ref fi) = true
  mI : mg "names_in" = some (.ref fi)
  G : FnOk P w K mg base CX0 4 fg dg ["saying", "name", "term"] (spPutFor T)
  bG : Binds K dg ["saying", "name", "term"] []
  kG : PySem.W.keepIn K (.ref fg) = true
  mG : mg "put_for" = some (.ref fg)
  W : FnOk P w K mg base CX0 4 fw dw ["term", "numbers"] spTold
  bW : Binds K dw ["term", "numbers"] []
  kW : PySem.W.keepIn K (.ref fw) = true
  mW : mg "_law_told" = some (.ref fw)
  zRange : mg "range" = none
  zMax : mg "max" = none
  zMin : mg "min" = none
  zLen : mg "len" = none
  zDict : mg "dict" = none
theorem ok_law {f ff ft fp fm fi fg fw : Addr} {fd df dt dp dm di dg dw : FuncData} (F : Fun K "law" "law" sLaw f fd) (C : Calls P w K mg base T ff ft fp fm fi fg fw df dt dp dm di dg dw) : FnOk P w K mg base CX0 9 f fd ["script"] (spLaw K T) := by
  refine F.ok scLaw (fun vs H Q E h => ?_) (fun cdv A outer s H vs Q E hr h => ?_)
  · obtain ⟨a, ns, rfl, _⟩ := h
    rfl
  obtain ⟨a, ns, rfl, hS, hlen, hb, hT, q⟩ := h
  have h1 : Room 1 _ := hr.mono (by decide)
  have h2 : Room 2 _ := hr.mono (by decide)
  have h3 : Room 3 _ := hr.mono (by decide)
  have h4 : Room 4 _ := hr.mono (by decide)
  have h8 : Room 8 _ := hr.mono (by decide)
  have u1 : (A.deeper (envOfC "law" (defScope sLaw) s.heap.objs.size f cdv)).units + 1 < cLine := by
    have := hr.units
    omega
  refine ⟨_, pss_cons (ps_for PassesOwn.never rfl (pi_range1 (by rfl) C.zRange (pa_cons (pe_callB (call_max2 rfl) (by rfl) C.zMax (by decide +kernel) (pa_cons pe_int (pa_cons (pe_callB (call_min2 rfl) (by rfl) C.zMin (by decide +kernel) (pa_cons pe_int (pa_cons (pe_callB call_len_seq (by rfl) C.zLen PySem.boot_len (pa_cons (pv 0) pa_nil)) pa_nil))) pa_nil))) pa_nil)) (pg_name (i := 1) scLaw.nd rfl (.inl rfl))
      (pss_cons (ps_set (i := 2) scLaw.nd rfl (.inl rfl) (pe_call C.Fd h1 (by rfl) C.mFd C.kFd C.bFd .nil pass0 (pa_cons (pv 0) (pa_cons (pv 1) pa_nil))))
      (pss_cons (ps_set (i := 3) scLaw.nd rfl (.inl rfl) (pe_lst (pa_cons pe_str (pa_cons pe_str (pa_cons pe_str pa_nil)))))
      (pss_cons (ps_par (i := 4) (j := 5) rfl scLaw.nd rfl rfl (by decide) rfl rfl (pa_cons (pe_call C.M h8 (by rfl) C.mM C.kM C.bM .nil pass0 (pa_cons (pv 2) (pa_cons pe_int (pa_cons (pv 3) (pa_cons pe_int pa_nil))))) (pa_cons (pe_call C.M h8 (by rfl) C.mM C.kM C.bM .nil pass0 (pa_cons (pv 2) (pa_cons pe_int (pa_cons (pv 3) (pa_cons pe_int pa_nil))))) pa_nil)) (by rfl))
      (pss_cons (ps_set (i := 6) scLaw.nd rfl (.inl rfl) pe_dnewK)
      (pss_cons (ps_for PassesOwn.never rfl (pi_list (pv 3)) (pg_name (i := 7) scLaw.nd rfl (.inl rfl)) (pss_one (ps_dput u1 (pv 6) (pv 7) (pe_call C.D.Pk h2 (by rfl) C.D.mP C.D.kP C.D.bP .nil pass0 (pa_cons (pv 2) (pa_cons (pe_lst (pa_cons pe_int (pa_cons pe_int (pa_cons pe_int (pa_cons (pe_call C.D.T h1 (by rfl) C.D.mT C.D.kT C.D.bT .nil pass0 (pa_cons (pv 2) (pa_cons pe_int pa_nil))) (pa_cons (pe_call C.D.T h1 (by rfl) C.D.mT C.D.kT C.D.bT .nil pass0 (pa_cons (pv 2) (pa_cons (pe_op op_pow pe_int pe_int) pa_nil))) pa_nil)))))) pa_nil))) (by rfl))))
      (pss_cons (ps_set (i := 7) scLaw.nd rfl (.inl rfl) (pe_call C.D.Pk h2 (by rfl) C.D.mP C.D.kP C.D.bP .nil pass0 (pa_cons (pv 2) (pa_cons (pv 3) pa_nil))))
      (pss_cons (ps_set (i := 8) scLaw.nd rfl (.inl rfl) (pe_ix ix_tup (pe_call C.G h4 (by rfl) C.mG C.kG C.bG .nil pass0 (pa_cons (pe_tup (pa_cons pe_str (pa_cons (pv 4) (pa_cons (pv 5) pa_nil)))) (pa_cons (pv 7) (pa_cons (pv 5) pa_nil)))) pe_int (fun _ _ => rfl)))
      (pss_cons (ps_set (i := 9) scLaw.nd rfl (.inl rfl) (pe_call C.W h4 (by rfl) C.mW C.kW C.bW .nil pass0 (pa_cons (pv 5) (pa_cons (pv 6) pa_nil))))
      (pss_cons (ps_if (pt_cmpR op_isN (pv 9) pe_non (nomark _)) (pss_one (ps_if (PW.pt (pw_and (pt_cmpR op_in_seq (pv 7) (pe_call C.I h3 (by rfl) C.mI C.kI C.bI .nil pass0 (pa_cons (pv 4) pa_nil)) (by rfl)) (pw_and1 (pt_cmpR op_notN (pe_call C.W h4 (by rfl) C.mW C.kW C.bW .nil pass0 (pa_cons (pv 8) (pa_cons (pv 6) pa_nil))) pe_non (nomark _))))) (pss_one (ps_ret pe_bl)) pss_nil))
        (pss_cons (ps_set (i := 10) scLaw.nd rfl (.inl rfl) (pe_callTy call_dictD (by rfl) C.zDict (by decide +kernel) (pa_cons (pv 6) pa_nil)))
      (pss_cons (ps_dput u1 (pv 10) (pv 7) (pv 9) (by rfl))
      (pss_one (ps_if (pt_cmpR op_ne (pe_call C.W h4 (by rfl) C.mW C.kW C.bW .nil pass0 (pa_cons (pv 8) (pa_cons (pv 6) pa_nil))) (pe_call C.W h4 (by rfl) C.mW C.kW C.bW .nil pass0 (pa_cons (pv 4) (pa_cons (pv 10) pa_nil))) (nomark _)) (pss_one (ps_ret pe_bl)) pss_nil)))))
      (pss_cons (ps_set (i := 11) scLaw.nd rfl (.inl rfl) (pe_tup (pa_cons pe_str (pa_cons (pv 4) (pa_cons (pv 5) pa_nil)))))
      (pss_cons (ps_for PassesOwn.never rfl (pi_list (pv 3)) (pg_name (i := 12) scLaw.nd rfl (.inl rfl)) (pss_one (ps_set (i := 11) scLaw.nd rfl (.inl rfl) (pe_call C.G h4 (by rfl) C.mG C.kG C.bG .nil pass0 (pa_cons (pv 11) (pa_cons (pv 12) (pa_cons (pe_tup (pa_cons pe_str (pa_cons (pe_dget u1 (pv 6) (pv 12) (fun _ _ => rfl)) pa_nil))) pa_nil)))))))
      (pss_cons (ps_if (PW.pt (pw_or (pt_cmpR (op_neD hr.units) (pe_call C.I h3 (by rfl) C.mI C.kI C.bI .nil pass0 (pa_cons (pv 11) pa_nil)) (pe_lst pa_nil) (nomark _)) (pw_or1 (pt_cmpR op_ne (pe_call C.W h4 (by rfl) C.mW C.kW C.bW .nil pass0 (pa_cons (pe_ix ix_tup (pv 11) pe_int (fun _ _ => rfl)) (pa_cons pe_dnewK pa_nil))) (pe_call C.W h4 (by rfl) C.mW C.kW C.bW .nil pass0 (pa_cons (pv 4) (pa_cons (pv 6) pa_nil))) (nomark _))))) (pss_one (ps_ret pe_bl)) pss_nil)
      (pss_one (ps_if (pt_cmpR op_ne (pe_call C.W h4 (by rfl) C.mW C.kW C.bW .nil pass0 (pa_cons (pe_tup (pa_cons pe_str (pa_cons (pv 4) (pa_cons (pv 5) pa_nil)))) (pa_cons (pv 6) pa_nil))) (pe_call C.W h4 (by rfl) C.mW C.kW C.bW .nil pass0 (pa_cons (pe_tup (pa_cons pe_str (pa_cons (pv 5) (pa_cons (pv 4) pa_nil)))) (pa_cons (pv 6) pa_nil))) (nomark _)) (pss_one (ps_ret pe_bl)) pss_nil)))))))))))))))
    (pss_one (ps_ret pe_bl)), ?_⟩
  have bounds : ∀ n : Int, 0 ≤ n → (2 : Int) ≤ (if (if n < 6 then n else 6) > 2 then (if n < 6 then n else 6) else 2) ∧ (if (if n < 6 then n else 6) > 2 then (if n < 6 then n else 6) else 2) ≤ 6 := fun n _ => by
    split
    · split <;> omega
    · omega
  obtain ⟨bn1, bn2⟩ := bounds ((ns.map V.int).length : Nat) (Int.natCast_nonneg _)
  refine ⟨_, rfl, a, _, rfl, .inl hS, _, _, rfl, _, _, rfl, _, rfl, lo62 (by omega), hi62 (by omega), ?_⟩
  generalize (if (if (((ns.map V.int).length : Nat) : Int) < 6 then (((ns.map V.int).length : Nat) : Int) else 6) > 2 then (if (((ns.map V.int).length : Nat) : Int) < 6 then (((ns.map V.int).length : Nat) : Int) else 6) else 2) = turns at bn1 bn2 ⊢
  refine for_range (lo := 0) (n := turns.toNat) (fun i σ H' => ∃ y1 y2 y3 y4 y5 y6 y7 y8 y9 y10 y11 y12 : Option V, σ = [some (.ref a), y1, y2, y3, y4, y5, y6, y7, y8, y9, y10, y11, y12] ∧ ExtN H H' ∧ Tabs T H')
    ⟨none, none, none, none, none, none, none, none, none, none, none, none, rfl, ExtN.refl H, hT⟩ ?_ ?_
  · rintro i σ H0 hi ⟨y1, y2, y3, y4, y5, y6, y7, y8, y9, y10, y11, y12, rfl, e0, hT0⟩
    refine ⟨_, rfl, _, rfl, a, ns, i, (by show [V.ref a, V.int (0 + (i : Int))] = _; rw [Int.zero_add]), ext_seq e0 hS, hb, by omega, fun f H1 s1 nf hF1 => ?_⟩
    have hT1 : Tabs T H1 := hT0.ext s1
    refine ⟨(by show 3 ≤ sizeLine; decide), fun l nl => ?_⟩
    have nlf : l ≠ f := hF1.ne nl
    have hF1' : FeedAt (upd H1 l (.lst (nsA.map V.str))) f := hF1.same (same_new nl)
    have hN1 : NmAt (upd H1 l (.lst (nsA.map V.str))) l nsA := ⟨upd_same, by decide, okA⟩
    -- one, two
    refine ⟨_, rfl, _, rfl, f, l, nsA, 0, 4, rfl, by decide, nlf, hN1, by decide, hF1', fun u1 w1 H2 m1 a1 b1 hF2 => ?_⟩
    have hN2 := hN1.keep nlf b1
    refine ⟨_, rfl, _, rfl, f, l, nsA, 0, 2, rfl, by decide, nlf, hN2, by decide, hF2, fun u2 w2 H3 m2 a2 b2 hF3 => ⟨_, _, rfl, ?_⟩⟩
    have hN3 := hN2.keep nlf b2
    have bb3 : But f H1 H3 := ((but_same (same_new nl)).trans b1).trans b2
    have a13 : At H3 u1 w1 := a1.keep (hF2.tups b2)
    -- numbers
    refine fun d nd => ?_
    have ndf : d ≠ f := hF3.ne nd
    have nld : l ≠ d := ne_of_none hN3.at_ nd
    refine ⟨_, rfl, l, rfl, ⟨_, .inl (.inl (put_at hN3.at_ nd))⟩, for_list (K := K) (a := l) (xs := nsA.map V.str) (fun j σ H' => ∃ (z7 : Option V) (kvs : List (Key × V)) (v : Str → Int), σ = [some (.ref a), some (.int (0 + (i : Int))), some (.ref f), some (.ref l), some w1, some w2, some (.ref d), z7, y8, y9, y10, y11, y12] ∧
        (∀ b o, b ≠ f → b ≠ d → H3 b = some o → H' b = some o) ∧ FeedAt H' f ∧ H' d = some (.dK kvs) ∧ kvs.length ≤ j ∧ (∀ z, 0 ≤ v z ∧ v z < TG) ∧ ∀ z ∈ nsA.take j, valV kvs (.inr z) = some (.int (v z)))
      ?_ ?_ ?_ ?_⟩
    · exact ⟨y7, [], fun _ => 0, rfl, fun b o _ n e => by rw [upd_ne n]; exact e, hF3.same (same_new nd), upd_same, Nat.le_refl _, fun z => ⟨Int.le_refl _, show (0 : Int) < TG by decide⟩, fun z hz => by rw [List.take_zero] at hz; exact (List.not_mem_nil hz).elim⟩
    · exact fun j σ H' _ ⟨_, _, _, _, keep, _⟩ => .inl (.inl (keep _ _ nlf nld hN3.at_))
    · rintro j x σ H' hx ⟨z7, kvs, v, rfl, keep, hF4, hd4, len4, pos4, has4⟩
      rw [List.getElem?_map] at hx
      obtain ⟨z, hz, rfl⟩ := Option.map_eq_some_iff.mp hx
      refine ⟨_, rfl, _, rfl, f, 50, rfl, by decide, by decide, hF4, fun k H4 k0 k1 b4 hF5 => ?_⟩
      refine ⟨_, rfl, _, _, rfl, rfl, ⟨by decide, by decide, by decide⟩, f, _, rfl, by decide, by decide +kernel, hF5, fun k2 H5 k20 k21 b5 hF6 => ?_⟩
      refine ⟨(by show 5 ≤ sizeLine; decide), fun g hg => ?_⟩
      refine ⟨f, g, _, rfl, hF6.ne hg, .inl (.inl upd_same), (by show 0 < 5; decide), (by show 5 ≤ 1000; decide), hF6.same (same_new hg), fun x hx2 H6 b6 hF7 => ?_⟩
      have nm : ∃ n : Int, x = .int n ∧ 0 ≤ n ∧ n < TG := by
        have k2b : k2 < 10 ^ 9 := k21
        have k50 : k < 50 := k1
        rcases List.mem_cons.mp hx2 with e | hx2
        · exact ⟨0, e, by decide, by decide⟩
        rcases List.mem_cons.mp hx2 with e | hx2
        · exact ⟨1, e, by decide, by decide⟩
        rcases List.mem_cons.mp hx2 with e | hx2
        · exact ⟨2, e, by decide, by decide⟩
        rcases List.mem_cons.mp hx2 with e | hx2
        · exact ⟨k, e, k0, by show k < 10 ^ 60; omega⟩
        · exact ⟨k2, List.mem_singleton.mp hx2, k20, by show k2 < 10 ^ 60; omega⟩
      obtain ⟨n, rfl, n0, n1⟩ := nm
      have bb : But f H' H6 := ((b4.trans b5).new hg).trans b6
      have hd6 := bb _ _ ndf hd4
      refine ⟨_, rfl, _, rfl, d, _, rfl, DPut.k (k := .inr z) hd6 (line_of (by
        have hj := (List.getElem?_eq_some_iff.mp hz).1
        have h3 : nsA.length = 3 := rfl
        omega)), ?_⟩
      refine ⟨_, putK kvs (.inr z) (.int n), fun y => if y = z then n else v y, rfl, fun b o h1 h2 e => by rw [upd_ne h2]; exact bb _ _ h1 (keep _ _ h1 h2 e), ?_, upd_same, Nat.le_trans (length_putK _ _ _) (Nat.succ_le_succ len4), fun y => ?_, fun y hy => ?_⟩
      · obtain ⟨p1, p2, e1, e2⟩ := hF7
        exact ⟨p1, p2, by rw [upd_ne ndf.symm]; exact e1, e2⟩
      · show 0 ≤ (if y = z then n else v y) ∧ (if y = z then n else v y) < TG
        split
        · exact ⟨n0, n1⟩
        · exact pos4 y
      · rw [valV_put]
        show (if (Sum.inr y : Key) = .inr z then some (V.int n) else valV kvs (.inr y)) = some (V.int (if y = z then n else v y))
        by_cases c : y = z
        · rw [if_pos (by rw [c]), if_pos c]
        · rw [if_neg (fun q => c (by injection q)), if_neg c]
          refine has4 y ?_
          rw [List.take_add_one, hz] at hy
          exact (List.mem_append.mp hy).resolve_right fun q => c (List.mem_singleton.mp q)
    · rintro σ H' ⟨z7, kvs, v, rfl, keep, hF4, hd4, len4, pos4, has4⟩
      rw [List.length_map, List.take_length] at has4
      have hl4 := keep _ _ nlf nld hN3.at_
      have k34 : Tups H3 H' := fun b xs e => keep b _ (fun z => by
        obtain ⟨_, _, e2, _⟩ := hF3
        rw [z, e2] at e
        cases e) (ne_of_none e nd) e
      have A1 := a13.keep k34
      have A2 := a2.keep k34
      have F1 := fit_made m1 okA
      have F2 := fit_made m2 okA
      have t1 := tm_made (ns := nsA) m1.inn m1.no
      have t2 := tm_made (ns := nsA) m2.inn m2.no
      have eD : ExtN H H' := fun b o e n => keep b o (ne_of_none (e0 b o e n) nf) (fun z => by
        have q := bb3 b o (ne_of_none (e0 b o e n) nf) (s1 _ _ (e0 b o e n))
        rw [z, nd] at q
        cases q) (bb3 b o (ne_of_none (e0 b o e n) nf) (s1 _ _ (e0 b o e n)))
      have hT3 : Tabs T H3 := tabs_but hF1 bb3 hT1
      have hT4 : Tabs T H' := fun p hp => by
        obtain ⟨_, _, e2, _⟩ := hF3
        obtain ⟨ps, g1, g2, g3⟩ := hT3 p hp
        refine ⟨ps, keep _ _ (fun z => by rw [z, e2] at g1; cases g1) (ne_of_none g1 nd) g1, g2, fun pos cv hc => ?_⟩
        obtain ⟨c, c1, c2⟩ := g3 pos cv hc
        exact ⟨c, c1, keep _ _ (fun z => by rw [z, e2] at c2; unfold CodeO at c2; cases c2) (ne_of_none c2 nd) c2⟩
      -- name
      refine ⟨_, rfl, _, rfl, f, l, _, rfl, nlf, .inl (.inl hl4), (by show 0 < 3; decide), (by show 3 ≤ 1000; decide), hF4, fun x hx H7 b7 hF7 => ?_⟩
      obtain ⟨nm, hnm, rfl⟩ := List.mem_map.mp hx
      have k7 := hF4.tups b7
      have C1 := A1.keep k7
      have C2 := A2.keep k7
      have hT7 := tabs_but hF4 b7 hT4
      have hd7 := b7 _ _ ndf hd4
      have hl7 := b7 _ _ nlf hl4
      have e7 : ExtN H H7 := fun b o e n => b7 b o (ne_of_none (e0 b o e n) nf) (eD b o e n)
      have oknm := okA nm hnm
      have hv1 : ∀ z ∈ u1.names, valV kvs (.inr z) = some (.int (v z)) := fun z hz => has4 z (m1.nm z hz)
      have hv2 : ∀ z ∈ u2.names, valV kvs (.inr z) = some (.int (v z)) := fun z hz => has4 z (m2.nm z hz)
      have pos : ∀ z, 0 ≤ v z := fun z => (pos4 z).1
      have dp1 := F1.dp
      have dp2 := F2.dp
      clear a1 b1 a2 b2 hF2 hF1' hN1 hN2 bb3 a13 k34 A1 A2 eD hT3 hT4 hF4 hd4 hl4 hF7 b7 k7 hF3 hN3 keep
      -- here
      refine ⟨_, rfl, _, rfl, (by show 3 ≤ sizeLine; decide), fun q1 nq1 => ?_⟩
      have s8 := same_new (o := .tup [.str "same", w1, w2]) nq1
      have okS : (Tr.n2 "same" u1 u2).Ok := ⟨by decide +kernel, F1.ok, F2.ok⟩
      have lyS : (Tr.n2 "same" u1 u2).Lay := ⟨by decide +kernel, F1.ly, F2.ly⟩
      have dpS : (Tr.n2 "same" u1 u2).deep ≤ 6 := by
        show max u1.deep u2.deep + 1 ≤ 6
        omega
      refine ⟨_, rfl, _, rfl, .ref q1, w2, nm, .n2 "same" u1 u2, u2, rfl, ⟨q1, w1, w2, rfl, upd_same, C1.keep (tups_same s8), C2.keep (tups_same s8)⟩, okS, lyS, by omega, oknm, C2.keep (tups_same s8), hT7.ext s8, fun x1 X1 e1 T1 c1 => ?_⟩
      rw [put_same] at c1
      obtain ⟨px, x2, x3, rfl, hpx, c2, c3⟩ := c1
      refine ⟨px, _, 1, x2, rfl, rfl, .inl (.inl hpx), atI_nat (j := 1) rfl, ?_⟩
      have g1 := (same_extN s8).trans e1
      have okP : (putN nm u2 u1).Ok := put_ok (fun _ => F2.ok) F1.ok
      have tmP : (putN nm u2 u1).Tm := put_tm t2 u1 0 t1
      have dpP : (putN nm u2 u1).deep ≤ 8 := Nat.le_trans (put_deep (new := fun _ => u2) (d := 2) (fun _ => dp2) u1 0) (by omega)
      have hvP : ∀ z ∈ (putN nm u2 u1).names, valV kvs (.inr z) = some (.int (v z)) := fun z hz => ((put_names u1 0 F1.ok z).1 hz).elim (fun h => hv1 z h.1) fun h => hv2 z h.2
      have hd8 : X1 d = some (.dK kvs) := e1 _ _ (s8 _ _ hd7) fun ps z => by cases z
      have D1 := C1.keep (extN_tups g1)
      have D2 := C2.keep (extN_tups g1)
      have hl8 : X1 l = some (.lst (nsA.map V.str)) := e1 _ _ (s8 _ _ hl7) fun ps z => by cases z
      have e8 := e7.trans g1
      clear C1 C2 hT7 hd7 hl7 e7 c3 s8
      apply joinS (C := fun σ X => ∃ y9 y10 : Option V, σ = [some (.ref a), some (.int (0 + (i : Int))), some (.ref f), some (.ref l), some w1, some w2, some (.ref d), some (.str nm), some x2, y9, y10, y11, y12] ∧ ExtN X1 X ∧ Tabs T X)
      · intro rest
        apply joinV (C := fun x Yc => x = tv (wt v u2) ∧ Same X1 Yc)
        · intro rest2
          refine ⟨_, rfl, _, rfl, w2, d, u2, v, kvs, rfl, D2, F2.ok, t2, (by omega), hd8, hv2, pos, fun n Yz em syz => ?_, fun Yz en syz => ?_⟩
          · have hx : V.int n = tv (wt v u2) := by rw [em]; rfl
            revert hx
            generalize V.int n = x
            intro hx
            exact rest2 x Yz ⟨hx, syz⟩
          · exact rest2 .non Yz ⟨by rw [en]; rfl, syz⟩
        rintro _ Y ⟨rfl, sy⟩
        have kY := tups_same sy
        cases eu : wt v u2 with
        | none =>
          refine ⟨_, rfl, rfl, _, rfl, ite2 (fun _ => ?_) (fun c => absurd (decide_eq_true rfl) c)⟩
          refine ⟨_, rfl, _, rfl, w1, u1, nsA, rfl, D1.keep kY, F1.ok, (by omega), m1.nm, (by decide), fun ys p Y2 sy2 np hp ris => ?_⟩
          have sy12 := sy.trans sy2
          refine ⟨p, ys.map V.str, rfl, .inl (.inl (.inl hp)), rfl, flat_strs ys, _, rfl, ?_⟩
          show if inV (.str nm) (ys.map V.str) = true then _ else _
          rw [inV_strs]
          refine ite2 (fun c => ?_) (fun _ => iteF ?_)
          · have hin : nm ∈ u1.names := (ris.mem nm).1 (of_decide_eq_true c)
            apply joinV (C := fun x Yc => x = tv (wt v (putN nm u2 u1)) ∧ Same Y2 Yc)
            · intro rest2
              refine ⟨_, rfl, _, rfl, x2, d, (putN nm u2 u1), v, kvs, rfl, (c2.keep (tups_same sy12)), okP, tmP, (by omega), (sy12 _ _ hd8), hvP, pos, fun n Yz em syz => ?_, fun Yz en syz => ?_⟩
              · have hx : V.int n = tv (wt v (putN nm u2 u1)) := by rw [em]; rfl
                revert hx
                generalize V.int n = x
                intro hx
                exact rest2 x Yz ⟨hx, syz⟩
              · exact rest2 .non Yz ⟨by rw [en]; rfl, syz⟩
            rintro _ Y3 ⟨rfl, sy3⟩
            rw [show wt v (putN nm u2 u1) = none from wt_great eu u1 0 F1.ok t1 hin]
            refine ⟨rfl, _, rfl, ite2 (fun c => ?_) (fun _ => ?_)⟩
            · rw [show decide (tv none = V.non) = true from decide_eq_true rfl] at c
              cases c
            dsimp only [gName, List.set]
            exact rest _ _ ⟨_, _, rfl, same_extN (sy12.trans sy3), T1.ext (sy12.trans sy3)⟩
          · dsimp only [gName, List.set]
            exact rest _ _ ⟨_, _, rfl, same_extN sy12, T1.ext sy12⟩
        | some m =>
          refine ⟨_, rfl, rfl, _, rfl, ite2 (fun c => by have z := of_decide_eq_true c; cases z) (fun _ => ?_)⟩
          have ltm := (wt_pos pos u2 t2 m eu)
          refine ⟨_, rfl, d, kvs, rfl, .inl (sy _ _ hd8), fun e ne => ?_⟩
          refine ⟨_, rfl, _, rfl, _, rfl, e, _, rfl, DPut.k (k := .inr nm) upd_same (line_of (by have h3 : (nsA.map V.str).length = 3 := rfl; omega)), ?_⟩
          have syE : Same X1 (upd (upd Y e (.dK kvs)) e (.dK (putK kvs (.inr nm) (.int m)))) := fun b o q => by
            have q2 := sy _ _ q
            rw [upd_ne (ne_of_none q2 ne), upd_ne (ne_of_none q2 ne)]
            exact q2
          apply joinV (C := fun x Yc => x = tv (wt v (putN nm u2 u1)) ∧ Same (upd (upd Y e (.dK kvs)) e (.dK (putK kvs (.inr nm) (.int m)))) Yc)
          · intro rest2
            refine ⟨_, rfl, _, rfl, x2, d, (putN nm u2 u1), v, kvs, rfl, (c2.keep (tups_same syE)), okP, tmP, (by omega), (syE _ _ hd8), hvP, pos, fun n Yz em syz => ?_, fun Yz en syz => ?_⟩
            · have hx : V.int n = tv (wt v (putN nm u2 u1)) := by rw [em]; rfl
              revert hx
              generalize V.int n = x
              intro hx
              exact rest2 x Yz ⟨hx, syz⟩
            · exact rest2 .non Yz ⟨by rw [en]; rfl, syz⟩
          rintro _ Y3 ⟨rfl, sy3⟩
          have sy13 := syE.trans sy3
          have hvB : ∀ z ∈ u1.names, valV (putK kvs (.inr nm) (.int m)) (.inr z) = some (.int (bind1 v nm m z)) := fun z hz => by
            rw [valV_put]
            show (if (Sum.inr z : Key) = .inr nm then some (V.int m) else valV kvs (.inr z)) = some (V.int (if z = nm then m else v z))
            by_cases c : z = nm
            · rw [if_pos (by rw [c]), if_pos c]
            · rw [if_neg (fun q => c (by injection q)), if_neg c]
              exact hv1 z hz
          have posB : ∀ z, 0 ≤ bind1 v nm m z := fun z => by
            show 0 ≤ (if z = nm then m else v z)
            split
            · exact ltm.1
            · exact pos z
          apply joinV (C := fun x Yc => x = tv (wt (bind1 v nm m) u1) ∧ Same Y3 Yc)
          · intro rest2
            refine ⟨_, rfl, _, rfl, w1, e, u1, (bind1 v nm m), (putK kvs (.inr nm) (.int m)), rfl, (D1.keep (tups_same sy13)), F1.ok, t1, (by omega), (sy3 _ _ upd_same), hvB, posB, fun n Yz em syz => ?_, fun Yz en syz => ?_⟩
            · have hx : V.int n = tv (wt (bind1 v nm m) u1) := by rw [em]; rfl
              revert hx
              generalize V.int n = x
              intro hx
              exact rest2 x Yz ⟨hx, syz⟩
            · exact rest2 .non Yz ⟨by rw [en]; rfl, syz⟩
          rintro _ Y4 ⟨rfl, sy4⟩
          have sy14 := sy13.trans sy4
          refine ne_tv (wt_put eu ltm.2 u1 0 F1.ok t1) ⟨_, rfl, iteF ?_⟩
          dsimp only [gName, List.set]
          exact rest _ _ ⟨_, _, rfl, same_extN sy14, T1.ext sy14⟩
      rintro σ X2 ⟨y9, y10, rfl, e2, T2⟩
      have keepT := extN_tups e2
      -- closed
      refine ⟨_, rfl, _, rfl, (by show 3 ≤ sizeLine; decide), fun q2 nq2 => ?_⟩
      have s3 := same_new (o := .tup [.str "same", w1, w2]) nq2
      generalize hZ : upd X2 q2 (.tup [.str "same", w1, w2]) = Z at s3
      have eZ : ExtN X1 Z := e2.trans (same_extN s3)
      have hq2 : Z q2 = some (.tup [.str "same", w1, w2]) := by rw [← hZ, upd_same]
      have hdZ : Z d = some (.dK kvs) := eZ _ _ hd8 fun ps z => by cases z
      have hlZ : Z l = some (.lst (nsA.map V.str)) := eZ _ _ hl8 fun ps z => by cases z
      have E1 := D1.keep (extN_tups eZ)
      have E2 := D2.keep (extN_tups eZ)
      have okC := fun zs => clo_fit v zs (.n2 "same" u1 u2) 6 okS lyS dpS
      refine ⟨_, rfl, l, rfl, ⟨_, .inl (.inl hlZ)⟩, for_list (K := K) (a := l) (xs := nsA.map V.str) (fun j σ H' => ∃ (z12 : Option V) (c : V), σ = [some (.ref a), some (.int (0 + (i : Int))), some (.ref f), some (.ref l), some w1, some w2, some (.ref d), some (.str nm), some x2, y9, y10, some c, z12] ∧
          ExtN Z H' ∧ Tabs T H' ∧ At H' (clo v (nsA.take j) (.n2 "same" u1 u2)) c)
        ⟨y12, .ref q2, rfl, ExtN.refl Z, T2.ext s3, ⟨q2, w1, w2, rfl, hq2, E1, E2⟩⟩ (fun j σ H' _ ⟨_, _, _, e3, _⟩ => .inl (.inl (e3 _ _ hlZ fun ps z => by cases z))) ?_ ?_⟩
      · rintro j x σ H' hx ⟨z12, c, rfl, e3, T3, ac⟩
        rw [List.getElem?_map] at hx
        obtain ⟨z, hz, rfl⟩ := Option.map_eq_some_iff.mp hx
        have hdH : H' d = some (.dK kvs) := e3 _ _ hdZ fun ps z => by cases z
        have got : DGet H' d (.str z) (some (.int (v z))) := by
          have g0 := DGet.k (k := .inr z) hdH
          rw [has4 z (List.mem_of_getElem? hz)] at g0
          exact g0
        refine ⟨_, rfl, _, rfl, _, rfl, _, rfl, d, _, rfl, got, (by show 2 ≤ sizeLine; decide), fun q3 nq3 => ?_⟩
        have s4 := same_new (o := .tup [.str "num", .int (v z)]) nq3
        obtain ⟨f1, f2, f3⟩ := okC (nsA.take j)
        refine ⟨c, .ref q3, z, _, nmb (v z), rfl, ac.keep (tups_same s4), f1, f2, by omega, okA z (List.mem_of_getElem? hz), ⟨q3, rfl, upd_same⟩, T3.ext s4, fun c2 X4 e4 T4 ac2 => ?_⟩
        refine ⟨_, c2, rfl, (e3.trans (same_extN s4)).trans e4, T4, ?_⟩
        rw [List.take_add_one, hz]
        show At X4 (clo v (nsA.take j ++ [z]) _) c2
        rw [clo_more]
        exact ac2
      rintro σ H' ⟨z12, c, rfl, e3, T3, ac⟩
      rw [List.length_map, List.take_length] at ac
      have empty : ∀ z, z ∉ (clo v nsA (.n2 "same" u1 u2)).names := fun z hz => by
        obtain ⟨h1, h2⟩ := clo_names nsA _ okS z hz
        exact h2 ((List.mem_append.mp h1).elim (m1.nm z) (m2.nm z))
      obtain ⟨f1, f2, f3⟩ := okC nsA
      have G1 := E1.keep (extN_tups e3)
      have G2 := E2.keep (extN_tups e3)
      have hdH : H' d = some (.dK kvs) := e3 _ _ hdZ fun ps z => by cases z
      refine ⟨_, rfl, c, _, [], rfl, ac, f1, by omega, fun z hz => (empty z hz).elim, (by decide), fun ys p Y1 sy1 np hp ris => ?_⟩
      have ey : ys = [] := ris.one ⟨List.Pairwise.nil, List.nodup_nil, fun z => ⟨fun h => (List.not_mem_nil h).elim, fun h => (empty z h).elim⟩⟩
      subst ey
      refine ⟨Nat.zero_le _, fun q4 nq4 => ?_⟩
      have hp4 : (upd Y1 q4 (.lst [])) p = some (.lst (([] : List Str).map V.str)) := put_at hp nq4
      refine ⟨_, _, dp_strs (.inl (.inl hp4)), dp_strs (ns := []) (.inl (.inl upd_same)), shaped_strs (fun z hz => (List.not_mem_nil hz).elim), shaped_strs (fun z hz => (List.not_mem_nil hz).elim), _, rfl, ?_⟩
      refine iteF ?_
      have sy4 := same_put (o := .lst []) sy1 nq4
      have ac4 := ac.keep (tups_same sy4)
      rw [clo_same] at ac4
      obtain ⟨pc, x5, x6, rfl, hpc, ac5, ac6⟩ := ac4
      obtain ⟨cw, cok, ctm⟩ := clo_wt pos4 nsA u1 F1.ok t1
      obtain ⟨_, _, cdp⟩ := clo_fit v nsA u1 5 F1.ok F1.ly dp1
      have none1 : ∀ z ∈ (clo v nsA u1).names, valV ([] : List (Key × V)) (.inr z) = some (.int (v z)) := fun z hz => by
        obtain ⟨h1, h2⟩ := clo_names nsA _ F1.ok z hz
        exact (h2 (m1.nm z h1)).elim
      refine ⟨_, rfl, pc, _, 1, x5, rfl, rfl, .inl (.inl hpc), atI_nat (j := 1) rfl, fun d2 nd2 => ?_⟩
      have sy5 := same_put (o := .dK []) sy4 nd2
      apply joinV (C := fun x Yc => x = tv (wt v (clo v nsA u1)) ∧ Same (upd (upd Y1 q4 (.lst [])) d2 (.dK [])) Yc)
      · intro rest2
        refine ⟨x5, d2, (clo v nsA u1), v, [], rfl, (ac5.keep (tups_same (same_new nd2))), cok, ctm, (by omega), upd_same, none1, pos, fun n Yz em syz => ?_, fun Yz en syz => ?_⟩
        · have hx : V.int n = tv (wt v (clo v nsA u1)) := by rw [em]; rfl
          revert hx
          generalize V.int n = x
          intro hx
          exact rest2 x Yz ⟨hx, syz⟩
        · exact rest2 .non Yz ⟨by rw [en]; rfl, syz⟩
      rintro _ Y6 ⟨rfl, sy6⟩
      have sy7 := sy5.trans sy6
      apply joinV (C := fun x Yc => x = tv (wt v u1) ∧ Same Y6 Yc)
      · intro rest2
        refine ⟨_, rfl, _, rfl, w1, d, u1, v, kvs, rfl, (G1.keep (tups_same sy7)), F1.ok, t1, (by omega), (sy7 _ _ hdH), hv1, pos, fun n Yz em syz => ?_, fun Yz en syz => ?_⟩
        · have hx : V.int n = tv (wt v u1) := by rw [em]; rfl
          revert hx
          generalize V.int n = x
          intro hx
          exact rest2 x Yz ⟨hx, syz⟩
        · exact rest2 .non Yz ⟨by rw [en]; rfl, syz⟩
      rintro _ Y7 ⟨rfl, sy8⟩
      refine ne_tv cw ⟨_, rfl, iteF ?_⟩
      have sy9 := sy7.trans sy8
      -- a sum either way about
      have okU : (Tr.n2 "plus" u1 u2).Ok := ⟨by decide +kernel, F1.ok, F2.ok⟩
      have okV : (Tr.n2 "plus" u2 u1).Ok := ⟨by decide +kernel, F2.ok, F1.ok⟩
      have dpU : (Tr.n2 "plus" u1 u2).deep ≤ 6 := by
        show max u1.deep u2.deep + 1 ≤ 6
        omega
      have dpV : (Tr.n2 "plus" u2 u1).deep ≤ 6 := by
        show max u2.deep u1.deep + 1 ≤ 6
        omega
      refine ⟨_, rfl, _, rfl, (by show 3 ≤ sizeLine; decide), fun q5 nq5 => ?_⟩
      have sa := same_put (o := .tup [.str "plus", w1, w2]) sy9 nq5
      apply joinV (C := fun x Yc => x = tv (wt v (.n2 "plus" u1 u2)) ∧ Same (upd Y7 q5 (.tup [.str "plus", w1, w2])) Yc)
      · intro rest2
        refine ⟨_, rfl, (.ref q5), d, (.n2 "plus" u1 u2), v, kvs, rfl, ⟨q5, w1, w2, rfl, upd_same, G1.keep (tups_same sa), G2.keep (tups_same sa)⟩, okU, ⟨.inl rfl, t1, t2⟩, (by omega), (sa _ _ hdH), (fun z hz => (List.mem_append.mp hz).elim (hv1 z) (hv2 z)), pos, fun n Yz em syz => ?_, fun Yz en syz => ?_⟩
        · have hx : V.int n = tv (wt v (.n2 "plus" u1 u2)) := by rw [em]; rfl
          revert hx
          generalize V.int n = x
          intro hx
          exact rest2 x Yz ⟨hx, syz⟩
        · exact rest2 .non Yz ⟨by rw [en]; rfl, syz⟩
      rintro _ Y8 ⟨rfl, sb⟩
      have sc := sa.trans sb
      refine ⟨_, rfl, _, rfl, (by show 3 ≤ sizeLine; decide), fun q6 nq6 => ?_⟩
      have sd := same_put (o := .tup [.str "plus", w2, w1]) sc nq6
      apply joinV (C := fun x Yc => x = tv (wt v (.n2 "plus" u2 u1)) ∧ Same (upd Y8 q6 (.tup [.str "plus", w2, w1])) Yc)
      · intro rest2
        refine ⟨_, rfl, (.ref q6), d, (.n2 "plus" u2 u1), v, kvs, rfl, ⟨q6, w2, w1, rfl, upd_same, G2.keep (tups_same sd), G1.keep (tups_same sd)⟩, okV, ⟨.inl rfl, t2, t1⟩, (by omega), (sd _ _ hdH), (fun z hz => (List.mem_append.mp hz).elim (hv2 z) (hv1 z)), pos, fun n Yz em syz => ?_, fun Yz en syz => ?_⟩
        · have hx : V.int n = tv (wt v (.n2 "plus" u2 u1)) := by rw [em]; rfl
          revert hx
          generalize V.int n = x
          intro hx
          exact rest2 x Yz ⟨hx, syz⟩
        · exact rest2 .non Yz ⟨by rw [en]; rfl, syz⟩
      rintro _ Y9 ⟨rfl, se⟩
      refine ne_tv wt_swap ⟨_, rfl, iteF ?_⟩
      have sf := sd.trans se
      exact ⟨_, _, _, _, _, _, _, _, _, _, _, _, rfl, ((e8.trans eZ).trans e3).trans (same_extN sf), T3.ext sf⟩
  · rintro σ H0 ⟨y1, y2, y3, y4, y5, y6, y7, y8, y9, y10, y11, y12, rfl, e0, hT0⟩
    exact q H0
end
end Kf
set_option Elab.async false
set_option linter.all false
set_option maxRecDepth 100000
/-! The top, the end. -/
namespace Kf
open PySem PySem.Spec PyProof.Rows L2 Sx
/-- the end of a law, where some defs of the text hold lambdas: their tables are still empty -/
theorem walk_all {l : PySem.W.OpenLaw} {n k : Nat} {q : Program} {loose : List Str} {XP : (Str → Option Value) → Heap → Prop} {YP : World → Heap → Prop} {d : DefRec} {K : Params → PySem.W.Frag} {CX : World → CXT} {x : Str} (nms : List Str)
    (hn : l.most = some n) (line : n ≤ sizeLine) (hdf : d.params.defaults = []) (room : Room k callerA) (recs : ∀ nm ∈ nms, ((recsOf q).any fun e => e.name == nm) = true) (hY : ∀ (w : World) (h : Heap), YP w h → (K w.params).In h)
    (F : ∀ (w : World) (mg : Str → Option Value) (fa : Addr) (h : Heap), YP w h → (K w.params).In h → h.Ns mainGlobals mg → mg d.name = some (.ref fa) → (∀ nm ∈ nms, ∀ fw, mg nm = some (.ref fw) → LamX.OwnTab (K w.params) fw h) → LamX.LawAtS l w (K w.params) (CX w) k n x mg fa h)
    (out : ∀ (w : World) (H : Hp) (s : Shared) (e : Value) (s' : Shared), CX w [] H s (fun _ _ _ => False) e s' → False) : PySem.W.WalkO q loose XP YP l.row.toRowW d [] (fun f vs => PySem.call f vs) := by
  refine Att.attach_callB hn hdf fun w s0 s1 mg mb fa o pm cd doc a vs ns G Y ho hd hcd hmg hobj hints hlen hbits hg => ?_
  have KX := hY w _ Y
  have tabs : ∀ nm ∈ nms, ∀ fw, mg nm = some (.ref fw) → LamX.OwnTab (K w.params) fw s1.heap := by
    intro nm inn fw hw c P o1 fd1 e dd us sl look isF isC lookC at11
    obtain ⟨dR, mem, same⟩ := List.any_eq_true.mp (recs nm inn)
    have eN : dR.name = nm := beq_iff_eq.mp same
    obtain ⟨a2, o2, fd2, c2, P2, g1, g2, g3, g4, _, ⟨oc, vc, g5, _, g6, g7⟩, empty⟩ := G.T.tab dR mem
    rw [eN] at g1
    cases hw.symm.trans g1
    cases (KX _ _ look).symm.trans g2
    cases isF.symm.trans g3
    cases isC.symm.trans g4
    cases (KX _ _ lookC).symm.trans g5
    cases g6
    cases at11.symm.trans g7
    exact empty
  obtain ⟨fd, cs, sp, hT, nT, hC, hb, hsp, hF⟩ := F w mg fa _ Y KX G.T.g hmg tabs
  exact LamX.law_callTs KX G.T.g G.T.b G.T.builtins G.T.nolimit hg hT nT hC G.T.bmain hobj hints (Nat.le_trans hlen line) room hF hb (fun H hH hS => hsp H a ns hlen hbits hH hS) fun H e s' => out w H s1 e s'

theorem all_mk {l : PySem.W.OpenLaw} {w : World} {K : PySem.W.Frag} {h : Heap} {mg : Str → Option Value} {fa f1 f2 f3 f4 f5 f6 f7 f8 f9 f10 f11 f12 f13 LV BV cw1 PT1 : Addr} (X : K.In h) (G : h.Ns mainGlobals mg) (hfa : mg "law" = some (.ref fa)) (own : ∀ nm ∈ [Str.ofString "put_for"], ∀ fw, mg nm = some (.ref fw) → LamX.OwnTab K fw h)
    {od1 an1 od2 an2 od3 an3 od4 an4 od5 an5 od6 an6 od7 an7 od8 an8 od9 an9 od10 an10 od11 an11 od12 an12 od13 an13 : Option Addr} {sl1 sl2 sl3 sl4 sl5 sl6 sl7 sl8 sl9 sl10 sl11 sl12 sl13 : Array (Option Value)} {oc1 kV1 dc1 pm1 cd1 ct1 oc2 kV2 dc2 pm2 cd2 ct2 oc3 kV3 dc3 pm3 cd3 ct3 oc4 kV4 dc4 pm4 cd4 ct4 oc5 kV5 dc5 pm5 cd5 ct5 oc6 kV6 dc6 pm6 ct6 oc7 kV7 dc7 pm7 cd7 ct7 oc8 kV8 dc8 pm8 cd8 ct8 oc9 kV9 dc9 pm9 cd9 ct9 oc10 kV10 dc10 pm10 cd10 ct10 oc11 kV11 dc11 pm11 cd11 ct11 oc12 kV12 dc12 pm12 cd12 ct12 oc13 kV13 dc13 pm13 cd13 ct13 : Value}
    {ddL ddB ddC1 : Option Addr} {slL slB slC1 : Array (Option Value)} {nL nB : Nat} {t1 t2 t3 t4 t5 tf1 tg1 tt1 : Tok} {vs1 : Array Value} {flags1 text1 : Int} {file1 : Str} {inF1 : Bool}
    (a1 : PySem.W.nsIn K mainGlobals "beneath" = some (some (.ref f1))) (l1 : K.lookup f1 = some ⟨oc1, od1, .func (PySem.W.fnOf "beneath" "beneath" (defArgs sBeneath) (defBody sBeneath) (defScope sBeneath) .none kV1 dc1 pm1 an1 cd1 ct1), sl1⟩) (c1 : PySem.W.codeIn K cd1 "beneath" = true) (k1 : PySem.W.keepIn K (.ref f1) = true)
    (a2 : PySem.W.nsIn K mainGlobals "pieces_of" = some (some (.ref f2))) (l2 : K.lookup f2 = some ⟨oc2, od2, .func (PySem.W.fnOf "pieces_of" "pieces_of" (defArgs sPieces) (defBody sPieces) (defScope sPieces) .none kV2 dc2 pm2 an2 cd2 ct2), sl2⟩) (c2 : PySem.W.codeIn K cd2 "pieces_of" = true) (k2 : PySem.W.keepIn K (.ref f2) = true)
    (a3 : PySem.W.nsIn K mainGlobals "changed" = some (some (.ref f3))) (l3 : K.lookup f3 = some ⟨oc3, od3, .func (PySem.W.fnOf "changed" "changed" (defArgs sChanged) (defBody sChanged) (defScope sChanged) .none kV3 dc3 pm3 an3 cd3 ct3), sl3⟩) (c3 : PySem.W.codeIn K cd3 "changed" = true) (k3 : PySem.W.keepIn K (.ref f3) = true)
    (a4 : PySem.W.nsIn K mainGlobals "worth" = some (some (.ref f4))) (l4 : K.lookup f4 = some ⟨oc4, od4, .func (PySem.W.fnOf "worth" "worth" (defArgs sWorth) (defBody sWorth) (defScope sWorth) .none kV4 dc4 pm4 an4 cd4 ct4), sl4⟩) (c4 : PySem.W.codeIn K cd4 "worth" = true) (k4 : PySem.W.keepIn K (.ref f4) = true)
    (a5 : PySem.W.nsIn K mainGlobals "names_in" = some (some (.ref f5))) (l5 : K.lookup f5 = some ⟨oc5, od5, .func (PySem.W.fnOf "names_in" "names_in" (defArgs sNamesIn) (defBody sNamesIn) (defScope sNamesIn) .none kV5 dc5 pm5 an5 cd5 ct5), sl5⟩) (c5 : PySem.W.codeIn K cd5 "names_in" = true) (k5 : PySem.W.keepIn K (.ref f5) = true)
    (a6 : PySem.W.nsIn K mainGlobals "put_for" = some (some (.ref f6))) (l6 : K.lookup f6 = some ⟨oc6, od6, .func (PySem.W.fnOf "put_for" "put_for" (defArgs sPutFor) (defBody sPutFor) (defScope sPutFor) .none kV6 dc6 pm6 an6 (.ref cw1) ct6), sl6⟩) (c6 : PySem.W.codeIn K (.ref cw1) "put_for" = true) (k6 : PySem.W.keepIn K (.ref f6) = true)
    (a7 : PySem.W.nsIn K mainGlobals "_law_feed" = some (some (.ref f7))) (l7 : K.lookup f7 = some ⟨oc7, od7, .func (PySem.W.fnOf "_law_feed" "_law_feed" (defArgs sFeed) (defBody sFeed) (defScope sFeed) .none kV7 dc7 pm7 an7 cd7 ct7), sl7⟩) (c7 : PySem.W.codeIn K cd7 "_law_feed" = true) (k7 : PySem.W.keepIn K (.ref f7) = true)
    (a8 : PySem.W.nsIn K mainGlobals "_law_take" = some (some (.ref f8))) (l8 : K.lookup f8 = some ⟨oc8, od8, .func (PySem.W.fnOf "_law_take" "_law_take" (defArgs sTake) (defBody sTake) (defScope sTake) .none kV8 dc8 pm8 an8 cd8 ct8), sl8⟩) (c8 : PySem.W.codeIn K cd8 "_law_take" = true) (k8 : PySem.W.keepIn K (.ref f8) = true)
    (a9 : PySem.W.nsIn K mainGlobals "_law_pick" = some (some (.ref f9))) (l9 : K.lookup f9 = some ⟨oc9, od9, .func (PySem.W.fnOf "_law_pick" "_law_pick" (defArgs sPick) (defBody sPick) (defScope sPick) .none kV9 dc9 pm9 an9 cd9 ct9), sl9⟩) (c9 : PySem.W.codeIn K cd9 "_law_pick" = true) (k9 : PySem.W.keepIn K (.ref f9) = true)
    (a10 : PySem.W.nsIn K mainGlobals "_law_leaf" = some (some (.ref f10))) (l10 : K.lookup f10 = some ⟨oc10, od10, .func (PySem.W.fnOf "_law_leaf" "_law_leaf" (defArgs sLeaf) (defBody sLeaf) (defScope sLeaf) .none kV10 dc10 pm10 an10 cd10 ct10), sl10⟩) (c10 : PySem.W.codeIn K cd10 "_law_leaf" = true) (k10 : PySem.W.keepIn K (.ref f10) = true)
    (a11 : PySem.W.nsIn K mainGlobals "_law_term" = some (some (.ref f11))) (l11 : K.lookup f11 = some ⟨oc11, od11, .func (PySem.W.fnOf "_law_term" "_law_term" (defArgs sTerm) (defBody sTerm) (defScope sTerm) .none kV11 dc11 pm11 an11 cd11 ct11), sl11⟩) (c11 : PySem.W.codeIn K cd11 "_law_term" = true) (k11 : PySem.W.keepIn K (.ref f11) = true)
    (a12 : PySem.W.nsIn K mainGlobals "_law_told" = some (some (.ref f12))) (l12 : K.lookup f12 = some ⟨oc12, od12, .func (PySem.W.fnOf "_law_told" "_law_told" (defArgs sTold) (defBody sTold) (defScope sTold) .none kV12 dc12 pm12 an12 cd12 ct12), sl12⟩) (c12 : PySem.W.codeIn K cd12 "_law_told" = true) (k12 : PySem.W.keepIn K (.ref f12) = true)
    (a13 : PySem.W.nsIn K mainGlobals "law" = some (some (.ref f13))) (l13 : K.lookup f13 = some ⟨oc13, od13, .func (PySem.W.fnOf "law" "law" (defArgs sLaw) (defBody sLaw) (defScope sLaw) .none kV13 dc13 pm13 an13 cd13 ct13), sl13⟩) (c13 : PySem.W.codeIn K cd13 "law" = true) (k13 : PySem.W.keepIn K (.ref f13) = true)
    (zrange : PySem.W.nsIn K mainGlobals "range" = some none)
    (zmax : PySem.W.nsIn K mainGlobals "max" = some none)
    (zmin : PySem.W.nsIn K mainGlobals "min" = some none)
    (zlen : PySem.W.nsIn K mainGlobals "len" = some none)
    (zabs : PySem.W.nsIn K mainGlobals "abs" = some none)
    (zsorted : PySem.W.nsIn K mainGlobals "sorted" = some none)
    (zset : PySem.W.nsIn K mainGlobals "set" = some none)
    (zdict : PySem.W.nsIn K mainGlobals "dict" = some none)
    (aL : PySem.W.nsIn K mainGlobals "LEAVES" = some (some (.ref LV))) (oL : K.lookup LV = some ⟨.type "tuple", ddL, .seq #[.str "num" t1, .str "name" t2, .str "bound" t3] nL, slL⟩)
    (aB : PySem.W.nsIn K mainGlobals "BINDERS" = some (some (.ref BV))) (oB : K.lookup BV = some ⟨.type "tuple", ddB, .seq #[.str "all" t4, .str "some" t5] nB, slB⟩)
    (lC1 : K.lookup cw1 = some ⟨.type "code", ddC1, .fields vs1, slC1⟩) (v111 : vs1[11]? = some (.ref PT1)) (g111 : vs1.getD 11 .none = .ref PT1) (g181 : vs1.getD 18 .none = .str file1 tf1) (g71 : vs1.getD 7 .none = .int flags1 tg1) (g91 : vs1.getD 9 .none = .bool inF1) (g101 : vs1.getD 10 .none = .int text1 tt1) (ncp1 : cw1 ≠ PT1) (nPT1 : K.lookup PT1 = none)
    {TM : Addr} {tG : Tok} {gN : Int} (aTM : PySem.W.nsIn K mainGlobals "TooMany" = some (some (.ref TM))) (kTM : PySem.W.keepIn K (.ref TM) = true) (xTM : PySem.W.excIn K TM [.type "ValueError", .type "Exception", .type "BaseException", .type "object"] "ValueError.__new__" = true) (sTM : PySem.W.subIn K (.ref TM) (.type "BaseException") = some true) (yTM : PySem.W.typeIn K (.ref TM) = some (.type "type")) (oTM : PySem.W.exmOne K (.ref TM) (.ref TM) = some true) (aTG : PySem.W.nsIn K mainGlobals "TOO_GREAT" = some (some (.int gN tG))) (eTG : gN = TG)
     :
    LamX.LawAtS l w K CX0 9 63 "script" mg fa h := by
  have e := hfa.symm.trans (PySem.W.mg_of X G a13)
  cases e
  have F1 := fun_mk (st := sBeneath) l1 c1 k1
  have b1 := F1.binds (ps := ["piece", "around"]) fun _ _ _ _ _ _ us hl => match us, hl with | [_, _], _ => rfl
  have m1 := PySem.W.mg_of X G a1
  have F2 := fun_mk (st := sPieces) l2 c2 k2
  have b2 := F2.binds (ps := ["thing"]) fun _ _ _ _ _ _ us hl => match us, hl with | [_], _ => rfl
  have m2 := PySem.W.mg_of X G a2
  have F3 := fun_mk (st := sChanged) l3 c3 k3
  have b3 := F3.binds (ps := ["thing", "leaf"]) fun _ _ _ _ _ _ us hl => match us, hl with | [_, _], _ => rfl
  have m3 := PySem.W.mg_of X G a3
  have F4 := fun_mk (st := sWorth) l4 c4 k4
  have b4 := F4.binds (ps := ["term", "numbers"]) fun _ _ _ _ _ _ us hl => match us, hl with | [_, _], _ => rfl
  have m4 := PySem.W.mg_of X G a4
  have F5 := fun_mk (st := sNamesIn) l5 c5 k5
  have b5 := F5.binds (ps := ["thing"]) fun _ _ _ _ _ _ us hl => match us, hl with | [_], _ => rfl
  have m5 := PySem.W.mg_of X G a5
  have F6 := fun_mk (st := sPutFor) l6 c6 k6
  have b6 := F6.binds (ps := ["saying", "name", "term"]) fun _ _ _ _ _ _ us hl => match us, hl with | [_, _, _], _ => rfl
  have m6 := PySem.W.mg_of X G a6
  have F7 := fun_mk (st := sFeed) l7 c7 k7
  have b7 := F7.binds (ps := ["script", "k"]) fun _ _ _ _ _ _ us hl => match us, hl with | [_, _], _ => rfl
  have m7 := PySem.W.mg_of X G a7
  have F8 := fun_mk (st := sTake) l8 c8 k8
  have b8 := F8.binds (ps := ["feed", "many"]) fun _ _ _ _ _ _ us hl => match us, hl with | [_, _], _ => rfl
  have m8 := PySem.W.mg_of X G a8
  have F9 := fun_mk (st := sPick) l9 c9 k9
  have b9 := F9.binds (ps := ["feed", "some"]) fun _ _ _ _ _ _ us hl => match us, hl with | [_, _], _ => rfl
  have m9 := PySem.W.mg_of X G a9
  have F10 := fun_mk (st := sLeaf) l10 c10 k10
  have b10 := F10.binds (ps := ["feed", "names", "around"]) fun _ _ _ _ _ _ us hl => match us, hl with | [_, _, _], _ => rfl
  have m10 := PySem.W.mg_of X G a10
  have F11 := fun_mk (st := sTerm) l11 c11 k11
  have b11 := F11.binds (ps := ["feed", "deep", "names", "around"]) fun _ _ _ _ _ _ us hl => match us, hl with | [_, _, _, _], _ => rfl
  have m11 := PySem.W.mg_of X G a11
  have F12 := fun_mk (st := sTold) l12 c12 k12
  have b12 := F12.binds (ps := ["term", "numbers"]) fun _ _ _ _ _ _ us hl => match us, hl with | [_, _], _ => rfl
  have m12 := PySem.W.mg_of X G a12
  have F13 := fun_mk (st := sLaw) l13 c13 k13
  have m13 := PySem.W.mg_of X G a13
  have grange := PySem.W.mg_none_of X G zrange
  have gmax := PySem.W.mg_none_of X G zmax
  have gmin := PySem.W.mg_none_of X G zmin
  have glen := PySem.W.mg_none_of X G zlen
  have gabs := PySem.W.mg_none_of X G zabs
  have gsorted := PySem.W.mg_none_of X G zsorted
  have gset := PySem.W.mg_none_of X G zset
  have gdict := PySem.W.mg_none_of X G zdict
  have empty1 : h.get? PT1 = some { cls := .none, data := .fields #[] } := own _ List.mem_cons_self f6 m6 cw1 PT1 _ _ _ _ _ _ l6 rfl rfl lC1 v111
  have hE : ∀ p ∈ ([(cw1, PT1)] : List (Addr × Addr)), h.get? p.2 = some { cls := .none, data := .fields #[] } := by
    intro p hp
    · cases List.mem_singleton.mp hp
      exact empty1
  have hN : ∀ p ∈ ([(cw1, PT1)] : List (Addr × Addr)), K.lookup p.2 = none := by
    intro p hp
    · cases List.mem_singleton.mp hp
      exact nPT1
  have hC : ∀ p ∈ ([(cw1, PT1)] : List (Addr × Addr)), PySem.W.CodeHd h p.1 p.2 := by
    intro p hp
    · cases List.mem_singleton.mp hp
      exact ⟨_, vs1, file1, tf1, flags1, tg1, inF1, text1, tt1, X _ _ lC1, rfl, rfl, v111, g111, g181, g71, g91, g101, ncp1⟩
  have hT : ∀ H : Hp, (∀ p ∈ ([(cw1, PT1)] : List (Addr × Addr)), H p.2 = some (.tbl #[])) → LamX.Tabs ([(PT1, lq "put_for")] : List (Addr × Str)) H := by
    intro H ht p hp
    · cases List.mem_singleton.mp hp
      exact LamX.TabS.nil (ht (cw1, PT1) List.mem_cons_self)
  have hu1 : ∀ p ∈ ([(PT1, lq "put_for")] : List (Addr × Str)), p.1 = PT1 → p.2 = lq "put_for" := by
    intro p hp e1
    · cases List.mem_singleton.mp hp
      exact rfl
  refine ⟨PySem.W.fnOf "law" "law" (defArgs sLaw) (defBody sLaw) (defScope sLaw) .none kV13 dc13 pm13 an13 cd13 ct13, [(cw1, PT1)], spLaw K [(PT1, lq "put_for")], hE, hN, hC, fun s v => .of_eq rfl,
    fun H a ns hl hb ht hS => ⟨a, ns, rfl, hS, hl, hb, hT H ht, fun _ => rfl⟩, fun base _ _ tabs => ?_⟩
  have tab1 : LamX.TabB base mg cw1 PT1 := tabs (cw1, PT1) List.mem_cons_self
  have T : Txt K mg LV BV := ⟨PySem.W.mg_of X G aL, PySem.W.mg_of X G aB, fun H => .inr ⟨_, _, _, oL, rfl, rfl, (by show 3 ≤ sizeLine; decide), .cons ⟨_, rfl⟩ (.cons ⟨_, rfl⟩ (.cons ⟨_, rfl⟩ .nil))⟩, fun H => .inr ⟨_, _, _, oB, rfl, rfl, (by show 2 ≤ sizeLine; decide), .cons ⟨_, rfl⟩ (.cons ⟨_, rfl⟩ .nil)⟩⟩
  have gTake := ok_take (P := l.prog) (w := w) (mg := mg) (base := base) (j := 0) F8
  have D : Draw l.prog w K mg base f8 f9 _ _ := ⟨gTake, b8, k8, m8, ok_pick F9 gTake b8 k8 m8 glen, ok_pickS F9 gTake b8 k8 m8 glen, b9, k9, m9⟩
  have gLeaf := ok_leaf F10 D
  have gTerm := ok_terms F11 D gLeaf b10 k10 m10 b11 m11
  have gBen := ok_beneath (P := l.prog) (w := w) (base := base) (j := 0) F1 T
  have gPie := ok_pieces F2 T gBen b1 k1 m1
  have gNam := ok_names F5 gPie b2 k2 m2 gset gsorted
  have gFeed := ok_feed (P := l.prog) (w := w) (base := base) (j := 0) F7 glen gabs
  have W : Put l.prog w K mg base [(PT1, lq "put_for")] f3 f2 LV _ _ := ⟨F3, b3, m3, gPie, b2, k2, m2, T.mL, T.leaf, glen⟩
  have gG := ok_putfor l6 c6 tab1 List.mem_cons_self hu1 W
  have M : Many K mg TM := ⟨⟨_, _, _, xTM, PySem.F.excBase_ValueError⟩, PySem.W.mg_of X G aTM, kTM, sTM, yTM, oTM⟩
  have mTG : mg "TOO_GREAT" = some (.int TG tG) := by
    rw [← eTG]
    exact PySem.W.mg_of X G aTG
  have gWo := ok_worth F4 gPie b2 k2 m2 M mTG
  have gTo := ok_told F12 gWo b4 k4 m4 M
  exact ok_law F13 ⟨D, gFeed, b7, k7, m7, gTerm 5, b11, k11, m11, gNam, b5, k5, m5,
    gG, b6, k6, m6, gTo, b12, k12, m12, grange, gmax, gmin, glen, gdict⟩
theorem walk {l : PySem.W.OpenLaw} {q : Program} {loose : List Str} {XP : (Str → Option Value) → Heap → Prop} {YP : World → Heap → Prop} {d : DefRec} {K : Params → PySem.W.Frag} (hn : l.most = some 63) (hdf : d.params.defaults = []) (recs : ∀ nm ∈ [Str.ofString "put_for"], ((recsOf q).any fun e => e.name == nm) = true)
    (hY : ∀ (w : World) (h : Heap), YP w h → (K w.params).In h)
    (F : ∀ (w : World) (mg : Str → Option Value) (fa : Addr) (h : Heap), (K w.params).In h → h.Ns mainGlobals mg → mg d.name = some (.ref fa) → (∀ nm ∈ [Str.ofString "put_for"], ∀ fw, mg nm = some (.ref fw) → LamX.OwnTab (K w.params) fw h) → LamX.LawAtS l w (K w.params) CX0 9 63 "script" mg fa h) :
    PySem.W.WalkO q loose XP YP l.row.toRowW d [] (fun f vs => PySem.call f vs) :=
  walk_all (CX := fun _ => CX0) [Str.ofString "put_for"] hn (by decide) hdf ⟨rfl, by decide, by decide⟩ recs hY (fun w mg fa h _ KX G hm t => F w mg fa h KX G hm t) fun _ _ _ _ _ z => z
end Kf
open PySem PySem.W PyProof.Rows in
set_option maxRecDepth 100000 in
set_option maxHeartbeats 0 in
theorem PySem.Challenge.cw_prooffruit_k09_whole_worths_of_put_terms_holds : PySem.Challenge.rw_prooffruit_k09_whole_worths_of_put_terms.Holds := by
  w_on; o_law; k_head; (case hw => w_witness2)
  k_fill
  refine Kf.walk (l := PySem.Challenge.rw_prooffruit_k09_whole_worths_of_put_terms) rfl rfl (by decide +kernel) (fun w h Y => PySem.W.km_in_of Y) ?F
  case F =>
    intro w mg fa h KX G hmg own
    refine' Kf.all_mk KX G hmg own ?a1 ?l1 ?c1 ?k1 ?a2 ?l2 ?c2 ?k2 ?a3 ?l3 ?c3 ?k3 ?a4 ?l4 ?c4 ?k4 ?a5 ?l5 ?c5 ?k5 ?a6 ?l6 ?c6 ?k6 ?a7 ?l7 ?c7 ?k7 ?a8 ?l8 ?c8 ?k8 ?a9 ?l9 ?c9 ?k9 ?a10 ?l10 ?c10 ?k10 ?a11 ?l11 ?c11 ?k11 ?a12 ?l12 ?c12 ?k12 ?a13 ?l13 ?c13 ?k13 ?zrange ?zmax ?zmin ?zlen ?zabs ?zsorted ?zset ?zdict ?aL ?oL ?aB ?oB ?lC1 ?v111 ?g111 ?g181 ?g71 ?g91 ?g101 ?ncp1 ?nPT1 ?aTM ?kTM ?xTM ?sTM ?yTM ?oTM ?aTG ?eTG
    (case a1 => first | k_is | rfl)
    (case l1 => first | k_is | rfl)
    (case c1 => first | k_is | rfl)
    (case k1 => first | k_is | rfl)
    (case a2 => first | k_is | rfl)
    (case l2 => first | k_is | rfl)
    (case c2 => first | k_is | rfl)
    (case k2 => first | k_is | rfl)
    (case a3 => first | k_is | rfl)
    (case l3 => first | k_is | rfl)
    (case c3 => first | k_is | rfl)
    (case k3 => first | k_is | rfl)
    (case a4 => first | k_is | rfl)
    (case l4 => first | k_is | rfl)
    (case c4 => first | k_is | rfl)
    (case k4 => first | k_is | rfl)
    (case a5 => first | k_is | rfl)
    (case l5 => first | k_is | rfl)
    (case c5 => first | k_is | rfl)
    (case k5 => first | k_is | rfl)
    (case a6 => first | k_is | rfl)
    (case l6 => first | k_is | rfl)
    (case c6 => first | k_is | rfl)
    (case k6 => first | k_is | rfl)
    (case a7 => first | k_is | rfl)
    (case l7 => first | k_is | rfl)
    (case c7 => first | k_is | rfl)
    (case k7 => first | k_is | rfl)
    (case a8 => first | k_is | rfl)
    (case l8 => first | k_is | rfl)
    (case c8 => first | k_is | rfl)
    (case k8 => first | k_is | rfl)
    (case a9 => first | k_is | rfl)
    (case l9 => first | k_is | rfl)
    (case c9 => first | k_is | rfl)
    (case k9 => first | k_is | rfl)
    (case a10 => first | k_is | rfl)
    (case l10 => first | k_is | rfl)
    (case c10 => first | k_is | rfl)
    (case k10 => first | k_is | rfl)
    (case a11 => first | k_is | rfl)
    (case l11 => first | k_is | rfl)
    (case c11 => first | k_is | rfl)
    (case k11 => first | k_is | rfl)
    (case a12 => first | k_is | rfl)
    (case l12 => first | k_is | rfl)
    (case c12 => first | k_is | rfl)
    (case k12 => first | k_is | rfl)
    (case a13 => first | k_is | rfl)
    (case l13 => first | k_is | rfl)
    (case c13 => first | k_is | rfl)
    (case k13 => first | k_is | rfl)
    (case zrange => first | k_is | rfl)
    (case zmax => first | k_is | rfl)
    (case zmin => first | k_is | rfl)
    (case zlen => first | k_is | rfl)
    (case zabs => first | k_is | rfl)
    (case zsorted => first | k_is | rfl)
    (case zset => first | k_is | rfl)
    (case zdict => first | k_is | rfl)
    (case aL => first | k_is | rfl)
    (case oL => first | k_is | rfl)
    (case aB => first | k_is | rfl)
    (case oB => first | k_is | rfl)
    (case lC1 => first | k_is | rfl)
    (case v111 => first | k_is | rfl)
    (case g111 => first | k_is | rfl)
    (case g181 => first | k_is | rfl)
    (case g71 => first | k_is | rfl)
    (case g91 => first | k_is | rfl)
    (case g101 => first | k_is | rfl)
    (case ncp1 => first | decide | decide +kernel)
    (case nPT1 => first | k_is | rfl)
    (case aTM => first | k_is | rfl)
    (case kTM => first | k_is | rfl | decide +kernel)
    (case xTM => k_exc)
    (case sTM => first | k_is | rfl | decide +kernel)
    (case yTM => first | k_is | rfl | decide +kernel)
    (case oTM => first | k_is | rfl | decide +kernel)
    (case aTG => first | k_is | rfl)
    (case eTG => first | rfl | decide +kernel)
