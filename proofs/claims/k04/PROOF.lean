import PyProof.Rows.All
import Wide.All
import OpenK.AllK
import Wide.FinOn
import HandS.ForMost
import HandS.SetKeys
import HandS.SetFor
import HandS.Strs
import HandS.More
import HandS.Wide
import HandS.IsInst
import HandS.TupAny
import HandS.EndBits
import HandS.WideBits
import HandS.Exc
import HandS.ExcIs
import HandS.ExcValue
import HandS.Small
import HandS.WordsExc
import HandS.Dict
import HandS.ExcInit
import HandS.ExcField
import KE.KExcIs
import PyProof.ExcBaseAll.ValueError
import HandS.Lambda
import HandS.Nested
import HandS.Star
import HandS.Flow
import HandS.EndTab
import PyProof.ReprRoads
import HandS.EndOwn
import PyProof.ReprLen
import PySem.Challenge.RW_prooffruit_k04_worths_of_terms
set_option Elab.async false
set_option linter.all false
set_option maxRecDepth 100000
set_option maxHeartbeats 4000000
/-! Sets of texts, whatever the world's order of them is: set(), set(a list), add, sorted. -/
namespace Sx
open PySem PySem.Spec PyProof.Rows L2
/-- the text of an entry -/
def tx (e : Int × Value) : Str := match e.2 with
  | .str k _ => k
  | _ => Str.empty
def Ent (w : World) (e : Int × Value) : Prop := ∃ k tk, e = (hashStr w k, Value.str k tk)
/-- one text more -/
def ins (k : Str) (ks : List Str) : List Str := if k ∈ ks then ks else k :: ks
theorem ins_mem {k j : Str} {ks : List Str} : j ∈ ins k ks ↔ j = k ∨ j ∈ ks := by
  unfold ins
  split
  · rename_i h
    exact ⟨.inr, fun q => q.elim (fun e => e ▸ h) (fun q => q)⟩
  · exact List.mem_cons
theorem ins_nodup {k : Str} {ks : List Str} (h : ks.Nodup) : (ins k ks).Nodup := by
  unfold ins
  split
  · exact h
  · rename_i q
    exact List.nodup_cons.mpr ⟨q, h⟩
theorem ins_len {k : Str} {ks : List Str} : (ins k ks).length ≤ ks.length + 1 := by
  unfold ins
  split
  · omega
  · exact Nat.le_refl _
/-- the set's table: its rows are the texts ks, it can be walked -/
structure Rows (w : World) (es : Array (Int × Value)) (t : SetTable) (ks : List Str) : Prop where
  ent : ∀ e ∈ es.toList, Ent w e
  perm : (es.toList.map tx).Perm ks
  nd : ks.Nodup
  few : es.size < scanBound
  fit : t.fits es.size = true
  ris : Ris t.place.toList
  led : w.params.followText "set-order" = true ∨ t.led = true
def SetS (w : World) (h : Heap) (a : Addr) (ks : List Str) : Prop := ∃ o es ep t, h.get? a = some o ∧ o.ExactSet ∧ o.data = .set es ep t ∧ Rows w es t ks
section
variable {P : Program} {w : World} {h h' : Heap} {a : Addr} {ks : List Str} {es : Array (Int × Value)} {t : SetTable}
theorem SetS.stay (R : SetS w h a ks) (k : ∀ o, h.get? a = some o → h'.get? a = some o) : SetS w h' a ks := by
  obtain ⟨o, es, ep, t, ho, z⟩ := R
  exact ⟨o, es, ep, t, k o ho, z⟩
theorem Rows.size (r : Rows w es t ks) : es.size = ks.length := by
  have q := r.perm.length_eq
  rw [List.length_map, Array.length_toList] at q
  exact q
theorem ent_is {e : Int × Value} (g : Ent w e) (k : Str) : (PySem.strKind P w).is k e.2 = true ↔ tx e = k := by
  obtain ⟨j, tk, rfl⟩ := g
  show (j == k) = true ↔ j = k
  exact beq_iff_eq
theorem Rows.elems (r : Rows w es t ks) : ElemsOf (PySem.strKind P w) es.toList := by
  intro e he
  obtain ⟨k, tk, rfl⟩ := r.ent e he
  exact ⟨⟨k, strKind_is P w k tk, rfl⟩, rfl⟩
theorem Rows.mem (r : Rows w es t ks) (k : Str) : k ∈ ks ↔ ∃ e ∈ es.toList, (PySem.strKind P w).is k e.2 = true := by
  rw [← r.perm.mem_iff, List.mem_map]
  exact ⟨fun ⟨e, he, q⟩ => ⟨e, he, (ent_is (r.ent e he) k).2 q⟩, fun ⟨e, he, q⟩ => ⟨e, he, (ent_is (r.ent e he) k).1 q⟩⟩
theorem SetS.of (R : SetS w h a ks) : h.SetOf (PySem.strKind P w) a (fun k => decide (k ∈ ks)) ks.length := by
  obtain ⟨o, es, ep, t, ho, hx, hd, r⟩ := R
  exact ⟨o, es, ep, t, ho, hx, hd, r.elems, fun k => by rw [decide_eq_true_iff]; exact r.mem k, r.few, r.fit, r.size⟩
theorem rows_new (w : World) : Rows w #[] (.fresh 0 0 (!w.params.followText "set-order")) [] where
  ent := fun e he => by simp at he
  perm := List.Perm.refl _
  nd := List.nodup_nil
  few := by decide
  fit := rfl
  ris := List.Pairwise.nil
  led := by
    show _ ∨ (!w.params.followText "set-order") = true
    cases w.params.followText "set-order" with
    | true => exact .inl rfl
    | false => exact .inr rfl
end
section
variable {P : Program} {w : World} {A : Around} {E : Value → Shared → Prop} {s : Shared} {a : Addr} {ks : List Str}
/-- the table is stored, and laid anew where it is too full -/
theorem stored {gave : Bool → Sem Unit} (hg : ∀ (b : Bool) (z : Shared) (Y : Unit → Shared → Prop), Y () z → wpAny (model P w) A (gave b) Y E z)
    {o : Obj} {es0 es : Array (Int × Value)} {ep : Nat} {t0 t : SetTable} (ho : s.heap.get? a = some o) (hx : o.ExactSet) (hd : o.data = .set es0 ep t0) (r : Rows w es t ks) {dummy : Bool} {Z : Option Bool → Shared → Prop}
    (hZ : ∀ h', Heap.SameBut a s.heap h' → SetS w h' a ks → Z (some true) { s with heap := h' }) :
    wpAny (model P w) A (do
        storeSet a es t
        if (!dummy && t.tooFull) = true then do
            gave (relayAll t es (SetTable.grown es.size)).2.2
            storeSet a (relayAll t es (SetTable.grown es.size)).1 (relayAll t es (SetTable.grown es.size)).2.1
            pure (some true)
          else pure (some true)) Z E s := by
  have first := Heap.SameBut.update s.heap a (Obj.putSet es t)
  have o1 := store_at (es' := es) (t' := t) ho hd
  refine wpAny_bind (wpAny_storeSet_of ho hd ?_ (fits_of_scanBound r.few))
  by_cases full : (!dummy && t.tooFull) = true
  · rw [if_pos full]
    have r2 : Rows w (relayAll t es (SetTable.grown es.size)).1 (relayAll t es (SetTable.grown es.size)).2.1 ks := by
      have pm := relayAll_perm t es (SetTable.grown es.size)
      have sz : (relayAll t es (SetTable.grown es.size)).1.size = es.size := by
        have q := pm.length_eq
        rw [Array.length_toList, Array.length_toList] at q
        exact q
      exact ⟨fun e he => r.ent e (pm.mem_iff.mp he), (pm.map tx).trans r.perm, r.nd, Nat.lt_of_le_of_lt (Nat.le_of_eq sz) r.few, relayAll_fits _ _ _, relayAll_ris _ _ _, r.led.imp (fun z => z) fun z => (relayAll_led _ _ _).trans z⟩
    refine wpAny_bind (hg _ _ _ (wpAny_bind (wpAny_storeSet_of o1 rfl ?_ (fits_of_scanBound r2.few))))
    exact wpAny_pure (hZ _ (first.trans (Heap.SameBut.update _ a _)) ⟨_, _, _, _, store_at o1 rfl, hx, rfl, r2⟩)
  · rw [if_neg full]
    exact wpAny_pure (hZ _ first ⟨_, _, _, _, o1, hx, rfl, r⟩)
theorem plain_off {w : World} {es : Array (Int × Value)} {t : SetTable} {ks : List Str} (r : Rows w es t ks) : Rows w es { t with plain := false } ks :=
  ⟨r.ent, r.perm, r.nd, r.few, SetTable.fits_plain_off r.fit, r.ris, r.led⟩
/-- a text whose hash is known is added -/
theorem add_at {k : Str} {tk : Tok} {Z : Bool → Shared → Prop} (R : SetS w s.heap a ks) (room : ks.length + 1 < scanBound)
    (hZ : ∀ b h', Heap.SameBut a s.heap h' → SetS w h' a (ins k ks) → Z b { s with heap := h' }) : wpAny (model P w) A (setAddHashed a (.str k tk) (hashStr w k)) Z E s := by
  obtain ⟨o, es, ep, t, ho, hx, hd, r⟩ := R
  have hel : ElemsOf (PySem.strKind P w) es.toList := r.elems
  have hscan : byScan (Value.str k tk) es = true := byScan_of rfl r.few hel
  unfold setAddHashed setAddHashedIn
  refine wpAny_holding (wpAny_bind (wpAny_setState_of ho hd r.fit ?_))
  dsimp only
  rw [hscan]
  simp only [↓reduceIte]
  unfold setAddByScan
  refine wpAny_bind (wpAny_bind (wpAny_rule (wpAny_bind (wpAny_setScan_of (knd := PySem.strKind P w) (k := k) (strKind_is P w k tk) ho hd r.fit hel ?_))))
  cases found : List.findIdx? (fun e => (PySem.strKind P w).is k e.2) es.toList with
  | some j =>
    obtain ⟨lt, hit, _⟩ := List.findIdx?_eq_some_iff_getElem.mp found
    have there : k ∈ ks := (r.mem (P := P) k).2 ⟨_, List.getElem_mem lt, hit⟩
    refine wpAny_pure (wpAny_pure (hZ _ s.heap (Heap.SameBut.refl a s.heap) ⟨o, es, ep, t, ho, hx, hd, ?_⟩))
    unfold ins
    rw [if_pos there]
    exact r
  | none =>
    have away : k ∉ ks := fun z => by
      obtain ⟨e, he, hit⟩ := (r.mem (P := P) k).1 z
      have no := List.findIdx?_eq_none_iff.mp found e he
      rw [hit] at no
      cases no
    have pm0 := layNew_perm t es (hashStr w k) (.str k tk)
    rw [Array.toList_push] at pm0
    have pm := pm0.trans (List.perm_append_singleton (hashStr w k, Value.str k tk) es.toList)
    have r1 : Rows w (layNew t es (hashStr w k) (.str k tk)).1 (layNew t es (hashStr w k) (.str k tk)).2.1 (ins k ks) := by
      have sz : (layNew t es (hashStr w k) (.str k tk)).1.size = ks.length + 1 := by
        have q := pm.length_eq
        rw [Array.length_toList, List.length_cons, Array.length_toList, r.size] at q
        exact q
      refine ⟨fun e he => ?_, ?_, ins_nodup r.nd, Nat.lt_of_le_of_lt (Nat.le_of_eq sz) room, layNew_fits _ _ _ _, layNew_ris _ _ _ _ r.ris, r.led.imp (fun z => z) fun z => (layNew_led _ _ _ _).trans z⟩
      · rcases List.mem_cons.mp (pm.mem_iff.mp he) with z | z
        · exact ⟨k, tk, z⟩
        · exact r.ent e z
      · unfold ins
        rw [if_neg away]
        exact (pm.map tx).trans (List.Perm.cons k r.perm)
    have gw : ∀ (b : Bool) (z : Shared) (Y : Unit → Shared → Prop), Y () z → wpAny (model P w) A (match b with | true => rule "set.scan.the-table-gave-way" | false => pure ()) Y E z := by
      intro b z Y q
      cases b with
      | true => exact wpAny_rule q
      | false => exact wpAny_pure q
    have goal2 : ∀ h', Heap.SameBut a s.heap h' → SetS w h' a (ins k ks) → Z true { s with heap := h' } := fun h' sb r' => hZ true h' sb r'
    dsimp only
    change wpAny _ _ _ _ _ _
    generalize layNew t es (hashStr w k) (.str k tk) = L at r1 ⊢
    obtain ⟨es1, t1, dummy, gave⟩ := L
    dsimp only at r1 ⊢
    refine wpAny_bind (gw _ _ _ ?_)
    by_cases pl : t1.plain = true
    · rw [if_pos pl]
      refine wpAny_bind ?_
      rw [hashByValue_scannable 8 (show (Value.str k tk).scannable = true from rfl)]
      refine wpAny_pure ?_
      refine stored gw ho hx hd (ks := ins k ks) ?_ fun h' sb r' => wpAny_pure (goal2 h' sb r')
      split
      · exact r1
      · exact plain_off r1
    · rw [if_neg pl]
      refine wpAny_bind (wpAny_pure ?_)
      simp only [↓reduceIte]
      exact stored gw ho hx hd (ks := ins k ks) r1 fun h' sb r' => wpAny_pure (goal2 h' sb r')
end
/-- the texts of the first i are put in, one by one -/
def insAll (ks : List Str) : List Str → List Str
  | [] => ks
  | x :: r => insAll (ins x ks) r
theorem insAll_mem {j : Str} : ∀ (xs ks : List Str), j ∈ insAll ks xs ↔ j ∈ xs ∨ j ∈ ks
  | [], ks => by simp [insAll]
  | x :: r, ks => by
    rw [insAll, insAll_mem r, ins_mem, List.mem_cons]
    constructor
    · rintro (h | h | h)
      · exact .inl (.inr h)
      · exact .inl (.inl h)
      · exact .inr h
    · rintro ((h | h) | h)
      · exact .inr (.inl h)
      · exact .inl h
      · exact .inr (.inr h)
theorem insAll_len : ∀ (xs ks : List Str), (insAll ks xs).length ≤ ks.length + xs.length
  | [], ks => Nat.le_refl _
  | x :: r, ks => by
    have h1 := insAll_len r (ins x ks)
    have h2 := ins_len (k := x) (ks := ks)
    rw [insAll, List.length_cons]
    omega
section
variable {P : Program} {w : World} {A : Around} {E : Value → Shared → Prop} {s : Shared}
/-- set.update's own loop over a walk that yields texts -/
theorem feed_loop {I : Addr} {fp wr : List Addr} {G : Array GenState → Array GenState → Prop} {n : Nat} {Y : Nat → Value → Prop} {St : Nat → Shared → Prop} {Z : Result → Shared → Prop}
    (W : WalksS P w A.in1 I fp wr G n Y St) (S : Addr) (out : S ∉ fp) (texts : List Str) (hn : texts.length = n) (hb : n + 1 < scanBound) (hY : ∀ i v, Y i v → ∃ k tk, texts[i]? = some k ∧ v = .str k tk) :
    ∀ (left : Nat) (i : Nat) (ks : List Str) (s : Shared), i + left = n → St i s → SetS w s.heap S ks → ks.length ≤ i →
      (∀ s', Moved (S :: wr) G s s' → SetS w s'.heap S (insAll ks (texts.drop i)) → Z (.ok (.ret .none)) s') → codeAny (model P w) A (.builtin "set.update.loop" ⟨[.ref S, .ref I], []⟩) Z s := by
  have quietS : S ∉ wr := fun z => out (W.sub _ z)
  have more : ∀ b ∈ wr, b ∈ S :: wr := fun b hb => List.mem_cons_of_mem _ hb
  intro left
  induction left with
  | zero =>
    intro i ks s hi hst hS _ hZ
    have e0 : texts.drop i = [] := List.drop_eq_nil_of_le (by omega)
    rw [e0] at hZ
    have e1 : i = n := by omega
    rw [e1] at hst
    refine codeAny_builtin F.entry_set_update_loop ?_
    rw [Around.under_plainId F.plain_set_update_loop _]
    show wpAny _ A.in1 (pyNext (.ref I) >>= _) _ _ s
    refine wpAny_bind (W.done s _ _ hst fun s' mv => wpAny_pure (hZ s' (mv.mono more) (hS.stay fun o e => mv.heap S o quietS e)))
  | succ left ih =>
    intro i ks s hi hst hS hk hZ
    have lt : i < n := by omega
    refine codeAny_builtin F.entry_set_update_loop ?_
    rw [Around.under_plainId F.plain_set_update_loop _]
    show wpAny _ A.in1 (pyNext (.ref I) >>= _) _ _ s
    refine wpAny_bind (W.item i s _ _ lt hst fun v s1 hv hst1 mv => ?_)
    obtain ⟨k, tk, hk1, rfl⟩ := hY i v hv
    have hS1 : SetS w s1.heap S ks := hS.stay fun o e => mv.heap S o quietS e
    have ed : texts.drop i = k :: texts.drop (i + 1) := by
      obtain ⟨lt2, e2⟩ := List.getElem?_eq_some_iff.mp hk1
      rw [← e2]
      exact List.drop_eq_getElem_cons lt2
    rw [ed] at hZ
    show wpAny _ A.in1 (holding [Value.str k tk] (setAdd S (.str k tk)) >>= _) _ _ s1
    unfold setAdd
    refine wpAny_bind (wpAny_holding (wpAny_holding (wpAny_bind ((PySem.strKind P w).pyHash (k := k) (strKind_is P w k tk) ?_))))
    refine add_at (s := { s1 with toks := s1.toks + 1 }) hS1 (by omega) fun b h' sb hS2 => ?_
    refine wpAny_pure ⟨plainId_quiet F.plain_set_update_loop _, ih (i + 1) (ins k ks) _ (by omega) (W.frame _ s1 _ _ hst1 (Nat.le_succ _) fun c hc o e => ?_) hS2 ?_ fun s2 mv2 hS3 => ?_⟩
    · have away : c ≠ S := fun z => out (z ▸ hc)
      rw [sb.2 c away]
      exact e
    · have := ins_len (k := k) (ks := ks)
      omega
    · refine hZ s2 (Moved.trans W.gtrans ((mv.mono more).then_heap (Nat.le_succ _) fun c o hc e => ?_) mv2) hS3
      have away : c ≠ S := fun z => hc (z ▸ List.mem_cons_self)
      rw [sb.2 c away]
      exact e
/-- the empty set, as it is made -/
abbrev bare (w : World) : Obj := { cls := .type "set", dict := none, data := .set #[] 0 (.fresh 0 0 (!w.params.followText "set-order")) }
theorem bare_holds {h : Heap} {a : Addr} (ho : h.get? a = some (bare w)) : SetS w h a [] := ⟨_, _, _, _, ho, ⟨rfl, rfl, rfl⟩, rfl, rows_new w⟩
set_option maxHeartbeats 8000000 in
theorem set_of_list {l : Addr} {items : Array Value} (texts : List Str) {Z : Value → Shared → Prop} (hh : A.handled = none) (hl : s.heap.IsList l items) (ht : StrsAre items.toList texts) (hb : texts.length + 1 < scanBound)
    (hZ : ∀ (h' : Heap) (tk : Nat), SetS w h' s.heap.objs.size (insAll [] texts) → (∀ b o, s.heap.get? b = some o → h'.get? b = some o) → Z (.ref s.heap.objs.size) { s with heap := h', toks := tk }) :
    wpAny (model P w) A (call (.type "set") [.ref l]) Z E s := by
  have count : texts.length = items.size := by
    have q := StrsAre.len_eq ht
    rw [Array.length_toList] at q
    exact q.symm
  obtain ⟨c, tl, hmro⟩ := F.called_set.mro
  have made := F.called_set.made
  have sub := F.called_set.sub
  have noType := F.called_set.notType
  have can := F.called_set.canCreate
  have tcall := F.typeCall_set_1 (.ref l)
  refine wpAny_call (codeAny_of_tree ?_)
  show wpAny _ _ (callAny (.type "set") _) _ _ _
  refine wpAny_pure ⟨Code.quiet_builtin _ (by decide +kernel), codeAny_builtin F.entry_type_call ?_⟩
  rw [Around.under_plain (weight_type_call_type "set" [.ref l] []) rfl]
  repeat (any_goals (first | assumption | wp_step))
  refine codeAny_mono (code_set_led1 (.ref l) (E := E) (Q₁ := fun v z => v = .ref s.heap.objs.size ∧ z = { s with heap := s.heap.push (bare w) }) ⟨rfl, rfl⟩) fun r z hr => ?_
  match r, hr with
  | .error _, hr => exact hr
  | .ok .next, hr => exact hr.elim
  | .ok .brk, hr => exact hr.elim
  | .ok .cont, hr => exact hr.elim
  | .ok (.ret _), hr =>
    obtain ⟨rfl, rfl⟩ := hr
    have hS : (s.heap.push (bare w)).get? s.heap.objs.size = some (bare w) := Heap.get?_push_size _ rfl
    have isSet : Shared.TypeIs { s with heap := s.heap.push (bare w) } (.ref s.heap.objs.size) "set" := ⟨_, hS, rfl⟩
    have initL := F.called_set.init.lookup
    have initB := F.called_set.init.bind (.ref s.heap.objs.size)
    repeat (any_goals (first | assumption | wp_step))
    refine codeAny_mono (codeAny_call_builtin (R := wants (fun v z => v = .none ∧ ∃ h' tk, z = { s with heap := h', toks := tk } ∧ SetS w h' s.heap.objs.size (insAll [] texts) ∧ ∀ b o, s.heap.get? b = some o → h'.get? b = some o) E)
      F.called_set.init.plain F.entry_set_init (check_set_init_1 isSet ?_)) fun r z hr => ?_
    · have hl1 : (s.heap.push (bare w)).IsList l items := hl.push _
      obtain ⟨⟨_, dd, _, sl⟩, hol, rfl, nl, rfl⟩ := id hl
      have hol1 : (s.heap.push (bare w)).get? l = some ⟨.type "list", dd, .seq items nl, sl⟩ := Heap.get?_push_of_some _ hol
      have sub1 := F.sub_list_set
      have sub2 := F.sub_list_frozenset
      have unlike : (Value.type "list" == Value.type "dict") = false := by decide
      unfold Builtin.«set.__init__» noKeywords Builtin.Frozenset.updateFrom
      generalize hPI : pyIter = PI
      wp_walk
      subst hPI
      refine wpAny_pyIter_list hl1 (wpAny_bind (wpAny_runValue ?_))
      have old : l < s.heap.objs.size := Heap.lt_size hol
      have sz1 : (s.heap.push (bare w)).objs.size = s.heap.objs.size + 1 := Heap.size_push ..
      have apart : l ≠ (s.heap.push (bare w)).objs.size := by
        rw [sz1]
        exact Nat.ne_of_lt (Nat.lt_succ_of_lt old)
      have out : s.heap.objs.size ∉ [(s.heap.push (bare w)).objs.size, l] := by
        intro z
        rcases List.mem_cons.mp z with z | z
        · rw [sz1] at z
          omega
        · exact absurd old (by rw [← List.mem_singleton.mp z]; exact Nat.lt_irrefl _)
      have texty : ∀ (i : Nat) (v : Value), items[i]? = some v → ∃ k tk, texts[i]? = some k ∧ v = .str k tk := fun i v hv => by
        have hi : i < texts.length := by
          rw [count]
          exact (Array.getElem?_eq_some_iff.mp hv).1
        obtain ⟨tk, e⟩ := SS.strs_at ht i v (by rw [Array.getElem?_toList]; exact hv)
        refine ⟨texts[i], tk, List.getElem?_eq_getElem hi, ?_⟩
        rw [e, List.getD_eq_getElem?_getD, List.getElem?_eq_getElem hi]
        rfl
      have hh3 : A.in1.in1.in1.handled = none := by simp [hh]
      refine feed_loop ((Walks.list hh3 _ l apart items).toS) s.heap.objs.size out texts count (by rw [← count]; exact hb) texty items.size 0 [] _ (Nat.zero_add _) ⟨⟨_, Heap.get?_push_size _ rfl, rfl, rfl⟩, hl1.push _⟩
        (bare_holds (Heap.get?_push_of_some _ hS)) (Nat.le_refl _) fun s' mv hS' => ?_
      obtain ⟨h', g', d', tk', os'⟩ := s'
      have eg : g' = s.gens := mv.gens
      have ed : d' = s.drawn := mv.drawn
      have eo : os' = s.os := mv.os
      subst eg ed eo
      show wpAny _ _ _ _ _ _
      refine wpAny_pure ?_
      show wpAny _ _ (ret Value.none) _ _ _
      refine wpAny_pure ⟨rfl, h', tk', rfl, hS', fun b o e => ?_⟩
      have lt := Heap.lt_size e
      refine mv.heap b o (fun z => ?_) (Heap.get?_push_of_some _ (Heap.get?_push_of_some _ e))
      rcases List.mem_cons.mp z with z | z
      · rw [z] at lt
        exact Nat.lt_irrefl _ lt
      · have z2 := List.mem_singleton.mp z
        have lt2 : b < (s.heap.push (bare w)).objs.size := by
          rw [sz1]
          exact Nat.lt_succ_of_lt lt
        rw [z2] at lt2
        exact Nat.lt_irrefl _ lt2
    · match r, hr with
      | .error _, hr => exact hr
      | .ok .next, hr => exact hr.elim
      | .ok .brk, hr => exact hr.elim
      | .ok .cont, hr => exact hr.elim
      | .ok (.ret _), hr =>
        obtain ⟨rfl, h', tk, rfl, hS', keep⟩ := hr
        repeat (any_goals (first | assumption | wp_step))
        exact hZ _ _ hS' keep
/-- the texts of values that are texts -/
theorem texts_of : ∀ (vs : List Value), (∀ v ∈ vs, ∃ k tk, v = Value.str k tk) → ∃ ks, StrsAre vs ks ∧ ks = vs.map fun v => tx (0, v)
  | [], _ => ⟨[], .nil, rfl⟩
  | v :: vs, h => by
    obtain ⟨k, tk, rfl⟩ := h v List.mem_cons_self
    obtain ⟨ks, h1, h2⟩ := texts_of vs fun u hu => h u (List.mem_cons_of_mem _ hu)
    exact ⟨k :: ks, .cons k tk h1, by rw [h2]; rfl⟩
theorem sorted_of_set {a : Addr} {ks : List Str} {Z : Value → Shared → Prop} (R : SetS w s.heap a ks) (hh : A.handled = none) (few : ks.length < 64)
    (hZ : ∀ s' p (out : Array Value) (c : Nat) (ys : List Str), (∀ b o, s.heap.get? b = some o → s'.heap.get? b = some o) → s'.gens = s.gens → s'.os = s.os → s.heap.objs.size ≤ p →
      s'.heap.get? p = some (seqObj "list" out c) → StrsAre out.toList ys → ys.Perm ks → sortedS ys = true → Z (.ref p) s') :
    wpAny (model P w) A (call (.builtin "sorted") [.ref a]) Z E s := by
  obtain ⟨o, es, ep, t, ho, hx, hd, r⟩ := R
  refine Calls.call_function_entry kind_sorted plain_sorted entry_sorted (args_sorted1 _) ?_
  unfold Builtin.«sorted»
  refine wpAny_bind (m := checkCount "sorted" 1 1 _) (wpAny_pure ?_)
  refine wpAny_bind (collect_set (A := A.in1) hh ⟨o, ho, hx.1, hd⟩ r.fit r.few r.ris r.led fun s1 vs keep more g1 o1 pm => ?_)
  obtain ⟨texts, isT, eT⟩ := texts_of vs fun v hv => by
    obtain ⟨e, he, q⟩ := List.mem_map.mp (pm.mem_iff.mp hv)
    obtain ⟨k, tk, ee⟩ := r.ent e he
    exact ⟨k, tk, by rw [← q, ee]⟩
  have pT : texts.Perm ks := by
    refine List.Perm.trans ?_ r.perm
    rw [eT]
    have q := pm.map fun v => tx (0, v)
    rw [List.map_map] at q
    exact q
  have len : vs.length = ks.length := by
    rw [StrsAre.len_eq isT]
    exact pT.length_eq
  have line : vs.length ≤ sizeLine := by
    rw [len, sizeLine_eq]
    omega
  have hL : (s1.heap.push (seqObj "list" vs.toArray 0)).get? s1.heap.objs.size = some (seqObj "list" vs.toArray 0) := Heap.get?_push_size _ rfl
  refine wpAny_bind (wpAny_newList ?_ line)
  refine wpAny_bind (wpAny_holding (wpAny_call_entry slot_list_sort ⟨_, hL, rfl⟩ entry_list_sort (list_sort_treeK strKind_oneLt hL isT.keysOf (fun v₁ v₂ rest e => keyKind_strs (by rw [← e]; exact isT)) (by rw [len]; exact few) fun st hp hs => ?_) (args_list_sort _)))
  obtain ⟨ys, y1, y2, y3⟩ := sorted_out_str isT hp hs
  obtain ⟨c, hc⟩ := sortedHeap_at (vs := vs) (out := (arrOf st).map (·.2)) hL
  refine ⟨_, rfl, wpAny_pure ⟨_, rfl, hZ _ s1.heap.objs.size _ c ys (fun b u e => ?_) g1 o1 more hc y1 (y2.trans pT) y3⟩⟩
  have q := keep b u e
  have lt := Heap.lt_size q
  show (sortedHeap (s1.heap.push (seqObj "list" vs.toArray 0)) s1.heap.objs.size vs _).get? b = some u
  rw [sortedHeap_old (Nat.ne_of_lt lt) (by rw [Heap.size_push]; exact Nat.lt_succ_of_lt lt)]
  exact Heap.get?_push_of_some _ q
end
end Sx
set_option Elab.async false
set_option linter.all false
set_option maxRecDepth 100000
set_option maxHeartbeats 4000000
/-! The rules over sets of texts. -/
namespace Sx
open PySem PySem.Spec PyProof.Rows L2
/-- a set of the texts ks stands at a -/
def SetX (w : World) (a : Addr) (ks : List Str) : HO := .ext fun h => SetS w h a ks
section
variable {X : Cx}
theorem setX_new {w : World} {P : Program} {H : Hp} {h : Heap} {a : Addr} {ks : List Str} (R : SetS w h a ks) : ObjOk P w H h a (SetX w a ks) := by
  have ⟨o, _, _, _, ho, _⟩ := R
  exact ⟨R, ⟨o, ho⟩, fun _ _ r k => SetS.stay r k⟩
theorem setX_get {pins : List (Addr × Obj)} {σ : L2.St} {H : Hp} {s : Shared} {a : Addr} {ks : List Str} (I : Inv X pins σ H s) (e : H a = some (SetX X.w a ks)) : SetS X.w s.heap a ks := (I.hok a _ e).1
/-- set() -/
def rNewX (w : World) : List V → Hp → VK → Prop := fun xs H Q => xs = [] ∧ ∀ p, H p = none → Q (.ref p) (upd H p (SetX w p []))
theorem cr_newX : CallR X (.type "set") (rNewX X.w) := by
  intro pins s σ H xs us Q I r ⟨e, q⟩
  subst e
  cases r
  refine setR_new fun _ => ⟨.ref _, upd H s.heap.objs.size (SetX X.w s.heap.objs.size []), ?_, rfl, q _ (I.hok.fresh (Nat.le_refl _))⟩
  exact I.laid (t' := s.toks) (fun b u e => Heap.get?_push_of_some _ e) (Nat.le_refl _) (setX_new (bare_holds (Heap.get?_push_size _ rfl)))
/-- set(a list of texts) -/
def rOfX (K : PySem.W.Frag) (w : World) : List V → Hp → VK → Prop := fun xs H Q => ∃ (l : Addr) (texts : List Str), xs = [.ref l] ∧ SqL K H l (texts.map V.str) ∧ texts.length + 1 < scanBound ∧
  ∀ p, H p = none → Q (.ref p) (upd H p (SetX w p (insAll [] texts)))
theorem cr_ofX (hc : X.calm = true) : CallR X (.type "set") (rOfX X.K X.w) := by
  intro pins s σ H xs us Q I r ⟨l, texts, e, hq, few, q⟩
  subst e
  rw [Vals.ref1 r]
  obtain ⟨its, rv, pl, _⟩ := I.list hq
  refine set_of_list texts (I.ok.hd hc) pl.isList (by simpa using strsAre_of rv) few fun h' tk hS keep => ?_
  exact ⟨.ref _, upd H s.heap.objs.size (SetX X.w s.heap.objs.size (insAll [] texts)), I.laid (t' := tk) keep (Nat.le_refl _) (setX_new hS), rfl, q _ (I.hok.fresh (Nat.le_refl _))⟩
/-- found.add(text) -/
def rAddX (w : World) : V → List V → Hp → VK → Prop := fun x xs H Q => ∃ (a : Addr) (k : Str) (ks : List Str), x = V.ref a ∧ xs = [V.str k] ∧ H a = some (SetX w a ks) ∧ ks.length + 1 < scanBound ∧ Q .non (upd H a (SetX w a (ins k ks)))
theorem mt_addX : MtR X "set.add" (rAddX X.w) := by
  intro pins s σ H x xs v us Q I rx rxs ⟨a, k, ks, e1, e2, ha, room, q⟩
  subst e1 e2
  cases rx
  obtain ⟨u, rfl, tk, rfl⟩ := vals1 rxs
  have R := setX_get I ha
  refine wpAny_call_entry F.slot_set_add (R.of (P := X.prog)).typeIs F.entry_set_add ?_ (F.args_set_add_2 _ _)
  unfold Builtin.«set.add» Builtin.Frozenset.oneOther
  simp only [List.isEmpty_nil, bind_assoc]
  unfold Builtin.Frozenset.addrOf setAdd
  refine wpAny_bind (wpAny_pure ?_)
  try dsimp only
  refine wpAny_bind (wpAny_pure ?_)
  try dsimp only
  refine wpAny_bind (wpAny_holding (wpAny_bind ((PySem.strKind X.prog X.w).pyHash (strKind_is X.prog X.w k tk) ?_)))
  refine add_at (s := { s with toks := s.toks + 1 }) R room fun b h' sb new => ?_
  show wpAny _ _ (ret Value.none) _ _ _
  have there : ∃ u, h'.get? a = some u := by
    obtain ⟨o, _, _, _, ho, _⟩ := new
    exact ⟨o, ho⟩
  exact wpAny_pure ⟨_, rfl, .non, upd H a (SetX X.w a (ins k ks)), I.write (e := a) (t' := s.toks + 1) (by rw [ha]; trivial) (.inl rfl) (fun c u hc hu => (sb.2 c hc).trans hu) there (setX_new new), rfl, q⟩
def tAddX (w : World) (to : TE) (t : TA) : TE := fun σ H Q => to σ H fun x H1 => (∃ a ks, x = V.ref a ∧ H1 a = some (SetX w a ks)) ∧ t σ H1 fun xs H2 => rAddX w x xs H2 Q
theorem pe_addX {o e : Expr} {to : TE} {t : TA} {apos cpos : Pos} (ho : PE X o to) (ha : PA X [e] t)
    (h1 : attributeBase o "add" X.env (eval o X.env) = eval o X.env := by rfl)
    (h2 : ((backTo cpos (starEach [e] X.env)).all (fun x => !x.1) && (backToKw cpos (keywordEach [] X.env)).all (fun x => x.1.isSome) && decide ([e].length + ([] : List Keyword).length + (if ([] : List Keyword).isEmpty then 0 else 1) < 30)) = true := by rfl)
    (h3 : (apos.endLine == cpos.line) = true := by rfl) (h4 : starEach [e] X.env = (false, eval e X.env) :: starEach [] X.env := by rfl) (h5 : (backTo cpos (starEach [] X.env)).any (·.1) = false := by rfl) :
    PE X (.Call (.Attribute o "add" apos) [e] [] cpos) (tAddX X.w to t) := by
  refine ⟨fun pins s σ H Q I h => wpAny_Call_method_late h1 h2 h3 rfl (thn (ho.run pins s σ H _ I h) fun v s1 ⟨x, H1, I1, r1, ⟨a, ks, ex, hka⟩, q1⟩ => ?_)⟩
  subst ex
  cases r1
  have R := (setX_get I1 hka).of (P := X.prog)
  have run := ha.run cpos pins s1 σ H1 _ I1 q1
  refine ⟨"set", "set.add", F.plainAttrs_set, F.slot_set_add, F.type_set_add, R.typeIs, R.noDict, ?_⟩
  rw [h4] at run ⊢
  refine Calls.callWith_builtin (by show (false || (backTo cpos (starEach [] X.env)).any (·.1)) = false; rw [h5]; rfl) (Calls.evalArgs_plain (thn run fun us s2 ⟨vs, H2, I2, r2, q2⟩ => ?_))
  exact mt_addX pins s2 σ H2 (.ref a) vs (.ref a) us Q I2 rfl r2 q2
/-- sorted(a set of texts) -/
def rSortX (w : World) : List V → Hp → VK → Prop := fun vs H Q => ∃ (a : Addr) (ks : List Str), vs = [V.ref a] ∧ H a = some (SetX w a ks) ∧ ks.length < 64 ∧
  ∀ (ys : List Str) (p : Addr), ys.Perm ks → ys.Nodup → sortedS ys = true → H p = none → Q (.ref p) (upd H p (.lst (ys.map V.str)))
theorem cr_sortX (hc : X.calm = true) : CallR X (.builtin "sorted") (rSortX X.w) := by
  intro pins s σ H vs us Q I r ⟨a, ks, e, ha, few, q⟩
  subst e
  rw [Vals.ref1 r]
  have R := setX_get I ha
  have nd : ks.Nodup := by
    obtain ⟨_, _, _, _, _, _, _, rows⟩ := R
    exact rows.nd
  refine sorted_of_set R (I.ok.hd hc) few fun s' p out c ys keep g1 o1 old hp y1 y2 y3 => ?_
  have line : (ys.map V.str).length ≤ sizeLine := by
    rw [List.length_map, y2.length_eq]
    exact small64 few
  have free : H p = none := I.hok.fresh old
  have J : Inv X pins σ (upd H p (.lst (ys.map V.str))) { s with heap := s'.heap, gens := s'.gens, drawn := s'.drawn, toks := s'.toks } :=
    I.call (ch := []) (Un.laid keep old free) (I.hok.laid keep old ⟨line, out.toList, c, vals_of_strs y1, hp⟩) (by rw [g1]; exact I.bare) (fun _ z => nomatch z)
  have back : s' = { s with heap := s'.heap, gens := s'.gens, drawn := s'.drawn, toks := s'.toks } := by
    cases s'
    cases s
    cases o1
    rfl
  rw [back]
  exact ⟨.ref p, _, J, rfl, q ys p y2 (y2.nodup_iff.mpr nd) y3 free⟩
end
end Sx
set_option Elab.async false
set_option linter.all false
set_option maxRecDepth 100000
set_option maxHeartbeats 4000000
/-! Trees, heaps: what the defs of these laws share. -/
namespace Kf
open PySem PySem.Spec PyProof.Rows L2 Sx
/-! ### lists, pair by pair -/
inductive All2 {α β : Type} (F : α → β → Prop) : List α → List β → Prop
  | nil : All2 F [] []
  | cons {a : α} {b : β} {l : List α} {m : List β} : F a b → All2 F l m → All2 F (a :: l) (b :: m)
section
variable {α β : Type} {F G : α → β → Prop}
theorem All2.len : ∀ {l : List α} {m : List β}, All2 F l m → l.length = m.length
  | _, _, .nil => rfl
  | _, _, .cons _ t => congrArg Nat.succ t.len
theorem All2.app : ∀ {l l2 : List α} {m m2 : List β}, All2 F l m → All2 F l2 m2 → All2 F (l ++ l2) (m ++ m2)
  | _, _, _, _, .nil, h => h
  | _, _, _, _, .cons r t, h => .cons r (t.app h)
theorem All2.mono (f : ∀ a b, F a b → G a b) : ∀ {l : List α} {m : List β}, All2 F l m → All2 G l m
  | _, _, .nil => .nil
  | _, _, .cons r t => .cons (f _ _ r) (t.mono f)
theorem All2.one {a : α} {b : β} (h : F a b) : All2 F [a] [b] := .cons h .nil
theorem All2.rev : ∀ {l : List α} {m : List β}, All2 F l m → All2 F l.reverse m.reverse
  | _, _, .nil => .nil
  | _, _, .cons r t => by
    rw [List.reverse_cons, List.reverse_cons]
    exact t.rev.app (.one r)
theorem All2.last {l : List α} {m : List β} {y : β} (h : All2 F l (m ++ [y])) : ∃ k x, l = k ++ [x] ∧ All2 F k m ∧ F x y := by
  have q := h.rev
  rw [List.reverse_append, List.reverse_singleton, List.singleton_append] at q
  generalize hr : l.reverse = r at q
  cases q with
  | @cons x _ k _ r t =>
    have t2 := t.rev
    rw [List.reverse_reverse] at t2
    refine ⟨k.reverse, x, ?_, t2, r⟩
    have e := congrArg List.reverse hr
    rw [List.reverse_reverse, List.reverse_cons] at e
    exact e
theorem All2.get : ∀ {l : List α} {m : List β} {i : Nat} {y : β}, All2 F l m → m[i]? = some y → ∃ x, l[i]? = some x ∧ F x y
  | _, _, _, _, .nil, h => by simp at h
  | _, _, 0, _, .cons r _, h => ⟨_, rfl, (Option.some.inj h) ▸ r⟩
  | _, _, i + 1, _, .cons _ t, h => t.get (i := i) (by simpa using h)
end
/-! ### heaps -/
/-- all but what stands at f is as it was -/
def But (f : Addr) (H H' : Hp) : Prop := ∀ b o, b ≠ f → H b = some o → H' b = some o
/-- all tuples stand -/
def Tups (H H' : Hp) : Prop := ∀ b xs, H b = some (.tup xs) → H' b = some (.tup xs)
section
variable {f : Addr} {H H1 H2 : Hp} {p : Addr} {o : HO}
theorem But.refl (f : Addr) (H : Hp) : But f H H := fun _ _ _ e => e
theorem But.trans (a : But f H H1) (b : But f H1 H2) : But f H H2 := fun c u n e => b c u n (a c u n e)
theorem but_same (a : Same H H1) : But f H H1 := fun c u _ e => a c u e
theorem But.new (a : But f H H1) (h : H1 p = none) : But f H (upd H1 p o) := fun c u n e => by
  have q := a c u n e
  rw [upd_ne (ne_of_none q h)]
  exact q
theorem But.own (a : But f H H1) : But f H (upd H1 f o) := fun c u n e => by
  rw [upd_ne n]
  exact a c u n e
theorem same_new (h : H p = none) : Same H (upd H p o) := fun b u q => by
  rw [upd_ne (ne_of_none q h)]
  exact q
theorem same_put (s : Same H H1) (h : H1 p = none) : Same H (upd H1 p o) := fun b u q => by
  rw [upd_ne (ne_of_none (s b u q) h)]
  exact s b u q
theorem Tups.refl (H : Hp) : Tups H H := fun _ _ e => e
theorem Tups.trans (a : Tups H H1) (b : Tups H1 H2) : Tups H H2 := fun c u e => b c u (a c u e)
theorem tups_same (a : Same H H1) : Tups H H1 := fun c u e => a c _ e
theorem But.tups {xs : List V} (a : But f H H1) (h : H f = some (.lst xs)) : Tups H H1 := fun c u e => a c _ (fun z => by
  rw [z, h] at e
  cases e) e
theorem tups_put (h : ∀ xs, H p ≠ some (.tup xs)) : Tups H (upd H p o) := fun c u e => by
  rw [upd_ne (fun z => h u (by rw [← z]; exact e))]
  exact e
end
/-! ### trees -/
inductive Tr where
  | leaf (w : Str) (x : V)
  | n0 (w : Str)
  | n1 (w : Str) (a : Tr)
  | n2 (w : Str) (a b : Tr)
abbrev leafVs : List V := [.str "num", .str "name", .str "bound"]
abbrev bindVs : List V := [.str "all", .str "some"]
def leafy (w : Str) : Bool := inV (.str w) leafVs
def binds (w : Str) : Bool := inV (.str w) bindVs
/-- how many stand around the parts -/
def inner (w : Str) (r : Nat) : Nat := if binds w = true then r + 1 else r
def Tr.word : Tr → Str
  | .leaf w _ => w
  | .n0 w => w
  | .n1 w _ => w
  | .n2 w _ _ => w
def Tr.kids : Tr → List Tr
  | .leaf _ _ => []
  | .n0 _ => []
  | .n1 _ a => [a]
  | .n2 _ a b => [a, b]
/-- the tree t is the value v -/
def At (H : Hp) : Tr → V → Prop
  | .leaf w x, v => ∃ p, v = .ref p ∧ H p = some (.tup [.str w, x])
  | .n0 w, v => ∃ p, v = .ref p ∧ H p = some (.tup [.str w])
  | .n1 w a, v => ∃ p y, v = .ref p ∧ H p = some (.tup [.str w, y]) ∧ At H a y
  | .n2 w a b, v => ∃ p y z, v = .ref p ∧ H p = some (.tup [.str w, y, z]) ∧ At H a y ∧ At H b z
theorem At.keep {H H' : Hp} (k : Tups H H') : ∀ {t : Tr} {v : V}, At H t v → At H' t v
  | .leaf _ _, _, ⟨p, e, h⟩ => ⟨p, e, k _ _ h⟩
  | .n0 _, _, ⟨p, e, h⟩ => ⟨p, e, k _ _ h⟩
  | .n1 _ _, _, ⟨p, y, e, h, a⟩ => ⟨p, y, e, k _ _ h, a.keep k⟩
  | .n2 _ _ _, _, ⟨p, y, z, e, h, a, b⟩ => ⟨p, y, z, e, k _ _ h, a.keep k, b.keep k⟩
/-- leaves by their words -/
def Tr.Ok : Tr → Prop
  | .leaf w x => leafy w = true ∧ ((∃ i, x = .int i) ∧ w ≠ "name" ∨ (∃ z, x = .str z) ∧ w = "name")
  | .n0 w => leafy w = false
  | .n1 w a => leafy w = false ∧ a.Ok
  | .n2 w a b => leafy w = false ∧ a.Ok ∧ b.Ok
/-- how far within one another -/
def Tr.deep : Tr → Nat
  | .leaf _ _ => 1
  | .n0 _ => 1
  | .n1 _ a => a.deep + 1
  | .n2 _ a b => max a.deep b.deep + 1
def Tr.size : Tr → Nat
  | .leaf _ _ => 1
  | .n0 _ => 1
  | .n1 _ a => a.size + 1
  | .n2 _ a b => a.size + b.size + 1
theorem size_deep : ∀ t : Tr, t.size + 1 ≤ 2 ^ t.deep
  | .leaf _ _ => Nat.le_refl _
  | .n0 _ => Nat.le_refl _
  | .n1 _ a => by
    have h := size_deep a
    have p : 2 ^ (a.deep + 1) = 2 ^ a.deep * 2 := Nat.pow_succ _ _
    show a.size + 1 + 1 ≤ 2 ^ (a.deep + 1)
    omega
  | .n2 _ a b => by
    have h := size_deep a
    have h2 := size_deep b
    have p : 2 ^ (max a.deep b.deep + 1) = 2 ^ (max a.deep b.deep) * 2 := Nat.pow_succ _ _
    have q1 : 2 ^ a.deep ≤ 2 ^ (max a.deep b.deep) := Nat.pow_le_pow_right (by decide) (Nat.le_max_left _ _)
    have q2 : 2 ^ b.deep ≤ 2 ^ (max a.deep b.deep) := Nat.pow_le_pow_right (by decide) (Nat.le_max_right _ _)
    show a.size + b.size + 1 + 1 ≤ 2 ^ (max a.deep b.deep + 1)
    omega
def Tr.names : Tr → List Str
  | .leaf w x => if w = "name" then (match x with | .str z => [z] | _ => []) else []
  | .n0 _ => []
  | .n1 _ a => a.names
  | .n2 _ a b => a.names ++ b.names
theorem names_size : ∀ t : Tr, t.names.length ≤ t.size
  | .leaf w x => by
    show (if w = "name" then (match x with | .str z => [z] | _ => []) else ([] : List Str)).length ≤ 1
    split
    · cases x <;> simp
    · simp
  | .n0 _ => Nat.zero_le _
  | .n1 _ a => Nat.le_succ_of_le (names_size a)
  | .n2 _ a b => by
    have h1 := names_size a
    have h2 := names_size b
    show (a.names ++ b.names).length ≤ a.size + b.size + 1
    rw [List.length_append]
    omega
/-! ### the pieces, parts ahead of the whole, from the left; each with how many all and some stand around it -/
def Tr.post : Tr → Nat → List (Tr × Nat)
  | .leaf w x, r => [(.leaf w x, r)]
  | .n0 w, r => [(.n0 w, r)]
  | .n1 w a, r => a.post (inner w r) ++ [(.n1 w a, r)]
  | .n2 w a b, r => a.post (inner w r) ++ b.post (inner w r) ++ [(.n2 w a b, r)]
theorem post_len : ∀ (t : Tr) (r : Nat), (t.post r).length = t.size
  | .leaf _ _, _ => rfl
  | .n0 _, _ => rfl
  | .n1 w a, r => by
    show (a.post _ ++ [_]).length = a.size + 1
    rw [List.length_append, post_len a]
    rfl
  | .n2 w a b, r => by
    show (a.post _ ++ b.post _ ++ [_]).length = a.size + b.size + 1
    rw [List.length_append, List.length_append, post_len a, post_len b]
    rfl
theorem post_kids (t : Tr) (r : Nat) : t.post r = (t.kids.flatMap fun a => a.post (inner t.word r)) ++ [(t, r)] := by
  cases t with
  | leaf w x => rfl
  | n0 w => rfl
  | n1 w a => simp [Tr.post, Tr.kids, Tr.word]
  | n2 w a b => simp [Tr.post, Tr.kids, Tr.word]
/-- what a whole list of pieces has for names -/
def leafName : Tr → List Str
  | .leaf w x => Tr.names (.leaf w x)
  | _ => []
theorem post_names : ∀ (t : Tr) (r : Nat), ((t.post r).flatMap fun (e : Tr × Nat) => leafName e.1) = t.names
  | .leaf w x, r => by simp [Tr.post, leafName]
  | .n0 w, r => by simp [Tr.post, leafName, Tr.names]
  | .n1 w a, r => by
    show ((a.post _ ++ [_]).flatMap fun (e : Tr × Nat) => leafName e.1) = a.names
    rw [List.flatMap_append, post_names a]
    simp [leafName]
  | .n2 w a b, r => by
    show ((a.post _ ++ b.post _ ++ [_]).flatMap fun (e : Tr × Nat) => leafName e.1) = a.names ++ b.names
    rw [List.flatMap_append, List.flatMap_append, post_names a, post_names b]
    simp [leafName]
theorem post_ok : ∀ (t : Tr) (r : Nat), t.Ok → ∀ e ∈ t.post r, e.1.Ok
  | .leaf w x, r, h, e, he => by
    rw [List.mem_singleton.mp he]
    exact h
  | .n0 w, r, h, e, he => by
    rw [List.mem_singleton.mp he]
    exact h
  | .n1 w a, r, h, e, he => by
    rcases List.mem_append.mp he with z | z
    · exact post_ok a _ h.2 e z
    · rw [List.mem_singleton.mp z]
      exact h
  | .n2 w a b, r, h, e, he => by
    rcases List.mem_append.mp he with z | z
    · rcases List.mem_append.mp z with z | z
      · exact post_ok a _ h.2.1 e z
      · exact post_ok b _ h.2.2 e z
    · rw [List.mem_singleton.mp z]
      exact h
theorem no_leaf {w : Str} (h : leafy w = false) (z : leafy w = true) : False := by
  rw [h] at z
  cases z
/-- a tree's own tuple -/
theorem At.view {H : Hp} {t : Tr} {v : V} (h : At H t v) (ok : t.Ok) : ∃ p vs, v = .ref p ∧ H p = some (.tup (.str t.word :: vs)) ∧ vs.length ≤ 2 ∧ (leafy t.word = false → All2 (At H) t.kids vs) ∧ (leafy t.word = true → ∃ x, t = .leaf t.word x ∧ vs = [x]) := by
  cases t with
  | leaf w x =>
    obtain ⟨p, e, h⟩ := h
    exact ⟨p, [x], e, h, Nat.le_succ 1, fun z => (no_leaf z ok.1).elim, fun _ => ⟨x, rfl, rfl⟩⟩
  | n0 w =>
    obtain ⟨p, e, h⟩ := h
    exact ⟨p, [], e, h, Nat.zero_le 2, fun _ => .nil, fun z => (no_leaf ok z).elim⟩
  | n1 w a =>
    obtain ⟨p, y, e, h, ha⟩ := h
    exact ⟨p, [y], e, h, Nat.le_succ 1, fun _ => .one ha, fun z => (no_leaf ok.1 z).elim⟩
  | n2 w a b =>
    obtain ⟨p, y, z, e, h, ha, hb⟩ := h
    exact ⟨p, [y, z], e, h, Nat.le_refl 2, fun _ => .cons ha (.one hb), fun q => (no_leaf ok.1 q).elim⟩
theorem kids_ok {t : Tr} (ok : t.Ok) : ∀ a ∈ t.kids, a.Ok := by
  cases t with
  | leaf w x => intro a h; cases h
  | n0 w => intro a h; cases h
  | n1 w a =>
    intro c h
    rw [List.mem_singleton.mp h]
    exact ok.2
  | n2 w a b =>
    intro c h
    rcases List.mem_cons.mp h with z | z
    · rw [z]
      exact ok.2.1
    · rw [List.mem_singleton.mp z]
      exact ok.2.2
/-! ### sorted lists of texts -/
theorem nodup_le : ∀ (ks ms : List Str), ks.Nodup → (∀ k ∈ ks, k ∈ ms) → ks.length ≤ ms.length
  | [], _, _, _ => Nat.zero_le _
  | k :: r, ms, nd, h => by
    obtain ⟨n1, n2⟩ := List.nodup_cons.mp nd
    have hk : k ∈ ms := h k List.mem_cons_self
    have q := nodup_le r (ms.erase k) n2 fun j hj => (List.mem_erase_of_ne (fun z : j = k => n1 (z ▸ hj))).mpr (h j (List.mem_cons_of_mem _ hj))
    rw [List.length_erase_of_mem hk] at q
    have pos : 0 < ms.length := List.length_pos_of_mem hk
    rw [List.length_cons]
    omega
def Le (a b : Str) : Prop := ltCps b.cps.toList a.cps.toList = false
theorem rising_pairs : ∀ (p : Str) (l : List Str), risingS p l = true → (∀ (a b c : Str), Le a b → Le b c → Le a c) → (p :: l).Pairwise Le
  | p, [], _, _ => List.pairwise_singleton _ _
  | p, x :: r, h, tr => by
    have h' : (!ltCps x.cps.toList p.cps.toList && risingS x r) = true := h
    rw [Bool.and_eq_true] at h'
    have q := rising_pairs x r h'.2 tr
    have px : Le p x := by
      unfold Le
      simpa using h'.1
    refine List.pairwise_cons.mpr ⟨fun y hy => ?_, q⟩
    rcases List.mem_cons.mp hy with z | z
    · rw [z]
      exact px
    · exact tr _ _ _ px (List.rel_of_pairwise_cons q z)
theorem le_iff (a b : Str) : Le a b ↔ a.cps.toList ≤ b.cps.toList := by
  unfold Le
  rw [ltCps_eq]
  simp
theorem le_trans3 (a b c : Str) (h1 : Le a b) (h2 : Le b c) : Le a c := by
  rw [le_iff] at *
  exact List.le_trans h1 h2
theorem le_anti (a b : Str) (h1 : Le a b) (h2 : Le b a) : a = b := by
  rw [le_iff] at *
  have q := List.le_antisymm h1 h2
  cases a with
  | mk x =>
    cases b with
    | mk y =>
      have q' : x.toList = y.toList := q
      rw [Array.toList_inj.mp q']
theorem one_order : ∀ (l m : List Str), l.Pairwise Le → m.Pairwise Le → l.Nodup → m.Nodup → (∀ x, x ∈ l ↔ x ∈ m) → l = m
  | [], [], _, _, _, _, _ => rfl
  | [], y :: m, _, _, _, _, h => by
    have := (h y).2 List.mem_cons_self
    cases this
  | x :: l, [], _, _, _, _, h => by
    have := (h x).1 List.mem_cons_self
    cases this
  | x :: l, y :: m, pl, pm, nl, nm, h => by
    obtain ⟨l1, l2⟩ := List.pairwise_cons.mp pl
    obtain ⟨m1, m2⟩ := List.pairwise_cons.mp pm
    obtain ⟨k1, k2⟩ := List.nodup_cons.mp nl
    obtain ⟨j1, j2⟩ := List.nodup_cons.mp nm
    have exy : x = y := by
      rcases List.mem_cons.mp ((h x).1 List.mem_cons_self) with z | z
      · exact z
      · rcases List.mem_cons.mp ((h y).2 List.mem_cons_self) with q | q
        · exact q.symm
        · exact le_anti _ _ (l1 y q) (m1 x z)
    subst exy
    rw [one_order l m l2 m2 k2 j2 fun z => ?_]
    constructor
    · intro hz
      rcases List.mem_cons.mp ((h z).1 (List.mem_cons_of_mem _ hz)) with e | e
      · exact absurd (e ▸ hz) k1
      · exact e
    · intro hz
      rcases List.mem_cons.mp ((h z).2 (List.mem_cons_of_mem _ hz)) with e | e
      · exact absurd (e ▸ hz) j1
      · exact e
theorem sorted_pairs : ∀ l : List Str, sortedS l = true → l.Pairwise Le
  | [], _ => List.Pairwise.nil
  | x :: r, h => rising_pairs x r h le_trans3
end Kf
set_option Elab.async false
set_option linter.all false
set_option maxRecDepth 100000
set_option maxHeartbeats 4000000
/-! The defs by which the law makes its inputs. -/
namespace Kf
open PySem PySem.Spec PyProof.Rows L2 Sx
def top (i : Nat) : Stmt := PySem.Challenge.pw_prooffruit_k04_worths_of_terms.main.body.getD i (.Pass ⟨0, 0, 0, 0⟩)
abbrev sFeed : Stmt := top 16
abbrev sTake : Stmt := top 17
abbrev sPick : Stmt := top 18
abbrev sLeaf : Stmt := top 19
theorem scFeed : FnScope ["script", "k", "seed", "digits"] ["script", "k"] (defScope sFeed) := ⟨rfl, rfl, rfl, by decide +kernel, rfl, by decide +kernel, by decide +kernel⟩
theorem scTake : FnScope ["feed", "many", "found"] ["feed", "many"] (defScope sTake) := ⟨rfl, rfl, rfl, by decide +kernel, rfl, by decide +kernel, by decide +kernel⟩
theorem scPick : FnScope ["feed", "some"] ["feed", "some"] (defScope sPick) := ⟨rfl, rfl, rfl, by decide +kernel, rfl, by decide +kernel, by decide +kernel⟩
theorem scLeaf : FnScope ["feed", "names", "around", "way"] ["feed", "names", "around"] (defScope sLeaf) := ⟨rfl, rfl, rfl, by decide +kernel, rfl, by decide +kernel, by decide +kernel⟩
/-- the feed at f: two numbers, the second below 2 ^ 61 - 1 -/
def FeedAt (H : Hp) (f : Addr) : Prop := ∃ a b : Int, H f = some (.lst [.int a, .int b]) ∧ 0 ≤ b ∧ b < 2305843009213693951
theorem FeedAt.keep {H H' : Hp} {f g : Addr} (h : FeedAt H f) (n : f ≠ g) (b : But g H H') : FeedAt H' f := by
  obtain ⟨x, y, e, q⟩ := h
  exact ⟨x, y, b _ _ n e, q⟩
theorem FeedAt.same {H H' : Hp} {f : Addr} (h : FeedAt H f) (b : Same H H') : FeedAt H' f := by
  obtain ⟨x, y, e, q⟩ := h
  exact ⟨x, y, b _ _ e, q⟩
theorem FeedAt.tups {H H' : Hp} {f : Addr} (h : FeedAt H f) (b : But f H H') : Tups H H' := by
  obtain ⟨x, y, e, q⟩ := h
  exact b.tups e
/-- a list of the call's own -/
theorem FeedAt.ne {H : Hp} {f p : Addr} (h : FeedAt H f) (e : H p = none) : p ≠ f := fun z => by
  obtain ⟨x, y, e2, q⟩ := h
  rw [z, e2] at e
  cases e
section
variable {P : Program} {w : World} {K : PySem.W.Frag} {mg : Str → Option Value} {base : Heap}
/-! ### _law_feed -/
def spFeed (K : PySem.W.Frag) : Sp := fun vs H Q _ => ∃ (a : Addr) (ns : List Int) (k : Nat), vs = [.ref a, .int (k : Int)] ∧ SqL K H a (ns.map V.int) ∧ (∀ z ∈ ns, Builtin.Int.intBits z ≤ 1048576) ∧ k ≤ 100 ∧
  ∀ p H', Same H H' → H p = none → FeedAt H' p → Q (.ref p) H'
theorem notM : (2305843009213693951 : Int) ≠ 0 := by decide
theorem modM (i : Int) : 0 ≤ i.fmod 2305843009213693951 ∧ i.fmod 2305843009213693951 < 2305843009213693951 := by
  rw [Int.fmod_eq_emod_of_nonneg _ (by decide)]
  exact ⟨Int.emod_nonneg _ (by decide), Int.emod_lt_of_pos _ (by decide)⟩
theorem seed_ok {z : Int} (h : Builtin.Int.intBits z ≤ 1048576) : CMulX z 6364136223846793005 := by
  unfold CMulX
  have e : Builtin.Int.intBits 6364136223846793005 = 63 := by decide +kernel
  rw [e]
  omega
theorem ok_feed {f : Addr} {fd : FuncData} {j : Nat} (F : Fun K "_law_feed" "_law_feed" sFeed f fd) (ml : mg "len" = none) (ma : mg "abs" = none) : FnOk P w K mg base CX0 (j + 1) f fd ["script", "k"] (spFeed K) := by
  refine F.ok scFeed (fun vs H Q E h => ?_) (fun cdv A outer s H vs Q E hr h => ?_)
  · obtain ⟨a, ns, k, rfl, _⟩ := h
    rfl
  obtain ⟨a, ns, k, rfl, hS, hb, hk, q⟩ := h
  refine ⟨_, pss_cons (ps_set (i := 2) scFeed.nd rfl (.inl rfl) (pe_op op_add (pe_op op_mul pe_int (pv 1)) pe_int))
    (pss_cons (ps_if (pt_cmpR op_lt (pv 1) (pe_callB call_len_seq (by rfl) ml PySem.boot_len (pa_cons (pv 0) pa_nil)) (nomark _)) (pss_one (ps_set (i := 2) scFeed.nd rfl (.inl rfl) (pe_ix ix_list (pv 0) (pv 1) (fun _ _ => rfl)))) pss_nil)
    (pss_cons (ps_set (i := 3) scFeed.nd rfl (.inl rfl) pe_int)
    (pss_cons (ps_if (pt_cmpR op_ge (pe_callB call_abs (by rfl) ma (by decide +kernel) (pa_cons (pv 2) pa_nil)) (pe_op op_pow pe_int pe_int) (nomark _)) (pss_one (ps_set (i := 3) scFeed.nd rfl (.inl rfl) (pe_op op_sub (pe_callB call_abs (by rfl) ma (by decide +kernel) (pa_cons (pv 2) pa_nil)) (pe_op op_pow pe_int pe_int)))) pss_nil)
    (pss_one (ps_ret (pe_lst (pa_cons (pv 3) (pa_cons (pe_op op_modN (pe_op op_add (pe_op op_add (pe_op op_mulX (pv 2) pe_int) (pe_op op_mul pe_int (pv 1))) pe_int) pe_int) pa_nil)))))))), ?_⟩
  refine ⟨_, rfl, _, _, rfl, rfl, .inl ⟨by decide, by decide⟩, _, _, rfl, rfl, ?_⟩
  refine ⟨_, rfl, _, rfl, a, _, rfl, .inl hS, _, _, rfl, rfl, _, rfl, ?_⟩
  have fin : ∀ (z d : Int), Builtin.Int.intBits z ≤ 1048576 → ∀ p, H p = none → Q (.ref p) (upd H p (.lst [.int d, .int ((z * 6364136223846793005 + 7919 * (k : Int) + 1442695040888963407).fmod 2305843009213693951)])) := fun z d _ p hp => by
    refine q p _ (same_new hp) hp ⟨_, _, upd_same, (modM _).1, (modM _).2⟩
  have two : ∀ (z : Int), Builtin.Int.intBits z ≤ 1048576 → CMulX z 6364136223846793005 ∧ CMul 7919 (k : Int) := fun z hz => ⟨seed_ok hz, .inl ⟨by decide, by decide⟩⟩
  refine ite2 (fun c => ?_) (fun c => ?_)
  · have c' : (k : Int) < (((ns.map V.int).length : Nat) : Int) := of_decide_eq_true c
    have lt : k < ns.length := by
      rw [List.length_map] at c'
      omega
    have item : atI (ns.map V.int) (k : Int) = some (.int ns[k]) := atI_nat (by rw [List.getElem?_map, List.getElem?_eq_getElem lt]; rfl)
    have hz := hb ns[k] (List.getElem_mem lt)
    refine ⟨_, rfl, _, rfl, a, _, _, _, rfl, rfl, hS, item, ?_⟩
    refine ⟨_, rfl, _, rfl, _, _, rfl, rfl, ⟨by decide, by decide, by decide⟩, _, _, rfl, rfl, _, rfl, ?_⟩
    refine ite2 (fun _ => ?_) (fun _ => ?_)
    · refine ⟨_, rfl, _, rfl, _, _, rfl, rfl, ⟨by decide, by decide, by decide⟩, _, _, rfl, rfl, ?_⟩
      exact ⟨_, rfl, _, rfl, _, _, rfl, rfl, (two _ hz).1, _, rfl, _, _, rfl, rfl, (two _ hz).2, _, _, rfl, rfl, _, _, rfl, rfl, _, _, rfl, rfl, notM, (by show 2 ≤ sizeLine; decide), fin _ _ hz⟩
    · exact ⟨_, rfl, _, rfl, _, _, rfl, rfl, (two _ hz).1, _, rfl, _, _, rfl, rfl, (two _ hz).2, _, _, rfl, rfl, _, _, rfl, rfl, _, _, rfl, rfl, notM, (by show 2 ≤ sizeLine; decide), fin _ _ hz⟩
  · have hz : Builtin.Int.intBits (67 * (k : Int) + 19) ≤ 1048576 := by
      refine Nat.le_trans (PyProof.Rows.intBits_le (k := 20) ?_) (by decide)
      have : (67 * (k : Int) + 19).natAbs ≤ 6719 := by omega
      exact Nat.lt_of_le_of_lt this (by decide)
    refine ⟨_, rfl, _, rfl, _, _, rfl, rfl, ⟨by decide, by decide, by decide⟩, _, _, rfl, rfl, _, rfl, ?_⟩
    refine ite2 (fun _ => ?_) (fun _ => ?_)
    · refine ⟨_, rfl, _, rfl, _, _, rfl, rfl, ⟨by decide, by decide, by decide⟩, _, _, rfl, rfl, ?_⟩
      exact ⟨_, rfl, _, rfl, _, _, rfl, rfl, (two _ hz).1, _, rfl, _, _, rfl, rfl, (two _ hz).2, _, _, rfl, rfl, _, _, rfl, rfl, _, _, rfl, rfl, notM, (by show 2 ≤ sizeLine; decide), fin _ _ hz⟩
    · exact ⟨_, rfl, _, rfl, _, _, rfl, rfl, (two _ hz).1, _, rfl, _, _, rfl, rfl, (two _ hz).2, _, _, rfl, rfl, _, _, rfl, rfl, _, _, rfl, rfl, notM, (by show 2 ≤ sizeLine; decide), fin _ _ hz⟩
/-! ### _law_take -/
def spTake : Sp := fun vs H Q _ => ∃ (f : Addr) (many : Int), vs = [.ref f, .int many] ∧ 0 < many ∧ many.natAbs < 2 ^ 200 ∧ FeedAt H f ∧
  ∀ (r : Int) H', 0 ≤ r → r < many → But f H H' → FeedAt H' f → Q (.int r) H'
theorem mod_in {i m : Int} (h : 0 < m) : 0 ≤ i.fmod m ∧ i.fmod m < m := by
  rw [Int.fmod_eq_emod_of_nonneg _ (Int.le_of_lt h)]
  exact ⟨Int.emod_nonneg _ (Int.ne_of_gt h), Int.emod_lt_of_pos _ h⟩
theorem ok_take {f : Addr} {fd : FuncData} {j : Nat} (F : Fun K "_law_take" "_law_take" sTake f fd) : FnOk P w K mg base CX0 (j + 1) f fd ["feed", "many"] spTake := by
  refine F.ok scTake (fun vs H Q E h => ?_) (fun cdv A outer s H vs Q E hr h => ?_)
  · obtain ⟨a, m, rfl, _⟩ := h
    rfl
  obtain ⟨f, m, rfl, pos, small, ⟨x, y, hf, y0, y1⟩, q⟩ := h
  refine ⟨_, pss_cons (ps_if (pt_cmpR op_gt (pe_ix ix_list (pv 0) pe_int (fun _ _ => rfl)) pe_int (nomark _))
      (pss_cons (ps_set (i := 2) scTake.nd rfl (.inl rfl) (pe_op op_modN (pe_ix ix_list (pv 0) pe_int (fun _ _ => rfl)) (pv 1)))
      (pss_cons (ps_asg (pe_op op_fdivW (pe_ix ix_list (pv 0) pe_int (fun _ _ => rfl)) (pv 1)) (pg_sub (pv 0) pe_int set_list)) (pss_one (ps_ret (pv 2))))) pss_nil)
    (pss_cons (ps_asg (pe_op op_modN (pe_op op_add (pe_op op_mul (pe_ix ix_list (pv 0) pe_int (fun _ _ => rfl)) pe_int) pe_int) pe_int) (pg_sub (pv 0) pe_int set_list))
    (pss_one (ps_ret (pe_op op_modN (pe_op op_fdiv (pe_ix ix_list (pv 0) pe_int (fun _ _ => rfl)) pe_int) (pv 1))))), ?_⟩
  have s0 : SqL K H f [.int x, .int y] := .inl (.inl hf)
  refine ⟨_, rfl, f, _, 0, .int x, rfl, rfl, s0, rfl, _, _, rfl, rfl, _, rfl, ?_⟩
  refine ite2 (fun c => ?_) (fun c => ?_)
  · refine ⟨_, rfl, f, _, 0, .int x, rfl, rfl, s0, rfl, _, rfl, _, _, rfl, rfl, Int.ne_of_gt pos, ?_⟩
    refine ⟨_, rfl, f, _, 0, .int x, rfl, rfl, s0, rfl, _, rfl, _, _, rfl, rfl, wide_div pos small (by decide) (by decide), ?_⟩
    refine ⟨_, rfl, f, _, 0, 0, rfl, rfl, hf, rfl, _, rfl, ?_⟩
    exact q _ _ (mod_in pos).1 (mod_in pos).2 ((But.refl f H).own) ⟨_, _, upd_same, y0, y1⟩
  · refine ⟨_, rfl, f, _, 1, .int y, rfl, rfl, s0, rfl, _, _, rfl, rfl, .inr ⟨by decide, by decide⟩, _, _, rfl, rfl, _, _, rfl, rfl, notM, ?_⟩
    refine ⟨_, rfl, f, _, 1, 1, rfl, rfl, hf, rfl, ?_⟩
    refine ⟨_, rfl, f, _, 1, _, rfl, rfl, .inl (.inl upd_same), rfl, _, _, rfl, rfl, ⟨by decide, by decide⟩, _, rfl, _, _, rfl, rfl, Int.ne_of_gt pos, ?_⟩
    exact q _ _ (mod_in pos).1 (mod_in pos).2 ((But.refl f H).own) ⟨_, _, upd_same, (modM _).1, (modM _).2⟩
/-! ### _law_pick -/
theorem atI_in {α : Type} {xs : List α} {r : Int} (h0 : 0 ≤ r) (h1 : r < (xs.length : Int)) : ∃ x ∈ xs, atI xs r = some x := by
  have lt : r.toNat < xs.length := by omega
  have er : ((r.toNat : Nat) : Int) = r := by omega
  have q : atI xs ((r.toNat : Nat) : Int) = some xs[r.toNat] := atI_nat (List.getElem?_eq_getElem lt)
  rw [er] at q
  exact ⟨_, List.getElem_mem lt, q⟩
/-- from a list -/
def spPick (K : PySem.W.Frag) : Sp := fun vs H Q _ => ∃ (f l : Addr) (xs : List V), vs = [.ref f, .ref l] ∧ l ≠ f ∧ SqL K H l xs ∧ 0 < xs.length ∧ xs.length ≤ 1000 ∧ FeedAt H f ∧
  ∀ x ∈ xs, ∀ H', But f H H' → FeedAt H' f → Q x H'
theorem seq_but {K : PySem.W.Frag} {f l : Addr} {H H' : Hp} {xs : List V} (n : l ≠ f) (b : But f H H') (h : SqL K H l xs) : SqL K H' l xs := by
  rcases h with (h | ⟨o, h⟩) | h
  · exact .inl (.inl (b _ _ n h))
  · exact .inl (.inr ⟨o, b _ _ n h⟩)
  · exact .inr h
theorem len200 {n : Nat} (h : n ≤ 1000) : ((n : Nat) : Int).natAbs < 2 ^ 200 := Nat.lt_of_le_of_lt (by rw [Int.natAbs_natCast]; exact h) (by decide)
theorem ok_pick {f g : Addr} {fd gd : FuncData} {j : Nat} (F : Fun K "_law_pick" "_law_pick" sPick f fd) (G : FnOk P w K mg base CX0 (j + 1) g gd ["feed", "many"] spTake) (bG : Binds K gd ["feed", "many"] []) (kG : PySem.W.keepIn K (.ref g) = true) (mG : mg "_law_take" = some (.ref g)) (ml : mg "len" = none) :
    FnOk P w K mg base CX0 (j + 2) f fd ["feed", "some"] (spPick K) := by
  refine F.ok scPick (fun vs H Q E h => ?_) (fun cdv A outer s H vs Q E hr h => ?_)
  · obtain ⟨a, l, xs, rfl, _⟩ := h
    rfl
  obtain ⟨f, l, xs, rfl, apart, hS, pos, few, hF, q⟩ := h
  refine ⟨_, pss_one (ps_ret (pe_ix ix_list (pv 1) (pe_call G hr (by rfl) mG kG bG .nil pass0 (pa_cons (pv 0) (pa_cons (pe_callB call_len_seq (by rfl) ml PySem.boot_len (pa_cons (pv 1) pa_nil)) pa_nil))) (fun _ _ => rfl))), ?_⟩
  refine ⟨_, rfl, _, rfl, _, rfl, l, xs, rfl, .inl hS, f, _, rfl, (by omega), len200 few, hF, fun r H' r0 r1 b hF' => ?_⟩
  obtain ⟨x, hx, item⟩ := atI_in r0 r1
  exact ⟨l, xs, r, _, rfl, rfl, seq_but apart b hS, item, q _ hx H' b hF'⟩
/-- from a text -/
def spPickS : Sp := fun vs H Q _ => ∃ (f : Addr) (z : Str), vs = [.ref f, .str z] ∧ 0 < z.length ∧ z.length ≤ 1000 ∧ FeedAt H f ∧ ∀ c ∈ z.cps.toList, ∀ H', But f H H' → FeedAt H' f → Q (.str ⟨#[c]⟩) H'
theorem ok_pickS {f g : Addr} {fd gd : FuncData} {j : Nat} (F : Fun K "_law_pick" "_law_pick" sPick f fd) (G : FnOk P w K mg base CX0 (j + 1) g gd ["feed", "many"] spTake) (bG : Binds K gd ["feed", "many"] []) (kG : PySem.W.keepIn K (.ref g) = true) (mG : mg "_law_take" = some (.ref g)) (ml : mg "len" = none) :
    FnOk P w K mg base CX0 (j + 2) f fd ["feed", "some"] spPickS := by
  refine F.ok scPick (fun vs H Q E h => ?_) (fun cdv A outer s H vs Q E hr h => ?_)
  · obtain ⟨a, z, rfl, _⟩ := h
    rfl
  obtain ⟨f, z, rfl, pos, few, hF, q⟩ := h
  refine ⟨_, pss_one (ps_ret (pe_ix ix_str (pv 1) (pe_call G hr (by rfl) mG kG bG .nil pass0 (pa_cons (pv 0) (pa_cons (pe_callB call_len_str (by rfl) ml PySem.boot_len (pa_cons (pv 1) pa_nil)) pa_nil))) (fun _ _ => rfl))), ?_⟩
  have line : z.length ≤ sizeLine := Nat.le_trans few (by decide)
  refine ⟨_, rfl, _, rfl, _, rfl, z, rfl, line, f, _, rfl, (by omega), len200 few, hF, fun r H' r0 r1 b hF' => ?_⟩
  have ln : z.cps.toList.length = z.length := Array.length_toList
  obtain ⟨x, hx, item⟩ := atI_in (xs := z.cps.toList) r0 (by omega)
  exact ⟨z, r, _, rfl, rfl, line, item, q _ hx H' b hF'⟩
end
end Kf
set_option Elab.async false
set_option linter.all false
set_option maxRecDepth 100000
set_option maxHeartbeats 4000000
/-! The terms and sayings that the law makes. -/
namespace Kf
open PySem PySem.Spec PyProof.Rows L2 Sx
abbrev sTerm : Stmt := top 20
theorem scTerm : FnScope ["feed", "deep", "names", "around", "word", "one"] ["feed", "deep", "names", "around"] (defScope sTerm) := ⟨rfl, rfl, rfl, by decide +kernel, rfl, by decide +kernel, by decide +kernel⟩
/-! ### lists of texts as data -/
abbrev NmOk (z : Str) : Prop := z.cps.all (· < 0x110000) = true
theorem dp_strs {K : PySem.W.Frag} {H : Hp} {a : Addr} {ns : List Str} (h : SqL K H a (ns.map V.str)) : Dp K H (.ref a) (.list (ns.map PyData.str)) := by
  refine .lst h ?_
  clear h
  induction ns with
  | nil => exact .nil
  | cons x r ih => exact .cons (.str x) ih
theorem eqv_strs : ∀ xs ys : List Str, PyData.eqvAll (xs.map .str) (ys.map .str) = decide (xs = ys)
  | [], [] => rfl
  | [], _ :: _ => rfl
  | _ :: _, [] => rfl
  | x :: xs, y :: ys => by
    show (x == y && PyData.eqvAll (xs.map .str) (ys.map .str)) = decide (x :: xs = y :: ys)
    rw [eqv_strs xs ys]
    by_cases e : x = y
    · subst e
      simp
    · have e2 : (x == y) = false := beq_eq_false_iff_ne.mpr e
      rw [e2]
      simp [e]
theorem lay_strs : ∀ ns : List Str, (∀ z ∈ ns, NmOk z) → PyData.canLayAll0 (ns.map .str) = true ∧ PyData.depthAll (ns.map .str) = 0
  | [], _ => ⟨rfl, rfl⟩
  | z :: r, h => by
    obtain ⟨h1, h2⟩ := lay_strs r fun y hy => h y (List.mem_cons_of_mem _ hy)
    have hz : z.cps.all (· < 0x110000) = true := h z List.mem_cons_self
    refine ⟨?_, ?_⟩
    · show (z.cps.all (· < 0x110000) && PyData.canLayAll0 (r.map .str)) = true
      rw [hz, h1]
      rfl
    · show max 0 (PyData.depthAll (r.map .str)) = 0
      rw [h2]
      rfl
theorem shaped_strs {ns : List Str} (h : ∀ z ∈ ns, NmOk z) : SeqAt.shaped (.list (ns.map .str)) = true := by
  obtain ⟨h1, h2⟩ := lay_strs ns h
  show (PyData.canLayAll0 (ns.map .str) && decide (PyData.depthAll (ns.map .str) + 1 ≤ 64)) = true
  rw [h1, h2]
  rfl
/-! ### what the law makes -/
/-- numbers and bounds that may stand where r of all and some stand around -/
def Tr.In : Tr → Int → Prop
  | .leaf w x, r => (w = "num" ∧ ∃ n : Int, x = .int n ∧ 0 ≤ n ∧ n < 10 ^ 60) ∨ (w = "name" ∧ ∃ z, x = .str z) ∨ (w = "bound" ∧ ∃ k : Int, x = .int k ∧ 0 ≤ k ∧ k < r)
  | .n0 _, _ => True
  | .n1 w a, r => a.In (if binds w = true then r + 1 else r)
  | .n2 w a b, r => binds w = false ∧ a.In r ∧ b.In r
/-- a term -/
def Tr.Not : Tr → Prop
  | .leaf _ _ => True
  | .n0 _ => False
  | .n1 w a => w = "next" ∧ a.Not
  | .n2 w a b => (w = "plus" ∨ w = "times") ∧ a.Not ∧ b.Not
/-- the names' list -/
structure NmAt (H : Hp) (l : Addr) (ns : List Str) : Prop where
  at_ : H l = some (.lst (ns.map V.str))
  few : ns.length ≤ 60
  ok : ∀ z ∈ ns, NmOk z
theorem NmAt.keep {H H' : Hp} {f l : Addr} {ns : List Str} (h : NmAt H l ns) (n : l ≠ f) (b : But f H H') : NmAt H' l ns := ⟨b _ _ n h.at_, h.few, h.ok⟩
theorem NmAt.same {H H' : Hp} {l : Addr} {ns : List Str} (h : NmAt H l ns) (b : Same H H') : NmAt H' l ns := ⟨b _ _ h.at_, h.few, h.ok⟩
/-- a made tree -/
structure Made (ns : List Str) (r : Int) (d : Nat) (t : Tr) : Prop where
  ok : t.Ok
  inn : t.In r
  dp : t.deep ≤ d
  nm : ∀ z ∈ t.names, z ∈ ns
  no : t.Not
theorem made_num {ns : List Str} {r n : Int} (h0 : 0 ≤ n) (h1 : n < 10 ^ 60) : Made ns r 1 (.leaf "num" (.int n)) :=
  ⟨⟨by decide +kernel, .inl ⟨⟨n, rfl⟩, by decide +kernel⟩⟩, .inl ⟨rfl, n, rfl, h0, h1⟩, Nat.le_refl 1, fun z hz => by
    rw [show (Tr.leaf "num" (.int n)).names = [] from if_neg (by decide +kernel)] at hz
    exact (List.not_mem_nil hz).elim, trivial⟩
theorem made_name {ns : List Str} {r : Int} {x : Str} (h : x ∈ ns) : Made ns r 1 (.leaf "name" (.str x)) :=
  ⟨⟨by decide +kernel, .inr ⟨⟨x, rfl⟩, rfl⟩⟩, .inr (.inl ⟨rfl, x, rfl⟩), Nat.le_refl 1, fun z hz => by
    rw [show (Tr.leaf "name" (.str x)).names = [x] from if_pos rfl] at hz
    rw [List.mem_singleton.mp hz]
    exact h, trivial⟩
theorem made_bound {ns : List Str} {r k : Int} (h0 : 0 ≤ k) (h1 : k < r) : Made ns r 1 (.leaf "bound" (.int k)) :=
  ⟨⟨by decide +kernel, .inl ⟨⟨k, rfl⟩, by decide +kernel⟩⟩, .inr (.inr ⟨rfl, k, rfl, h0, h1⟩), Nat.le_refl 1, fun z hz => by
    rw [show (Tr.leaf "bound" (.int k)).names = [] from if_neg (by decide +kernel)] at hz
    exact (List.not_mem_nil hz).elim, trivial⟩
theorem Made.up {ns : List Str} {r : Int} {d e : Nat} {t : Tr} (h : Made ns r d t) (le : d ≤ e) : Made ns r e t := ⟨h.ok, h.inn, Nat.le_trans h.dp le, h.nm, h.no⟩
theorem made_one {ns : List Str} {r r2 : Int} {d : Nat} {w : Str} {a : Tr} (hw : leafy w = false) (hn : w = "next") (hr : (if binds w = true then r + 1 else r) = r2) (h : Made ns r2 d a) : Made ns r (d + 1) (.n1 w a) :=
  ⟨⟨hw, h.ok⟩, by show a.In _; rw [hr]; exact h.inn, Nat.succ_le_succ h.dp, h.nm, ⟨hn, h.no⟩⟩
theorem made_two {ns : List Str} {r : Int} {d : Nat} {w : Str} {a b : Tr} (hw : leafy w = false) (hn : w = "plus" ∨ w = "times") (hb : binds w = false) (h : Made ns r d a) (g : Made ns r d b) : Made ns r (d + 1) (.n2 w a b) :=
  ⟨⟨hw, h.ok, g.ok⟩, ⟨hb, h.inn, g.inn⟩, Nat.succ_le_succ (Nat.max_le.mpr ⟨h.dp, g.dp⟩), fun z hz => (List.mem_append.mp hz).elim (h.nm z) (g.nm z), ⟨hn, h.no, g.no⟩⟩
/-- what is promised of a made tree -/
def Out (f : Addr) (H : Hp) (ns : List Str) (r : Int) (d : Nat) (Q : VK) : Prop := ∀ t v H', Made ns r d t → At H' t v → But f H H' → FeedAt H' f → Q v H'
/-- what stands behind several ways, shown once -/
theorem join {C G : Hp → Prop} {M : Prop} (main : (∀ H, C H → G H) → M) (rest : ∀ H, C H → G H) : M := main rest
section
variable {P : Program} {w : World} {K : PySem.W.Frag} {mg : Str → Option Value} {base : Heap}
def spLeaf : Sp := fun vs H Q _ => ∃ (f l : Addr) (ns : List Str) (r : Int), vs = [.ref f, .ref l, .int r] ∧ l ≠ f ∧ NmAt H l ns ∧ r ≤ 1000 ∧ FeedAt H f ∧ Out f H ns r 1 Q
/-- the defs that draw -/
structure Draw (P : Program) (w : World) (K : PySem.W.Frag) (mg : Str → Option Value) (base : Heap) (ft fp : Addr) (dt dp : FuncData) : Prop where
  T : FnOk P w K mg base CX0 1 ft dt ["feed", "many"] spTake
  bT : Binds K dt ["feed", "many"] []
  kT : PySem.W.keepIn K (.ref ft) = true
  mT : mg "_law_take" = some (.ref ft)
  Pk : FnOk P w K mg base CX0 2 fp dp ["feed", "some"] (spPick K)
  Ps : FnOk P w K mg base CX0 2 fp dp ["feed", "some"] spPickS
  bP : Binds K dp ["feed", "some"] []
  kP : PySem.W.keepIn K (.ref fp) = true
  mP : mg "_law_pick" = some (.ref fp)
theorem few1000 {n : Int} (h0 : 0 < n) (h : n ≤ 1000) : n.natAbs < 2 ^ 200 := Nat.lt_of_le_of_lt (show n.natAbs ≤ 1000 by omega) (by decide)
theorem ok_leaf {f ft fp : Addr} {fd dt dp : FuncData} (F : Fun K "_law_leaf" "_law_leaf" sLeaf f fd) (D : Draw P w K mg base ft fp dt dp) : FnOk P w K mg base CX0 3 f fd ["feed", "names", "around"] spLeaf := by
  refine F.ok scLeaf (fun vs H Q E h => ?_) (fun cdv A outer s H vs Q E hr h => ?_)
  · obtain ⟨a, l, ns, r, rfl, _⟩ := h
    rfl
  obtain ⟨f, l, ns, r, rfl, apart, hN, r1, hF, q⟩ := h
  have h1 : Room 1 _ := hr.mono (by decide)
  refine ⟨_, pss_cons (ps_set (i := 3) scLeaf.nd rfl (.inl rfl) (pe_call D.T h1 (by rfl) D.mT D.kT D.bT .nil pass0 (pa_cons (pv 0) (pa_cons pe_int pa_nil))))
    (pss_cons (ps_if (PW.pt (pw_and (pt_cmpR op_lt (pv 3) pe_int (nomark _)) (pw_and1 (pt_cmpR (op_neD hr.units) (pv 1) (pe_lst pa_nil) (nomark _)))))
      (pss_one (ps_ret (pe_tup (pa_cons pe_str (pa_cons (pe_call D.Pk hr (by rfl) D.mP D.kP D.bP .nil pass0 (pa_cons (pv 0) (pa_cons (pv 1) pa_nil))) pa_nil))))) pss_nil)
    (pss_cons (ps_if (PW.pt (pw_and (pt_cmpR op_lt (pv 3) pe_int (nomark _)) (pw_and1 (pt_cmpR op_gt (pv 2) pe_int (nomark _)))))
      (pss_one (ps_ret (pe_tup (pa_cons pe_str (pa_cons (pe_call D.T h1 (by rfl) D.mT D.kT D.bT .nil pass0 (pa_cons (pv 0) (pa_cons (pv 2) pa_nil))) pa_nil))))) pss_nil)
    (pss_one (ps_ret (pe_tup (pa_cons pe_str (pa_cons (pe_call D.Pk hr (by rfl) D.mP D.kP D.bP .nil pass0 (pa_cons (pv 0) (pa_cons
      (pe_lst (pa_cons pe_int (pa_cons pe_int (pa_cons pe_int (pa_cons (pe_call D.T h1 (by rfl) D.mT D.kT D.bT .nil pass0 (pa_cons (pv 0) (pa_cons pe_int pa_nil)))
        (pa_cons (pe_call D.T h1 (by rfl) D.mT D.kT D.bT .nil pass0 (pa_cons (pv 0) (pa_cons (pe_op op_pow pe_int pe_int) pa_nil))) (pa_cons (pe_op op_sub (pe_op op_pow pe_int pe_int) pe_int) pa_nil))))))) pa_nil))) pa_nil))))))), ?_⟩
  refine ⟨_, rfl, f, 8, rfl, by decide, by decide, hF, fun way H1 _ _ b1 hF1 => ?_⟩
  apply join (C := fun H2 => But f H H2 ∧ FeedAt H2 f)
  · intro rest
    refine ⟨_, rfl, _, _, rfl, rfl, _, rfl, ?_⟩
    refine ite2 (fun _ => ?_) (fun _ => iteF (rest H1 ⟨b1, hF1⟩))
    refine ⟨_, rfl, Nat.zero_le _, fun e he => ?_⟩
    have hN1 := hN.keep apart b1
    have bb : But f H (upd H1 e (.lst [])) := b1.new he
    have hF2 : FeedAt (upd H1 e (.lst [])) f := hF1.same (same_new he)
    have hN2 : NmAt (upd H1 e (.lst [])) l ns := hN.keep apart bb
    have d0 : Dp K (upd H1 e (.lst [])) (.ref e) (.list (([] : List Str).map PyData.str)) := dp_strs (ns := []) (.inl (.inl upd_same))
    refine ⟨_, _, dp_strs (.inl (.inl hN2.at_)), d0, shaped_strs hN2.ok, shaped_strs (fun z hz => by cases hz), _, rfl, ?_⟩
    show if (!PyData.eqvAll (ns.map .str) (([] : List Str).map .str)) = true then _ else _
    rw [eqv_strs]
    by_cases en : ns = []
    · rw [decide_eq_true en]
      exact iteF (rest _ ⟨bb, hF2⟩)
    · rw [decide_eq_false en]
      refine iteT ?_
      have pos : 0 < (ns.map V.str).length := by
        rw [List.length_map]
        exact List.length_pos_iff.mpr en
      refine ⟨_, rfl, _, rfl, f, l, _, rfl, apart, .inl (.inl hN2.at_), pos, (by rw [List.length_map]; exact Nat.le_trans hN2.few (by decide)), hF2, fun x hx H3 b3 hF3 => ?_⟩
      obtain ⟨z, hz, rfl⟩ := List.mem_map.mp hx
      refine ⟨(by show 2 ≤ sizeLine; decide), fun p hp => ?_⟩
      exact q _ _ _ (made_name hz) ⟨p, rfl, upd_same⟩ ((bb.trans b3).new hp) (hF3.same (same_new hp))
  · intro H2 ⟨b2, hF2⟩
    apply join (C := fun H2 => But f H H2 ∧ FeedAt H2 f)
    · intro last
      refine ⟨_, rfl, _, _, rfl, rfl, _, rfl, ?_⟩
      refine ite2 (fun _ => ?_) (fun _ => iteF (last H2 ⟨b2, hF2⟩))
      refine ⟨_, rfl, _, _, rfl, rfl, _, rfl, ?_⟩
      refine ite2 (fun c => ?_) (fun _ => last H2 ⟨b2, hF2⟩)
      have pos : 0 < r := of_decide_eq_true c
      refine ⟨_, rfl, _, rfl, f, r, rfl, pos, few1000 pos r1, hF2, fun k H3 k0 k1 b3 hF3 => ?_⟩
      refine ⟨(by show 2 ≤ sizeLine; decide), fun p hp => ?_⟩
      exact q _ _ _ (made_bound k0 k1) ⟨p, rfl, upd_same⟩ ((b2.trans b3).new hp) (hF3.same (same_new hp))
    · intro H3 ⟨b3, hF3⟩
      refine ⟨_, rfl, _, rfl, f, 7, rfl, by decide, by decide, hF3, fun k H4 k0 k1 b4 hF4 => ?_⟩
      refine ⟨_, rfl, _, _, rfl, rfl, ⟨by decide, by decide, by decide⟩, f, _, rfl, by decide, by decide +kernel, hF4, fun k2 H5 k20 k21 b5 hF5 => ?_⟩
      refine ⟨_, _, rfl, rfl, ⟨by decide, by decide, by decide⟩, _, _, rfl, rfl, (by show 6 ≤ sizeLine; decide), fun g hg => ?_⟩
      have bb : But f H (upd H5 g (.lst [.int 0, .int 1, .int 2, .int k, .int k2, .int (10 ^ (60 : Int).toNat - 1)])) := (((b3.trans b4).trans b5).new hg)
      refine ⟨f, g, _, rfl, hF5.ne hg, .inl (.inl upd_same), (by show 0 < 6; decide), (by show 6 ≤ 1000; decide), hF5.same (same_new hg), fun x hx H6 b6 hF6 => ?_⟩
      have nm : ∃ n : Int, x = .int n ∧ 0 ≤ n ∧ n < 10 ^ 60 := by
        have k2b : k2 < 10 ^ 30 := k21
        rcases List.mem_cons.mp hx with e | hx
        · exact ⟨0, e, by decide, by decide⟩
        rcases List.mem_cons.mp hx with e | hx
        · exact ⟨1, e, by decide, by decide⟩
        rcases List.mem_cons.mp hx with e | hx
        · exact ⟨2, e, by decide, by decide⟩
        rcases List.mem_cons.mp hx with e | hx
        · exact ⟨k, e, k0, by omega⟩
        rcases List.mem_cons.mp hx with e | hx
        · exact ⟨k2, e, k20, by omega⟩
        · exact ⟨_, List.mem_singleton.mp hx, by decide, by decide⟩
      obtain ⟨n, rfl, n0, n1⟩ := nm
      refine ⟨(by show 2 ≤ sizeLine; decide), fun p hp => ?_⟩
      exact q _ _ _ (made_num n0 n1) ⟨p, rfl, upd_same⟩ ((bb.trans b6).new hp) (hF6.same (same_new hp))
/-! ### _law_term -/
def spTerm (n : Nat) : Sp := fun vs H Q _ => ∃ (f l : Addr) (ns : List Str) (r : Int) (d : Nat), vs = [.ref f, .int (d : Int), .ref l, .int r] ∧ d + 1 ≤ n ∧ l ≠ f ∧ NmAt H l ns ∧ r ≤ 1000 ∧ FeedAt H f ∧ Out f H ns r (d + 1) Q
theorem words3 : ∀ x ∈ ([.str "next", .str "plus", .str "times"] : List V), ∃ wd : Str, x = .str wd ∧ leafy wd = false ∧ binds wd = false ∧ (wd = "next" ∨ wd = "plus" ∨ wd = "times") := by
  intro x hx
  rcases List.mem_cons.mp hx with e | hx
  · exact ⟨_, e, by decide +kernel, by decide +kernel, by decide +kernel⟩
  rcases List.mem_cons.mp hx with e | hx
  · exact ⟨_, e, by decide +kernel, by decide +kernel, by decide +kernel⟩
  · exact ⟨_, List.mem_singleton.mp hx, by decide +kernel, by decide +kernel, by decide +kernel⟩
theorem no_calls {f : Addr} {fd : FuncData} {k : Nat} {ps : List Str} {sp : Sp} (no : ∀ vs H Q E, ¬ sp vs H Q E) : FnOk P w K mg base CX0 k f fd ps sp :=
  ⟨fun vs H Q E h => absurd h (no vs H Q E), fun A outer s H args us vs Q E _ _ _ _ h => absurd h (no vs H Q E)⟩
theorem ok_term {f ft fp fl : Addr} {fd dt dp dl : FuncData} {n : Nat} (F : Fun K "_law_term" "_law_term" sTerm f fd) (D : Draw P w K mg base ft fp dt dp)
    (L : FnOk P w K mg base CX0 3 fl dl ["feed", "names", "around"] spLeaf) (bL : Binds K dl ["feed", "names", "around"] []) (kL : PySem.W.keepIn K (.ref fl) = true) (mL : mg "_law_leaf" = some (.ref fl))
    (S : FnOk P w K mg base CX0 (3 + n) f fd ["feed", "deep", "names", "around"] (spTerm n)) (bS : Binds K fd ["feed", "deep", "names", "around"] []) (mS : mg "_law_term" = some (.ref f)) :
    FnOk P w K mg base CX0 (3 + n + 1) f fd ["feed", "deep", "names", "around"] (spTerm (n + 1)) := by
  refine F.ok scTerm (fun vs H Q E h => ?_) (fun cdv A outer s H vs Q E hr h => ?_)
  · obtain ⟨a, l, ns, r, d, rfl, _⟩ := h
    rfl
  obtain ⟨f, l, ns, r, d, rfl, dn, apart, hN, r1, hF, q⟩ := h
  have h1 : Room 1 _ := hr.mono (by omega)
  have h2 : Room 2 _ := hr.mono (by omega)
  have h3 : Room 3 _ := hr.mono (by omega)
  refine ⟨_, pss_cons (ps_if (PW.pt (pw_or (pt_cmpR op_eq (pv 1) pe_int (nomark _)) (pw_or1 (pt_cmpR op_eq (pe_call D.T h1 (by rfl) D.mT D.kT D.bT .nil pass0 (pa_cons (pv 0) (pa_cons pe_int pa_nil))) pe_int (nomark _)))))
      (pss_one (ps_ret (pe_call L h3 (by rfl) mL kL bL .nil pass0 (pa_cons (pv 0) (pa_cons (pv 2) (pa_cons (pv 3) pa_nil)))))) pss_nil)
    (pss_cons (ps_set (i := 4) scTerm.nd rfl (.inl rfl) (pe_call D.Pk h2 (by rfl) D.mP D.kP D.bP .nil pass0 (pa_cons (pv 0) (pa_cons (pe_lst (pa_cons pe_str (pa_cons pe_str (pa_cons pe_str pa_nil)))) pa_nil))))
    (pss_cons (ps_set (i := 5) scTerm.nd rfl (.inl rfl) (pe_call S hr (by rfl) mS F.kp bS .nil pass0 (pa_cons (pv 0) (pa_cons (pe_op op_sub (pv 1) pe_int) (pa_cons (pv 2) (pa_cons (pv 3) pa_nil))))))
    (pss_cons (ps_if (pt_cmpR op_eq (pv 4) pe_str (nomark _)) (pss_one (ps_ret (pe_tup (pa_cons (pv 4) (pa_cons (pv 5) pa_nil))))) pss_nil)
    (pss_one (ps_ret (pe_tup (pa_cons (pv 4) (pa_cons (pv 5) (pa_cons (pe_call S hr (by rfl) mS F.kp bS .nil pass0 (pa_cons (pv 0) (pa_cons (pe_op op_sub (pv 1) pe_int) (pa_cons (pv 2) (pa_cons (pv 3) pa_nil))))) pa_nil))))))))), ?_⟩
  -- a leaf, at any heap behind
  have leaf : ∀ H1 : Hp, But f H H1 → FeedAt H1 f → Out f H1 ns r 1 Q := fun H1 b1 _ t v H' m a b hF' => q t v H' (m.up (by omega)) a (b1.trans b) hF'
  refine ⟨_, rfl, rfl, _, rfl, ?_⟩
  refine ite2 (fun c => ?_) (fun c => ?_)
  · exact iteT ⟨_, rfl, _, rfl, _, rfl, f, l, ns, r, rfl, apart, hN, r1, hF, leaf H (But.refl f H) hF⟩
  have dpos : 0 < d := by
    rcases Nat.eq_zero_or_pos d with e | e
    · exact absurd (show decide (V.int (d : Int) = V.int 0) = true from decide_eq_true (by rw [e]; rfl)) c
    · exact e
  refine ⟨_, rfl, f, 3, rfl, by decide, by decide, hF, fun k H1 _ _ b1 hF1 => ?_⟩
  have hN1 := hN.keep apart b1
  refine ⟨rfl, _, rfl, ?_⟩
  refine ite2 (fun _ => ?_) (fun _ => ?_)
  · exact ⟨_, rfl, _, rfl, _, rfl, f, l, ns, r, rfl, apart, hN1, r1, hF1, leaf H1 b1 hF1⟩
  refine ⟨_, rfl, (by show 3 ≤ sizeLine; decide), fun g hg => ?_⟩
  refine ⟨f, g, _, rfl, hF1.ne hg, .inl (.inl upd_same), by decide, by decide, hF1.same (same_new hg), fun x hx H2 b2 hF2 => ?_⟩
  obtain ⟨wd, rfl, lw, bw, nw⟩ := words3 x hx
  have bb2 : But f H H2 := (b1.new hg).trans b2
  have ed : (d : Int) - 1 = ((d - 1 : Nat) : Int) := by omega
  refine ⟨_, rfl, _, rfl, _, _, rfl, rfl, _, rfl, _, rfl, f, l, ns, r, d - 1, (by show [V.ref f, V.int ((d : Int) - 1), V.ref l, V.int r] = _; rw [ed]), by omega, apart, hN.keep apart bb2, r1, hF2, fun t1 v1 H3 m1 a1 b3 hF3 => ?_⟩
  have bb3 := bb2.trans b3
  refine ⟨_, rfl, rfl, _, rfl, ?_⟩
  refine ite2 (fun cw => ?_) (fun cw => ?_)
  · refine ⟨_, rfl, _, rfl, (by show 2 ≤ sizeLine; decide), fun p hp => ?_⟩
    exact q _ _ _ ((made_one lw (by have z := of_decide_eq_true cw; injection z) (by rw [bw]; rfl) m1).up (by omega)) ⟨p, v1, rfl, upd_same, a1.keep (tups_same (same_new hp))⟩ (bb3.new hp) (hF3.same (same_new hp))
  · refine ⟨_, rfl, _, rfl, _, rfl, _, rfl, _, _, rfl, rfl, _, rfl, _, rfl, f, l, ns, r, d - 1, (by show [V.ref f, V.int ((d : Int) - 1), V.ref l, V.int r] = _; rw [ed]), by omega, apart, hN.keep apart bb3, r1, hF3, fun t2 v2 H4 m2 a2 b4 hF4 => ?_⟩
    refine ⟨(by show 3 ≤ sizeLine; decide), fun p hp => ?_⟩
    have k1 : At H4 t1 v1 := a1.keep (hF3.tups b4)
    exact q _ _ _ ((made_two lw (nw.resolve_left fun e => cw (by rw [e]; exact decide_eq_true rfl)) bw m1 m2).up (by omega)) ⟨p, v1, v2, rfl, upd_same, k1.keep (tups_same (same_new hp)), a2.keep (tups_same (same_new hp))⟩ ((bb3.trans b4).new hp) (hF4.same (same_new hp))
theorem ok_terms {f ft fp fl : Addr} {fd dt dp dl : FuncData} (F : Fun K "_law_term" "_law_term" sTerm f fd) (D : Draw P w K mg base ft fp dt dp)
    (L : FnOk P w K mg base CX0 3 fl dl ["feed", "names", "around"] spLeaf) (bL : Binds K dl ["feed", "names", "around"] []) (kL : PySem.W.keepIn K (.ref fl) = true) (mL : mg "_law_leaf" = some (.ref fl))
    (bS : Binds K fd ["feed", "deep", "names", "around"] []) (mS : mg "_law_term" = some (.ref f)) : ∀ n : Nat, FnOk P w K mg base CX0 (3 + n) f fd ["feed", "deep", "names", "around"] (spTerm n)
  | 0 => no_calls fun vs H Q E h => by
    obtain ⟨a, l, ns, r, d, _, dn, _⟩ := h
    omega
  | n + 1 => ok_term F D L bL kL mL (ok_terms F D L bL kL mL bS mS n) bS mS
end
end Kf
set_option Elab.async false
set_option linter.all false
set_option maxRecDepth 100000
set_option maxHeartbeats 4000000
/-! The program's own defs: beneath, pieces_of, names_in; the law's walk _law_names. -/
namespace Kf
open PySem PySem.Spec PyProof.Rows L2 Sx
abbrev sBeneath : Stmt := top 10
abbrev sPieces : Stmt := top 11
theorem scBeneath : FnScope ["piece", "around"] ["piece", "around"] (defScope sBeneath) := ⟨rfl, rfl, rfl, by decide +kernel, rfl, by decide +kernel, by decide +kernel⟩
theorem scPieces : FnScope ["thing", "found", "todo", "piece", "around", "inner", "part"] ["thing"] (defScope sPieces) := ⟨rfl, rfl, rfl, by decide +kernel, rfl, by decide +kernel, by decide +kernel⟩
/-! ### rows: a tree and how many stand around it -/
def Row (H : Hp) (e : Tr × Nat) (v : V) : Prop := ∃ q x, v = .ref q ∧ H q = some (.tup [x, .int (e.2 : Int)]) ∧ At H e.1 x
theorem Row.keep {H H' : Hp} (k : Tups H H') (e : Tr × Nat) (v : V) (h : Row H e v) : Row H' e v := by
  obtain ⟨q, x, e1, e2, a⟩ := h
  exact ⟨q, x, e1, k _ _ e2, a.keep k⟩
def visits (es : List (Tr × Nat)) : List (Tr × Nat) := es.reverse.flatMap fun e => (e.1.post e.2).reverse
theorem visits_last (es : List (Tr × Nat)) (e : Tr × Nat) : visits (es ++ [e]) = (e.1.post e.2).reverse ++ visits es := by
  unfold visits
  rw [List.reverse_append, List.reverse_singleton, List.singleton_append, List.flatMap_cons]
theorem visits_kids (r : Nat) : ∀ (ks : List Tr) (es : List (Tr × Nat)), visits (es ++ ks.map fun k => (k, r)) = (ks.flatMap fun a => a.post r).reverse ++ visits es
  | [], es => by simp
  | k :: ks, es => by
    rw [List.map_cons, show es ++ (k, r) :: ks.map (fun k => (k, r)) = (es ++ [(k, r)]) ++ ks.map (fun k => (k, r)) by simp, visits_kids r ks, visits_last, List.flatMap_cons, List.reverse_append, List.append_assoc]
theorem visits_step (es : List (Tr × Nat)) (t : Tr) (r : Nat) : visits (es ++ [(t, r)]) = (t, r) :: visits (es ++ t.kids.map fun k => (k, inner t.word r)) := by
  rw [visits_last, visits_kids]
  show (t.post r).reverse ++ visits es = _
  rw [post_kids, List.reverse_append, List.reverse_singleton]
  rfl
theorem post_pos (t : Tr) (r : Nat) : 1 ≤ (t.post r).length := by
  rw [post_kids, List.length_append]
  exact Nat.le_add_left _ _
theorem flat_len {α β : Type} (g : α → List β) (h : ∀ a, 1 ≤ (g a).length) : ∀ l : List α, l.length ≤ (l.flatMap g).length
  | [] => Nat.zero_le _
  | a :: l => by
    have h1 := flat_len g h l
    have h2 := h a
    rw [List.flatMap_cons, List.length_append, List.length_cons]
    omega
theorem visits_len (es : List (Tr × Nat)) : es.length ≤ (visits es).length := by
  have h := flat_len (fun (e : Tr × Nat) => (e.1.post e.2).reverse) (fun e => by rw [List.length_reverse]; exact post_pos e.1 e.2) es.reverse
  rw [List.length_reverse] at h
  exact h
theorem cut_one (x : V) (r : List V) : cutV (x :: r) (some 1) none = r := by
  unfold cutV
  have e1 : HT.sIx (x :: r).length 0 (some 1) = 1 := by
    rw [show HT.sIx (x :: r).length 0 (some 1) = min 1 (x :: r).length from HT.sIx_nat _ 0 1, List.length_cons]
    omega
  rw [e1, HT.sIx_none]
  show List.take ((x :: r).length - 1) r = r
  rw [List.length_cons, Nat.add_sub_cancel]
  exact List.take_length
theorem cut_not (x : V) (r : List V) : ¬ (HT.sIx (x :: r).length 0 (some 1) = 0 ∧ HT.sIx (x :: r).length (x :: r).length none = (x :: r).length) := by
  intro h
  have e1 : HT.sIx (x :: r).length 0 (some 1) = 1 := by
    rw [show HT.sIx (x :: r).length 0 (some 1) = min 1 (x :: r).length from HT.sIx_nat _ 0 1, List.length_cons]
    omega
  rw [e1] at h
  exact absurd h.1 (by decide)
/-! ### the top's names -/
structure Txt (K : PySem.W.Frag) (mg : Str → Option Value) (L B : Addr) : Prop where
  mL : mg "LEAVES" = some (.ref L)
  mB : mg "BINDERS" = some (.ref B)
  leaf : ∀ H, SqT K H L leafVs
  bind : ∀ H, SqT K H B bindVs
section
variable {P : Program} {w : World} {K : PySem.W.Frag} {mg : Str → Option Value} {base : Heap} {L B : Addr}
def spBeneath : Sp := fun vs H Q _ => ∃ (p : Addr) (wd : Str) (us : List V) (r : Nat), vs = [.ref p, .int (r : Int)] ∧ H p = some (.tup (.str wd :: us)) ∧ Q (.int (inner wd r : Nat)) H
theorem head_at (x : V) (us : List V) : atI (x :: us) 0 = some x := atI_nat (j := 0) rfl
theorem ok_beneath {f : Addr} {fd : FuncData} {j : Nat} (F : Fun K "beneath" "beneath" sBeneath f fd) (T : Txt K mg L B) : FnOk P w K mg base CX0 (j + 1) f fd ["piece", "around"] spBeneath := by
  refine F.ok scBeneath (fun vs H Q E h => ?_) (fun cdv A outer s H vs Q E hr h => ?_)
  · obtain ⟨p, wd, us, r, rfl, _⟩ := h
    rfl
  obtain ⟨p, wd, us, r, rfl, hp, q⟩ := h
  refine ⟨_, pss_one (ps_ret (pe_ifExp (pt_cmpR op_in_seq (pe_ix ix_tup (pv 0) pe_int (fun _ _ => rfl)) (pe_glob (v := .ref B) (by rfl) T.mB rfl) (by rfl)) (pe_op op_add (pv 1) pe_int) (pv 1))), ?_⟩
  refine ⟨_, rfl, p, _, 0, _, rfl, rfl, .inl (.inl hp), head_at _ _, B, bindVs, rfl, .inr (T.bind H), rfl, rfl, _, rfl, ?_⟩
  show if binds wd = true then _ else _
  unfold inner at q
  by_cases c : binds wd = true
  · rw [if_pos c] at q ⊢
    exact ⟨_, rfl, _, _, rfl, rfl, q⟩
  · rw [if_neg c] at q ⊢
    exact ⟨_, rfl, q⟩
/-! ### pieces_of -/
def spPieces : Sp := fun vs H Q _ => ∃ (v : V) (t : Tr), vs = [v] ∧ At H t v ∧ t.Ok ∧ t.deep ≤ 12 ∧
  ∀ (p : Addr) (H' : Hp) (vf : List V), Same H H' → H p = none → H' p = some (.lst vf) → All2 (Row H') (t.post 0) vf → Q (.ref p) H'
theorem line_of {n : Nat} (h : n ≤ 4096) : n < sizeLine := Nat.lt_of_le_of_lt h (by decide)
/-- between two turns -/
structure Turn (H H' : Hp) (pf pt : Addr) (all : List (Tr × Nat)) (m : Nat) (ef es : List (Tr × Nat)) (vf vt : List V) : Prop where
  same : Same H H'
  lf : H' pf = some (.lst vf)
  lt : H' pt = some (.lst vt)
  rf : All2 (Row H') ef vf
  rt : All2 (Row H') es vt
  sum : ef ++ visits es = all
  ok : ∀ e ∈ es, e.1.Ok
  m : m = (visits es).length
theorem ok_pieces {f g : Addr} {fd gd : FuncData} (F : Fun K "pieces_of" "pieces_of" sPieces f fd) (T : Txt K mg L B) (G : FnOk P w K mg base CX0 1 g gd ["piece", "around"] spBeneath) (bG : Binds K gd ["piece", "around"] []) (kG : PySem.W.keepIn K (.ref g) = true) (mG : mg "beneath" = some (.ref g)) :
    FnOk P w K mg base CX0 2 f fd ["thing"] spPieces := by
  refine F.ok scPieces (fun vs H Q E h => ?_) (fun cdv A outer s H vs Q E hr h => ?_)
  · obtain ⟨v, t, rfl, _⟩ := h
    rfl
  obtain ⟨v, t, rfl, hA, hO, hd, q⟩ := h
  refine ⟨_, pss_cons (ps_set (i := 1) scPieces.nd rfl (.inl rfl) (pe_lst pa_nil))
    (pss_cons (ps_set (i := 2) scPieces.nd rfl (.inl rfl) (pe_lst (pa_cons (pe_tup (pa_cons (pv 0) (pa_cons pe_int pa_nil))) pa_nil)))
    (pss_cons (ps_while PassesOwn.never (pt_truth (pv 2) (by intro _; rfl))
      (pss_cons (ps_asg (pe_bm0 PySem.F.plainAttrs_list PySem.F.slot_list_pop PySem.F.type_list_pop mt_pop (pv 2)) (pg_tup (by rfl) (pgs_cons (pg_name (i := 3) scPieces.nd rfl (.inl rfl)) (pgs_cons (pg_name (i := 4) scPieces.nd rfl (.inl rfl)) pgs_nil))))
      (pss_cons (ps_expr (pe_bm PySem.F.plainAttrs_list PySem.F.slot_list_append PySem.F.type_list_append mt_append (pv 1) (pa_cons (pe_tup (pa_cons (pv 3) (pa_cons (pv 4) pa_nil))) pa_nil)))
      (pss_one (ps_if (pt_cmpR op_notIn_seq (pe_ix ix_tup (pv 3) pe_int (fun _ _ => rfl)) (pe_glob (v := .ref L) (by rfl) T.mL rfl) (by rfl))
        (pss_cons (ps_set (i := 5) scPieces.nd rfl (.inl rfl) (pe_call G hr (by rfl) mG kG bG .nil pass0 (pa_cons (pv 3) (pa_cons (pv 4) pa_nil))))
        (pss_one (ps_for PassesOwn.never rfl (pi_tup (pe_slice sl_tup (pv 3) (po_some pe_int) po_none)) (pg_name (i := 6) scPieces.nd rfl (.inl rfl))
          (pss_one (ps_expr (pe_bm PySem.F.plainAttrs_list PySem.F.slot_list_append PySem.F.type_list_append mt_append (pv 2) (pa_cons (pe_tup (pa_cons (pv 6) (pa_cons (pv 5) pa_nil))) pa_nil)))))))
        pss_nil)))))
    (pss_cons (ps_expr (pe_bm0 PySem.F.plainAttrs_list PySem.F.slot_list_reverse PySem.F.type_list_reverse mt_reverse (pv 1)))
    (pss_one (ps_ret (pv 1)))))), ?_⟩
  refine ⟨Nat.zero_le _, fun pf nf => ?_⟩
  refine ⟨_, rfl, (by show 2 ≤ sizeLine; decide), fun q0 nq => ?_⟩
  refine ⟨(by show 1 ≤ sizeLine; decide), fun pt nt => ?_⟩
  have s1 : Same H (upd H pf (.lst [])) := same_new nf
  have s2 := same_put (o := .tup [v, .int 0]) s1 nq
  have s3 := same_put (o := .lst [.ref q0]) s2 nt
  have nft : pf ≠ pt := fun z => by
    rw [← z, upd_ne (fun z2 => by rw [z2, upd_same] at nq; cases nq), upd_same] at nt
    cases nt
  have nfq : pf ≠ q0 := fun z => by
    rw [← z, upd_same] at nq
    cases nq
  have nqt : q0 ≠ pt := fun z => by
    rw [← z, upd_same] at nt
    cases nt
  have big : ∀ (ef es : List (Tr × Nat)), ef ++ visits es = (t.post 0).reverse → ef.length + es.length ≤ 4096 := fun ef es e => by
    have l1 := congrArg List.length e
    rw [List.length_append, List.length_reverse, post_len] at l1
    have l2 := visits_len es
    have l3 := size_deep t
    have l4 : 2 ^ t.deep ≤ 2 ^ 12 := Nat.pow_le_pow_right (by decide) hd
    omega
  refine ⟨fun m σ H' => ∃ (ef es : List (Tr × Nat)) (vf vt : List V) (y3 y4 y5 y6 : Option V), σ = [some v, some (.ref pf), some (.ref pt), y3, y4, y5, y6] ∧ Turn H H' pf pt (t.post 0).reverse m ef es vf vt,
    ⟨_, [], [(t, 0)], [], [.ref q0], none, none, none, none, rfl, ⟨s3, ?_, upd_same, .nil, .one ⟨q0, v, rfl, ?_, hA.keep (tups_same s3)⟩, ?_, fun e he => by rw [List.mem_singleton.mp he]; exact hO, rfl⟩⟩, fun m σ H1 hW => ?_⟩
  · rw [upd_ne nft, upd_ne nfq, upd_same]
  · rw [upd_ne nqt, upd_same]
    rfl
  · show visits [(t, 0)] = _
    unfold visits
    simp
  obtain ⟨ef, es, vf, vt, y3, y4, y5, y6, rfl, W⟩ := hW
  refine ⟨_, rfl, !vt.isEmpty, .inl ⟨vt, .inl (.inl W.lt), rfl⟩, ?_⟩
  rcases List.eq_nil_or_concat vt with en | ⟨vt0, y, en⟩
  · subst en
    refine iteF ?_
    have ee : es = [] := by
      have l := W.rt.len
      exact List.length_eq_zero_iff.mp l
    subst ee
    have e2 : ef = (t.post 0).reverse := by
      have e3 := W.sum
      rw [show visits [] = [] from rfl, List.append_nil] at e3
      exact e3
    refine ⟨_, rfl, .inl ⟨rfl, _, .inl (.inl W.lf)⟩, pf, vf, rfl, rfl, W.lf, ?_⟩
    refine ⟨_, rfl, q pf _ vf.reverse (fun b u e => ?_) nf upd_same ?_⟩
    · rw [upd_ne (ne_of_none e nf)]
      exact W.same _ _ e
    · have r1 := W.rf.rev
      rw [e2, List.reverse_reverse] at r1
      exact r1.mono fun e v h => Row.keep (tups_put fun xs z => by rw [W.lf] at z; cases z) e v h
  · rw [List.concat_eq_append] at en
    subst en
    rw [show (!(vt0 ++ [y]).isEmpty) = true by simp]
    refine iteT ?_
    obtain ⟨es0, ⟨t1, r1⟩, rfl, rt0, ⟨q1, x1, rfl, h1, a1⟩⟩ := W.rt.last
    have ok1 : t1.Ok := W.ok _ (List.mem_append.mpr (.inr (List.mem_singleton.mpr rfl)))
    refine ⟨fun σ' H' => ∃ m', m' < m ∧ ∃ (ef es : List (Tr × Nat)) (vf vt : List V) (y3 y4 y5 y6 : Option V), σ' = [some v, some (.ref pf), some (.ref pt), y3, y4, y5, y6] ∧ Turn H H' pf pt (t.post 0).reverse m' ef es vf vt,
      fun σ' H' h => h, ?_⟩
    -- piece, around = todo.pop()
    refine ⟨_, rfl, .inl ⟨rfl, _, .inl (.inl W.lt)⟩, pt, _, .ref q1, rfl, rfl, W.lt, by simp, ?_⟩
    rw [List.dropLast_concat]
    have nqt1 : q1 ≠ pt := ne_of h1 W.lt (by intro z; cases z)
    have k2 : Tups H1 (upd H1 pt (.lst vt0)) := tups_put fun xs z => by
      rw [W.lt] at z
      cases z
    refine ⟨q1, [x1, .int (r1 : Int)], rfl, .inl (.inl (k2 _ _ h1)), rfl, x1, [.int (r1 : Int)], rfl, .int (r1 : Int), [], rfl, rfl, ?_⟩
    -- found.append((piece, around))
    have lf2 : (upd H1 pt (.lst vt0)) pf = some (.lst vf) := by
      rw [upd_ne nft]
      exact W.lf
    have bigN := big ef (es0 ++ [(t1, r1)]) W.sum
    rw [List.length_append, List.length_singleton] at bigN
    refine ⟨_, rfl, .inl ⟨rfl, _, .inl (.inl lf2)⟩, _, rfl, _, rfl, (by show 2 ≤ sizeLine; decide), fun q2 nq2 => ?_⟩
    have nfq2 : pf ≠ q2 := ne_of_none lf2 nq2
    have ntq2 : pt ≠ q2 := ne_of_none (show (upd H1 pt (.lst vt0)) pt = _ from upd_same) nq2
    refine ⟨pf, vf, .ref q2, rfl, rfl, (by rw [upd_ne nfq2]; exact lf2), line_of (by have := W.rf.len; omega), ?_⟩
    generalize hH2 : upd (upd (upd H1 pt (.lst vt0)) q2 (.tup [x1, .int (r1 : Int)])) pf (.lst (vf ++ [.ref q2])) = H2
    have k3 : Tups H1 H2 := by
      rw [← hH2]
      refine k2.trans ((tups_same (same_new nq2)).trans (tups_put fun xs z => ?_))
      rw [upd_ne nfq2, lf2] at z
      cases z
    have same2 : Same H H2 := fun b u e => by
      rw [← hH2, upd_ne (ne_of_none e nf)]
      have nbt : b ≠ pt := fun z => by
        have z2 := s2.free nt
        rw [← z, e] at z2
        cases z2
      have e2 : (upd H1 pt (.lst vt0)) b = some u := by
        rw [upd_ne nbt]
        exact W.same _ _ e
      rw [upd_ne (ne_of_none e2 nq2)]
      exact e2
    have lf3 : H2 pf = some (.lst (vf ++ [.ref q2])) := by
      rw [← hH2, upd_same]
    have lt3 : H2 pt = some (.lst vt0) := by
      rw [← hH2, upd_ne nft.symm, upd_ne ntq2, upd_same]
    have hq2 : H2 q2 = some (.tup [x1, .int (r1 : Int)]) := by
      rw [← hH2, upd_ne nfq2.symm, upd_same]
    have a3 : At H2 t1 x1 := At.keep k3 a1
    have rf3 : All2 (Row H2) (ef ++ [(t1, r1)]) (vf ++ [.ref q2]) := (W.rf.mono (Row.keep k3)).app (.one ⟨q2, x1, rfl, hq2, a3⟩)
    have rt3 : All2 (Row H2) es0 vt0 := rt0.mono (Row.keep k3)
    obtain ⟨p1, us, rfl, hp1, lus, kids, leafs⟩ := a3.view ok1
    have e0 := W.sum
    rw [visits_step] at e0
    have em := W.m
    rw [visits_step, List.length_cons] at em
    -- if piece[0] not in LEAVES
    refine ⟨_, rfl, p1, _, 0, _, rfl, rfl, .inl (.inl hp1), head_at _ _, L, leafVs, rfl, .inr (T.leaf H2), rfl, rfl, _, rfl, ?_⟩
    show if (!leafy t1.word) = true then _ else _
    cases hl : leafy t1.word with
    | true =>
      refine iteF ?_
      obtain ⟨x, et, _⟩ := leafs hl
      have noK : t1.kids = [] := by
        rw [et]
        rfl
      rw [noK] at e0 em
      rw [show es0 ++ ([] : List Tr).map (fun k => (k, inner t1.word r1)) = es0 by simp] at e0 em
      refine ⟨(visits es0).length, by omega, ef ++ [(t1, r1)], es0, _, vt0, _, _, y5, y6, rfl, ⟨same2, lf3, lt3, rf3, rt3, ?_, fun e he => W.ok e (List.mem_append.mpr (.inl he)), rfl⟩⟩
      rw [List.append_assoc]
      exact e0
    | false =>
      refine iteT ?_
      have kd := kids hl
      -- inner = beneath(piece, around)
      refine ⟨_, rfl, _, rfl, p1, t1.word, us, r1, rfl, hp1, ?_⟩
      -- piece[1:]
      refine ⟨_, rfl, 1, rfl, p1, _, rfl, .inl (.inl hp1), cut_not _ _, fun c nc => ?_⟩
      rw [cut_one]
      have k4 : Tups H2 (upd H2 c (.tup us)) := tups_same (same_new nc)
      have ncf : c ≠ pf := fun z => by
        rw [z, lf3] at nc
        cases nc
      have nct : c ≠ pt := fun z => by
        rw [z, lt3] at nc
        cases nc
      have len1 := kd.len
      refine ⟨c, rfl, ⟨_, .inl (.inl upd_same)⟩, for_tup (K := K) (a := c) (xs := us) (fun i σ' H' => ∃ (vt : List V) (y6 : Option V), σ' = [some v, some (.ref pf), some (.ref pt), some (.ref p1), some (.int (r1 : Int)), some (.int (inner t1.word r1 : Nat)), y6] ∧
          Same H H' ∧ Tups (upd H2 c (.tup us)) H' ∧ H' pf = some (.lst (vf ++ [.ref q2])) ∧ H' pt = some (.lst vt) ∧ All2 (Row H') (es0 ++ (t1.kids.take i).map fun k => (k, inner t1.word r1)) vt)
        ⟨vt0, y6, rfl, same_put same2 nc, Tups.refl _, (by rw [upd_ne ncf.symm]; exact lf3), (by rw [upd_ne nct.symm]; exact lt3), ?_⟩ (fun i σ' H' _ ⟨_, _, _, _, kt, _⟩ => .inl (.inl (kt _ _ upd_same))) ?_ ?_⟩
      · rw [show (t1.kids.take 0).map (fun k => (k, inner t1.word r1)) = [] by simp, List.append_nil]
        exact rt3.mono (Row.keep k4)
      · rintro i x σ' H' hx ⟨vt, y6', rfl, sm, kt, gf, gt, rr⟩
        obtain ⟨tk, htk, hax⟩ := kd.get hx
        have hax' : At H' tk x := hax.keep (k4.trans kt)
        have bnd : vt.length ≤ 4096 := by
          have l1 := rr.len
          have l2 : ((t1.kids.take i).map fun k => (k, inner t1.word r1)).length ≤ 2 := by
            rw [List.length_map, List.length_take]
            omega
          have l3 := big (ef ++ [(t1, r1)]) (es0 ++ t1.kids.map fun k => (k, inner t1.word r1)) (by rw [List.append_assoc]; exact e0)
          rw [List.length_append, List.length_append, List.length_map] at l3
          rw [List.length_append, List.length_map, List.length_take] at l1
          omega
        -- todo.append((part, inner))
        refine ⟨_, rfl, .inl ⟨rfl, _, .inl (.inl gt)⟩, _, rfl, _, rfl, (by show 2 ≤ sizeLine; decide), fun q3 nq3 => ?_⟩
        have ntq3 : pt ≠ q3 := ne_of_none gt nq3
        have nfq3 : pf ≠ q3 := ne_of_none gf nq3
        refine ⟨pt, vt, .ref q3, rfl, rfl, (by rw [upd_ne ntq3]; exact gt), line_of bnd, ?_⟩
        have k5 : Tups H' (upd (upd H' q3 (.tup [x, .int (inner t1.word r1 : Nat)])) pt (.lst (vt ++ [.ref q3]))) := (tups_same (same_new nq3)).trans (tups_put fun xs z => by
          rw [upd_ne ntq3, gt] at z
          cases z)
        refine ⟨vt ++ [.ref q3], some x, rfl, fun b u e => ?_, kt.trans k5, ?_, upd_same, ?_⟩
        · have nbt : b ≠ pt := fun z => by
            have z2 := s2.free nt
            rw [← z, e] at z2
            cases z2
          rw [upd_ne nbt, upd_ne (ne_of_none (sm _ _ e) nq3)]
          exact sm _ _ e
        · rw [upd_ne nft, upd_ne nfq3]
          exact gf
        · have et : t1.kids.take (i + 1) = t1.kids.take i ++ [tk] := by
            rw [List.take_add_one, htk]
            rfl
          rw [et, List.map_append, ← List.append_assoc]
          refine (rr.mono (Row.keep k5)).app (.one ⟨q3, x, rfl, ?_, hax'.keep k5⟩)
          rw [upd_ne ntq3.symm, upd_same]
      · rintro σ' H' ⟨vt, y6', rfl, sm, kt, gf, gt, rr⟩
        rw [← len1, List.take_length] at rr
        refine ⟨_, ?_, ef ++ [(t1, r1)], es0 ++ t1.kids.map (fun k => (k, inner t1.word r1)), _, vt, _, _, _, y6', rfl, ⟨sm, gf, gt, rf3.mono (Row.keep (k4.trans kt)), rr, by rw [List.append_assoc]; exact e0, fun e he => ?_, rfl⟩⟩
        · omega
        · rcases List.mem_append.mp he with z | z
          · exact W.ok e (List.mem_append.mpr (.inl z))
          · obtain ⟨k, hk, rfl⟩ := List.mem_map.mp z
            exact kids_ok ok1 k hk
end
end Kf
set_option Elab.async false
set_option linter.all false
set_option maxRecDepth 100000
set_option maxHeartbeats 4000000
/-! An exception that its suite keeps under another name: it is tracked behind the suite. -/
namespace Xk
open PySem PySem.Spec PyProof.Rows L2
/-- an exception of the class c, with the own dict d, at a -/
def ExK (c : Value) (d : Option Addr) (a : Addr) : HO := .ext fun h => ∃ (ob : Obj) (us : Array Value), h.get? a = some ob ∧ Zc c d ob ∧ ob.data = .fields us
theorem exK_ok {P : Program} {w : World} {H : Hp} {h : Heap} {a : Addr} {c : Value} {d : Option Addr} {ob : Obj} {us : Array Value} (e : h.get? a = some ob) (z : Zc c d ob) (dat : ob.data = .fields us) : ObjOk P w H h a (ExK c d a) :=
  ⟨⟨ob, us, e, z, dat⟩, ⟨ob, e⟩, fun _ _ ⟨o2, u2, q1, q2⟩ keep => ⟨o2, u2, keep o2 q1, q2⟩⟩
section
variable {X : Cx} {pins : List (Addr × Obj)} {σ : L2.St} {H : Hp} {s : Shared}
/-- an object that no one speaks of comes to be tracked -/
theorem inv_track {a : Addr} {o : HO} (I : Inv X pins σ H s) (away : X.s_0.heap.get? a = none) (free : H a = none) (nL : a ≠ X.env.locals) (nC : ∀ x c, X.env.cells.lookup x = some c → c ≠ a) (nP : ∀ p ∈ X.pn ++ pins, p.1 ≠ a) (new : ObjOk X.prog X.w (upd H a o) s.heap a o) :
    Inv X pins σ (upd H a o) s := by
  have far : ∀ {b : Addr} {u : HO}, H b = some u → b ≠ a := fun e z => by
    rw [z, free] at e
    cases e
  have un : Un X.fs X.ex X.H_0 (upd H a o) X.s_0.heap s.heap := {
    keep := I.base.keep
    slot := I.base.slot
    free := fun b ob e n m => by
      rw [upd_ne (fun z => by rw [z, away] at e; cases e)]
      exact I.base.free b ob e n m
    there := I.base.there
    tups := fun b xs e => by
      have q := I.base.tups b xs e
      rw [upd_ne (far q)]
      exact q
    frzs := fun b ob u e => by
      have q := I.base.frzs b ob u e
      rw [upd_ne (far q)]
      exact q
    tbls := fun b ps e => by
      obtain ⟨more, q⟩ := I.base.tbls b ps e
      exact ⟨more, by rw [upd_ne (far q)]; exact q⟩ }
  refine ⟨I.ok, I.os, I.bare, un, I.loc, I.cell, ?_, fun x c e => ?_, fun p hp => ?_, I.hok.laidN (fun _ _ e => e) free new, I.len⟩
  · rw [upd_ne nL.symm]
    exact I.free
  · rw [upd_ne (nC x c e)]
    exact I.freeC x c e
  · obtain ⟨q1, q2, q3⟩ := I.pin p hp
    exact ⟨q1, by rw [upd_ne (nP p hp)]; exact q2, q3⟩
end
/-- what the clause wishes, where its suite falls through with the exception kept -/
def wHold (K : PySem.W.Frag) (c : Value) (i : Nat) (ts : Addr → Value → Option Addr → TS) (Wout : WX) (D : Ends) : WX := fun cls d σ H =>
  ∃ yes, PySem.W.exmOne K cls c = some yes ∧
    (yes = true → ∀ a, H a = none → ts a cls d { nx := fun τ G => G a = none → D.nx (τ.set i none) (upd G a (ExK cls d a)), rt := fun _ _ => False, bk := fun _ _ => False, ct := fun _ _ => False } (σ.set i (some (.ref a))) H) ∧ (yes = false → Wout cls d σ H)
section
variable {X : Cx} {x n : Str} {c : Value} {i : Nat} {body suite : List Stmt} {one : Stmt} {np pos pos' : Pos} {tb : WX → TS} {ts : Addr → Value → Option Addr → TS} {Wout : WX}
/-- try: body / except x as n: suite; behind the suite the exception's object is tracked -/
theorem ps_try_hold (stk : X.stack = X.env :: X.outer) (fr : X.env.frame = some X.env.locals) (nd : X.N.Nodup) (at_ : X.N[i]? = some n) (loc : X.env.kindOf n = some .local) (cls_ : Names X x c) (tk : Takes X Wout) (noEx : X.ex = [])
    (doBody : ∀ (W : WX) (pn : List (Addr × Obj)) (xe : Value → Shared → Prop), Takes (X.tr pn xe) W → PassesOwn (model X.prog X.w) X.A X.env xe → PSs (X.tr pn xe) body (tb W))
    (doSuite : ∀ (a : Addr) (ob : Obj) (cls : Value) (d : Option Addr) (pn : List (Addr × Obj)), Zc cls d ob → (∃ us, ob.data = .fields us) → PSs (X.suite a ((a, ob) :: pn)) (one :: suite) (ts a cls d)) :
    PS X (.Try body [.ExceptHandler (some (.Name x np)) (some n) (one :: suite) pos'] [] [] pos) (fun D σ H => tb (wHold X.K c i ts Wout D) D σ H) := by
  refine ⟨fun pins s σ H D I reading => wpAny_Try_except ?_⟩
  have good := I.ok
  have frames : X.A.frames = some (X.env :: X.outer) := good.frames.trans (congrArg some stk)
  have ran := (doBody (wHold X.K c i ts Wout D) (X.pn ++ pins)
    (fun e z1 => wpAny (model X.prog X.w) X.A (noteFrame e X.env)
      (fun _ z2 => wpAny (model X.prog X.w) X.A (setFlight e none)
        (fun _ z3 => wpAny (model X.prog X.w) X.A (handleBy e X.env [.ExceptHandler (some (.Name x np)) (some n) (one :: suite) pos']) (SP X pins D) X.xe z3) X.xe z2) X.xe z1)
    (fun u z thrown => ?caught) PassesOwn.looking).run [] s σ H D (I.toTry _) reading
  refine wpAny_mono ran (fun f z over => ?through) fun e z q => q
  case caught =>
    obtain ⟨a, ground, before, pins2, τ, G, cls, d, rfl, J0, kept, grown, sky, free, os, bare, yes, match_, onYes, onNo⟩ := thrown
    have J : Inv X pins τ G before := J0.ofTry good
    rw [stk] at sky
    show wpAny (model X.prog X.w) X.A (noteFrame (.ref a) X.env) _ _ _
    refine Sky.land Zc.steady frames fr sky fun h1 fly1 up1 => ?_
    have J1 : Inv X pins τ G { z with heap := h1 } := J.landed kept fly1.1 (grown.trans up1) os bare
    obtain ⟨ob1, us1, at1, z1, dat1⟩ := fly1.there
    have offFrames : a ∉ frs (X.env :: X.outer) := fun hm => by
      obtain ⟨_, o2, at2, not2⟩ := fly1.2.2.1.mem hm
      cases at1.symm.trans at2
      exact not2 _ dat1
    have nL : a ≠ X.env.locals := fun q => offFrames (List.mem_filterMap.mpr ⟨X.env, List.mem_cons_self, by rw [fr, q]⟩)
    have nF : a ∉ X.fs := fun hm => by
      obtain ⟨e, he, q⟩ := List.mem_filterMap.mp hm
      exact offFrames (List.mem_filterMap.mpr ⟨e, List.mem_cons_of_mem _ he, q⟩)
    -- it is new since the try began
    have newHere : before.heap.get? a = none := by
      cases q : before.heap.get? a with
      | none => rfl
      | some o =>
        have q2 := kept a o q (show a ∉ frs X.stack by rw [stk]; exact offFrames)
        rw [fly1.2.1] at q2
        cases q2
    have away : X.s_0.heap.get? a = none := by
      cases q : X.s_0.heap.get? a with
      | none => rfl
      | some o =>
        obtain ⟨o2, q2⟩ := J.base.there a o q (by rw [noEx]; exact List.not_mem_nil)
        rw [newHere] at q2
        cases q2
    have nC : ∀ y k, X.env.cells.lookup y = some k → k ≠ a := fun y k e q => by
      obtain ⟨v, o, ho, _⟩ := J.cell y k e
      rw [q, newHere] at ho
      cases ho
    have nP : ∀ p ∈ X.pn ++ pins, p.1 ≠ a := fun p hp q => by
      have e := (J.pin p hp).1
      rw [q, newHere] at e
      cases e
    have S1 := J1.suite at1 dat1 free nL nF
    refine wpAny_handleBy_cons (codeAny_handlers_test ?_) fun q => by cases q
    have typed : PySem.W.Looks (model X.prog X.w) h1 (typeOf (.ref a)) cls := fun A Q E s k q => wpAny_typeOf_ref (k _ _ at1) (by rw [z1.1]; exact q)
    have matched := PySem.W.exm_one (M := model X.prog X.w) J1.kIn typed match_
    have named : ∀ {Q : Value → Shared → Prop} {E : Value → Shared → Prop}, Q c { z with heap := h1 } → wpAny (model X.prog X.w) (X.A.mark (some (.ref a))) (eval (.Name x np) X.env) Q E { z with heap := h1 } := fun {Q E} q => by
      obtain ⟨gl, dbg, here | ⟨none_, boot, nm⟩⟩ := cls_
      · exact ld_glob (X := X.suite a ((a, ob1) :: (X.pn ++ pins))) S1 gl here q dbg
      · exact ld_blt (X := X.suite a ((a, ob1) :: (X.pn ++ pins))) S1 gl none_ boot q nm dbg
    refine named (matched.here ?_)
    cases yes with
    | true =>
      refine codeAny_handlers_suite_as (HandSPX.lands_againZ fly1 fun h2 fly2 up2 => ?_)
      have J2 : Inv X pins τ G { z with heap := h2 } := J.landed kept fly2.1 ((grown.trans up1).trans up2) os bare
      obtain ⟨ob2, us2, at2, z2, dat2⟩ := fly2.there
      have S2 := J2.suite at2 dat2 free nL nF
      refine store_ok (X := X.suite a ((a, ob2) :: (X.pn ++ pins))) (v := .ref a) S2 nd at_ (.inl loc) rfl (fun z5 S5 => ?_) (.inr loc)
      refine wpAny_mono ((doSuite a ob2 cls d (X.pn ++ pins) z2 ⟨_, dat2⟩).run [] z5 _ G _ S5 (onYes rfl a free)) (fun f z6 over => ?_) fun _ _ q => q.elim
      match f, over with
      | .next, ⟨τ6, G6, S6, q6⟩ =>
        obtain ⟨at6, free6, _⟩ := S6.pin (a, ob2) (List.mem_append.mpr (.inl List.mem_cons_self))
        have K6 := inv_track (o := ExK cls d a) (S6.unsuite good) away free6 nL nC nP (exK_ok at6 z2 dat2)
        exact gone_ok K6 nd at_ loc fun z7 J7 => ⟨_, _, J7, q6 free6⟩
      | .brk, ⟨_, _, _, q6⟩ => exact q6.elim
      | .cont, ⟨_, _, _, q6⟩ => exact q6.elim
      | .ret _, ⟨_, _, _, _, _, q6⟩ => exact q6.elim
    | false =>
      show wpAny _ X.A (handleBy (.ref a) X.env []) _ _ _
      refine wpAny_handleBy_nil ?_
      obtain ⟨w1, w2, w3, ob, us, tb_, oT, rows, hb, zb, db, f1, more⟩ := id fly1
      unfold PySem.passOn
      refine wpAny_bind (wpAny_field hb db f1 ?_)
      rw [if_neg (show ¬ ((Value.ref tb_ == Value.none) = true) from by simp)]
      have last : wpAny (model X.prog X.w) X.A (setFlight (.ref a) X.env.frame) (fun _ z4 => wpAny (model X.prog X.w) X.A (throw (.ref a) : Sem Flow) (SP X pins D) X.xe z4) X.xe { z with heap := h1 } := by
        rw [fr]
        refine HandSPX.setFlight_upZ fly1 fun h4 held4 up4 => wpAny_throw (tk _ _ ?_)
        exact ⟨a, ground, before, pins, τ, G, cls, d, rfl, J, kept, (grown.trans up1).trans up4, .inr (.inr (by rw [stk]; exact held4)), free, os, bare, onNo rfl⟩
      first
        | exact wpAny_bind (wpAny_pure (wpAny_bind last))
        | exact wpAny_bind last
  case through =>
    match f, over with
    | .next, ⟨τ, G, J, q⟩ => exact wpAny_execs_nil ⟨τ, G, J.ofTry good, q⟩
    | .brk, ⟨τ, G, J, q⟩ => exact ⟨τ, G, J.ofTry good, q⟩
    | .cont, ⟨τ, G, J, q⟩ => exact ⟨τ, G, J.ofTry good, q⟩
    | .ret _, ⟨v, τ, G, J, r, q⟩ => exact ⟨v, τ, G, J.ofTry good, r, q⟩
end
section
variable {X : Cx}
theorem inst_of {a D : Addr} {h : Heap} {ob : Obj} {us : Array Value} (e : h.get? a = some ob) (z : Zc (.ref D) none ob) (dat : ob.data = .fields us) : PySem.W.InstAt h a ob D none := by
  obtain ⟨oc, od, da, sl⟩ := ob
  obtain ⟨e1, e2⟩ := z
  dsimp only at e1 e2 dat
  subst e1 e2 dat
  exact ⟨e, rfl, rfl, trivial⟩
/-- isinstance(e, c), e a tracked exception of the class D, without a dict -/
def rIsH (K : PySem.W.Frag) : List V → Hp → VK → Prop := fun xs H Q => ∃ (a D : Addr) (c : V) (u : Value) (b : Bool), xs = [.ref a, c] ∧ H a = some (ExK (.ref D) none a) ∧ ExcC K D ∧ ClsV c u ∧ PySem.W.kitOne K (.ref D) u = some b ∧ Q (.bl b) H
theorem call_isH : CallR X (.builtin "isinstance") (rIsH X.K) := by
  intro pins s σ H xs us Q I r h
  obtain ⟨a, D, c, u, b, rfl, at_, C, k, e, q⟩ := h
  obtain ⟨u1, u2, rfl, r1, r2⟩ := vals2 r
  have e2 := k.eq r2
  subst e2
  cases (show u1 = Value.ref a from r1)
  obtain ⟨⟨ob, fs, o1, o2, o3⟩, _⟩ := I.hok a _ at_
  exact PySem.W.kia_one (PySem.W.handS_kitx_exc C.hg C.hk C.hs C.hd C.ha C.hn C.ht C.hm) I.kIn (inst_of o1 o2 o3) e (fun z => nomatch z) fun tk => ⟨.bl b, H, I.tok tk, rfl, q⟩
/-- isinstance(e, (c1, ..)) -/
def rIsHT (K : PySem.W.Frag) : List V → Hp → VK → Prop := fun xs H Q => ∃ (a D tp : Addr) (cs : List V) (us : List Value) (b : Bool), xs = [.ref a, .ref tp] ∧ H a = some (ExK (.ref D) none a) ∧ ExcC K D ∧ H tp = some (.tup cs) ∧ Paired ClsV cs us ∧ PySem.W.kitAny K (.ref D) us = some b ∧ Q (.bl b) H
theorem call_isHT : CallR X (.builtin "isinstance") (rIsHT X.K) := by
  intro pins s σ H xs us Q I r h
  obtain ⟨a, D, tp, cs, ws, b, rfl, at_, C, hT, k, e, q⟩ := h
  obtain ⟨u1, u2, rfl, r1, r2⟩ := vals2 r
  cases (show u1 = Value.ref a from r1)
  cases (show u2 = Value.ref tp from r2)
  obtain ⟨⟨ob, fs, o1, o2, o3⟩, _⟩ := I.hok a _ at_
  obtain ⟨_, its, rv, ot, h1, h2, n, h3⟩ := (show ObjOk X.prog X.w H s.heap tp (.tup cs) from I.hok tp _ hT)
  have e3 := ClsV.all k rv
  subst e3
  obtain ⟨oc, od, dt, sl⟩ := ot
  simp only at h2 h3
  subst h2 h3
  exact PySem.W.kia_tup (PySem.W.handS_kitx_exc C.hg C.hk C.hs C.hd C.ha C.hn C.ht C.hm) I.kIn (inst_of o1 o2 o3) h1 e (fun z => nomatch z) fun tk => ⟨.bl b, H, I.tok tk, rfl, q⟩
end
end Xk
set_option Elab.async false
set_option linter.all false
set_option maxRecDepth 100000
set_option maxHeartbeats 4000000
set_option pp.maxSteps 600
/-! k04: refusals, one of them with a field. -/
namespace Xk
open PySem PySem.Spec PyProof.Rows L2
/-- the own dict of a tracked exception, if it has one, is tracked -/
def DictOk (H : Hp) (d : Option Addr) : Prop := d = none ∨ ∃ dd fs, d = some dd ∧ H dd = some (.xd fs)
section
variable {X : Cx}
theorem inst_ofX {pins : List (Addr × Obj)} {σ : L2.St} {H : Hp} {s : Shared} {a D : Addr} {d : Option Addr} (I : Inv X pins σ H s) (at_ : H a = some (ExK (.ref D) d a)) (hd : DictOk H d) : ∃ ob od, PySem.W.InstAt s.heap a ob D od := by
  obtain ⟨⟨ob, fs, o1, o2, o3⟩, _⟩ := I.hok a _ at_
  obtain ⟨oc, od, da, sl⟩ := ob
  obtain ⟨e1, e2⟩ := o2
  dsimp only at e1 e2 o3
  subst e1 e2 o3
  rcases hd with e | ⟨dd, gs, e, hdd⟩
  · subst e
    exact ⟨_, none, o1, rfl, rfl, trivial⟩
  · subst e
    obtain ⟨mA, ⟨oD, es, ep, h1, _⟩, _⟩ := (show ObjOk X.prog X.w H s.heap dd (.xd gs) from I.hok dd _ hdd)
    exact ⟨_, some oD, o1, rfl, rfl, h1⟩
/-- isinstance(e, c), e a tracked exception of the class D -/
def rIsX (K : PySem.W.Frag) : List V → Hp → VK → Prop := fun xs H Q => ∃ (a D : Addr) (d : Option Addr) (c : V) (u : Value) (b : Bool), xs = [.ref a, c] ∧ H a = some (ExK (.ref D) d a) ∧ DictOk H d ∧ ExcC K D ∧ ClsV c u ∧ PySem.W.kitOne K (.ref D) u = some b ∧ Q (.bl b) H
theorem call_isX : CallR X (.builtin "isinstance") (rIsX X.K) := by
  intro pins s σ H xs us Q I r h
  obtain ⟨a, D, d, c, u, b, rfl, at_, hd, C, k, e, q⟩ := h
  obtain ⟨u1, u2, rfl, r1, r2⟩ := vals2 r
  have e2 := k.eq r2
  subst e2
  cases (show u1 = Value.ref a from r1)
  obtain ⟨ob, od, J⟩ := inst_ofX I at_ hd
  have hcl : (PySem.W.clsIn X.K D).isSome = true := by
    obtain ⟨cd, hc, _⟩ := PySem.W.any_some C.hd
    rw [hc]
    rfl
  exact PySem.W.kia_one (PySem.W.kitx_exc hcl C.hg C.hk C.hs C.ha C.hn C.ht C.hm) I.kIn J e (fun z => nomatch z) fun tk => ⟨.bl b, H, I.tok tk, rfl, q⟩
/-- isinstance(e, (c1, ..)) -/
def rIsXT (K : PySem.W.Frag) : List V → Hp → VK → Prop := fun xs H Q => ∃ (a D tp : Addr) (d : Option Addr) (cs : List V) (us : List Value) (b : Bool), xs = [.ref a, .ref tp] ∧ H a = some (ExK (.ref D) d a) ∧ DictOk H d ∧ ExcC K D ∧ H tp = some (.tup cs) ∧ Paired ClsV cs us ∧ PySem.W.kitAny K (.ref D) us = some b ∧ Q (.bl b) H
theorem call_isXT : CallR X (.builtin "isinstance") (rIsXT X.K) := by
  intro pins s σ H xs us Q I r h
  obtain ⟨a, D, tp, d, cs, ws, b, rfl, at_, hd, C, hT, k, e, q⟩ := h
  obtain ⟨u1, u2, rfl, r1, r2⟩ := vals2 r
  cases (show u1 = Value.ref a from r1)
  cases (show u2 = Value.ref tp from r2)
  obtain ⟨ob, od0, J⟩ := inst_ofX I at_ hd
  obtain ⟨_, its, rv, ot, h1, h2, n, h3⟩ := (show ObjOk X.prog X.w H s.heap tp (.tup cs) from I.hok tp _ hT)
  have e3 := ClsV.all k rv
  subst e3
  obtain ⟨oc, od, dt, sl⟩ := ot
  simp only at h2 h3
  subst h2 h3
  have hcl : (PySem.W.clsIn X.K D).isSome = true := by
    obtain ⟨cd, hc, _⟩ := PySem.W.any_some C.hd
    rw [hc]
    rfl
  exact PySem.W.kia_tup (PySem.W.kitx_exc hcl C.hg C.hk C.hs C.ha C.hn C.ht C.hm) I.kIn J h1 e (fun z => nomatch z) fun tk => ⟨.bl b, H, I.tok tk, rfl, q⟩
/-- e.f, e a tracked exception with the field f -/
theorem pe_fieldX {C : Addr} {e : Expr} {te : TE} {pos : Pos} {n : Str} (T : XfC X.K C) (hno : PySem.W.findIn X.K (.ref C) n = some none) (he : PE X e te) (hb : attributeBase e n X.env (eval e X.env) = eval e X.env := by rfl) :
    PE X (.Attribute e n pos) (fun σ H Q => te σ H fun x H1 => ∃ (a dd : Addr) (fs : List (Str × V)) (v : V), x = .ref a ∧ H1 a = some (ExK (.ref C) (some dd) a) ∧ H1 dd = some (.xd fs) ∧ fs.lookup n = some v ∧ Q v H1) := by
  refine ⟨fun pins s σ H Q I h => ?_⟩
  refine attr_of hb (thn (he.run pins s σ H _ I h) fun u s1 hh => ?_)
  obtain ⟨x, H1, I1, rx, a, dd, fs, v, ex, ea, ed, l, q⟩ := hh
  subst ex
  obtain rfl : u = Value.ref a := rx
  obtain ⟨⟨ob, us, o1, o2, o3⟩, _⟩ := I1.hok a _ ea
  have hx : ObjOk X.prog X.w H1 s1.heap dd (.xd fs) := I1.hok dd _ ed
  obtain ⟨mA, hns, hr⟩ := hx
  obtain ⟨od, ho, hl⟩ := lookIn_ns hns
  obtain ⟨u, hu, ru⟩ := RelO.some_of (v := v) (o := mA n) (by rw [← l]; exact hr n)
  have J : PySem.W.InstAt s1.heap a ob C (some od) := ⟨o1, o2.1, by unfold PySem.W.notCls; rw [o3] <;> rfl, by rw [o2.2]; exact ho⟩
  exact HandSPX.exc_get I1.kIn J T.ga T.gg T.exC (PySem.W.findObj_own T.hdC hno rfl (by rw [hl, hu])) (handed_of ru) ⟨v, H1, I1.tok _, ru, q⟩
end
end Xk
namespace Kf
open PySem PySem.Spec PyProof.Rows L2 Sx Xk
/-! ### NoNumber -/
abbrev sIni : Stmt := inClass (top 3) 0
theorem scIni : FnScope ["self", "name"] ["self", "name"] (defScope sIni) := ⟨rfl, rfl, rfl, by decide +kernel, rfl, by decide +kernel, by decide +kernel⟩
section
variable {P : Program} {w : World} {K : PySem.W.Frag} {mg : Str → Option Value} {base : Heap}
def spIni (C : Addr) : Sp := fun vs H Q _ => ∃ (a : Addr) (z : Str), vs = [.ref a, .str z] ∧ H a = some (exo a C none) ∧ ∀ dx, H dx = none → dx ≠ a → Q .non (upd (upd H dx (exd dx [(Str.ofString "name", .str z)])) a (exo a C (some dx)))
/-- what the class with the field name must say -/
structure NoNum (K : PySem.W.Frag) (mg : Str → Option Value) (C fI : Addr) (dI : FuncData) : Prop where
  ox : OexC K C
  at_ : mg "NoNumber" = some (.ref C)
  noN : PySem.W.findIn K (.ref C) "name" = some none
  ini : PySem.W.findIn K (.ref C) "__init__" = some (some (.ref fI))
  tyI : PySem.W.typeIn K (.ref fI) = some (.type "function")
  F : Fun K "__init__" "NoNumber.__init__" sIni fI dI
  b : L2.Binds K dI ["self", "name"] []
theorem ok_ini {C fI : Addr} {dI : FuncData} (N : NoNum K mg C fI dI) : FnOk P w K mg base CX0 1 fI dI ["self", "name"] (spIni C) := by
  refine N.F.ok scIni (fun vs H Q E h => ?_) (fun cdv A outer s H vs Q E hr h => ?_)
  · obtain ⟨a, z, rfl, _⟩ := h
    rfl
  obtain ⟨a, z, rfl, ha, q⟩ := h
  refine ⟨_, pss_one (ps_ost (pv 0) (pv 1)), ?_⟩
  exact ⟨_, rfl, _, rfl, a, C, rfl, N.ox, N.noN, .inl ⟨ha, fun dx n ne => q dx n ne⟩⟩
end
end Kf
set_option Elab.async false
set_option linter.all false
set_option maxRecDepth 100000
set_option maxHeartbeats 4000000
set_option pp.maxSteps 600
/-! k04: worth, with both its refusals. -/
namespace Kf
open PySem PySem.Spec PyProof.Rows L2 Sx Xk
abbrev TG : Int := 10 ^ 60
inductive Oc where
  | num (n : Int) | nam (z : Str) | many
def capO (n : Int) : Oc := if n < TG then .num n else .many
def wr (g : Str → Option Int) : Tr → Oc
  | .leaf _ x => match x with
    | .int n => capO n
    | .str z => match g z with
      | some n => capO n
      | none => .nam z
    | _ => .many
  | .n0 _ => .many
  | .n1 _ a => match wr g a with
    | .num m => capO (m + 1)
    | o => o
  | .n2 w a b => match wr g a with
    | .num m => match wr g b with
      | .num n => capO (if w = "plus" then m + n else m * n)
      | o => o
    | o => o
/-- a term without bounds -/
def Tr.Tm : Tr → Prop
  | .leaf w x => (w = "num" ∧ ∃ n : Int, x = .int n ∧ 0 ≤ n ∧ n < TG) ∨ (w = "name" ∧ ∃ z, x = .str z)
  | .n0 _ => False
  | .n1 w a => w = "next" ∧ a.Tm
  | .n2 w a b => (w = "plus" ∨ w = "times") ∧ a.Tm ∧ b.Tm
theorem tm_made {ns : List Str} : ∀ {t : Tr}, t.In 0 → t.Not → t.Tm
  | .leaf w x, h, _ => by
    rcases h with ⟨e, n, en, n0, n1⟩ | ⟨e, z, ez⟩ | ⟨e, k, ek, k0, k1⟩
    · exact .inl ⟨e, n, en, n0, n1⟩
    · exact .inr ⟨e, z, ez⟩
    · omega
  | .n0 w, _, h => h.elim
  | .n1 w a, h, k => by
    have e : w = "next" := k.1
    subst e
    have h2 : a.In (if binds "next" = true then 0 + 1 else 0) := h
    rw [if_neg (by decide +kernel)] at h2
    exact ⟨rfl, tm_made (ns := ns) h2 k.2⟩
  | .n2 w a b, h, k => ⟨k.1, tm_made (ns := ns) h.2.1 k.2.1, tm_made (ns := ns) h.2.2 k.2.2⟩
theorem cap_num {n m : Int} (h : capO n = .num m) : n = m ∧ n < TG := by
  unfold capO at h
  split at h
  · rename_i c
    injection h with h
    exact ⟨h, c⟩
  · cases h
theorem cap_lt {n : Int} (h : n < TG) : capO n = .num n := if_pos h
theorem cap_ge {n : Int} (h : ¬ n < TG) : capO n = .many := if_neg h
theorem wr_pos {g : Str → Option Int} (hg : ∀ z n, g z = some n → 0 ≤ n) : ∀ t : Tr, t.Tm → ∀ n, wr g t = .num n → 0 ≤ n ∧ n < TG
  | .leaf w x, tm, n, h => by
    rcases tm with ⟨_, m, e, p, lt⟩ | ⟨_, z, e⟩
    · subst e
      obtain ⟨e, l⟩ := cap_num (show capO m = .num n from h)
      exact ⟨by omega, by omega⟩
    · subst e
      cases eg : g z with
      | none =>
        have h2 : (match g z with | some n => capO n | none => Oc.nam z) = .num n := h
        rw [eg] at h2
        cases h2
      | some m =>
        have h2 : (match g z with | some n => capO n | none => Oc.nam z) = .num n := h
        rw [eg] at h2
        obtain ⟨e, l⟩ := cap_num (show capO m = .num n from h2)
        have := hg z m eg
        exact ⟨by omega, by omega⟩
  | .n1 w a, tm, n, h => by
    cases ea : wr g a with
    | num m =>
      have p := (wr_pos hg a tm.2 m ea).1
      have h2 : (match wr g a with | .num m => capO (m + 1) | o => o) = .num n := h
      rw [ea] at h2
      obtain ⟨e, l⟩ := cap_num (show capO (m + 1) = .num n from h2)
      exact ⟨by omega, by omega⟩
    | nam z =>
      have h2 : (match wr g a with | .num m => capO (m + 1) | o => o) = .num n := h
      rw [ea] at h2
      cases h2
    | many =>
      have h2 : (match wr g a with | .num m => capO (m + 1) | o => o) = .num n := h
      rw [ea] at h2
      cases h2
  | .n2 w a b, tm, n, h => by
    have h2 : (match wr g a with | .num m => (match wr g b with | .num n => capO (if w = "plus" then m + n else m * n) | o => o) | o => o) = .num n := h
    cases ea : wr g a with
    | num m =>
      rw [ea] at h2
      cases eb : wr g b with
      | num k =>
        have h3 : (match wr g b with | .num n => capO (if w = "plus" then m + n else m * n) | o => o) = .num n := h2
        rw [eb] at h3
        have p := (wr_pos hg a tm.2.1 m ea).1
        have q := (wr_pos hg b tm.2.2 k eb).1
        obtain ⟨e, l⟩ := cap_num (show capO (if w = "plus" then m + k else m * k) = .num n from h3)
        rw [← e]
        refine ⟨?_, l⟩
        split
        · omega
        · exact Int.mul_nonneg p q
      | nam z =>
        have h3 : (match wr g b with | .num n => capO (if w = "plus" then m + n else m * n) | o => o) = .num n := h2
        rw [eb] at h3
        cases h3
      | many =>
        have h3 : (match wr g b with | .num n => capO (if w = "plus" then m + n else m * n) | o => o) = .num n := h2
        rw [eb] at h3
        cases h3
    | nam z =>
      rw [ea] at h2
      cases h2
    | many =>
      rw [ea] at h2
      cases h2
/-- what comes of the pieces es behind the stack st -/
def RunsW (g : Str → Option Int) (res : Oc) : List (Tr × Nat) → List Int → Prop
  | [], st => ∃ n, res = .num n ∧ st = [n]
  | (.leaf _ x, _) :: es, st => (∃ n, ((x = .int n) ∨ ∃ z, x = .str z ∧ g z = some n) ∧ (n < TG → RunsW g res es (st ++ [n])) ∧ (¬ n < TG → res = .many)) ∨ ∃ z, x = .str z ∧ g z = none ∧ res = .nam z
  | (.n0 _, _) :: _, _ => False
  | (.n1 _ _, _) :: es, st => ∃ s0 a, st = s0 ++ [a] ∧ 0 ≤ a ∧ a < TG ∧ (a + 1 < TG → RunsW g res es (s0 ++ [a + 1])) ∧ (¬ a + 1 < TG → res = .many)
  | (.n2 w _ _, _) :: es, st => ∃ s0 a b, st = s0 ++ [a] ++ [b] ∧ 0 ≤ a ∧ a < TG ∧ 0 ≤ b ∧ b < TG ∧ ∀ c, c = (if w = "plus" then a + b else a * b) → (c < TG → RunsW g res es (s0 ++ [c])) ∧ (¬ c < TG → res = .many)
theorem runsW_post {g : Str → Option Int} (hg : ∀ z n, g z = some n → 0 ≤ n) {res : Oc} : ∀ (t : Tr) (r : Nat) (es : List (Tr × Nat)) (st : List Int), t.Tm → (∀ n, wr g t = .num n → RunsW g res es (st ++ [n])) → ((∀ n, wr g t ≠ .num n) → res = wr g t) → RunsW g res (t.post r ++ es) st
  | .leaf w x, r, es, st, tm, yes, no => by
    have fin : ∀ n, wr g (.leaf w x) = capO n → (n < TG → RunsW g res es (st ++ [n])) ∧ (¬ n < TG → res = .many) := fun n e =>
      ⟨fun c => yes n (by rw [e]; exact cap_lt c), fun c => by
        have z := no fun m em => by
          rw [e, cap_ge c] at em
          cases em
        rw [z, e, cap_ge c]⟩
    rcases tm with ⟨_, m, e, p, _⟩ | ⟨_, z, e⟩
    · subst e
      exact .inl ⟨m, .inl rfl, fin m rfl⟩
    · subst e
      cases eg : g z with
      | none =>
        have ew : wr g (.leaf w (.str z)) = .nam z := by
          show (match g z with | some n => capO n | none => Oc.nam z) = _
          rw [eg]
        refine .inr ⟨z, rfl, eg, ?_⟩
        have y := no fun m em => by
          rw [ew] at em
          cases em
        rw [y, ew]
      | some n => exact .inl ⟨n, .inr ⟨z, rfl, eg⟩, fin n (by
          show (match g z with | some n => capO n | none => Oc.nam z) = _
          rw [eg])⟩
  | .n1 w a, r, es, st, tm, yes, no => by
    show RunsW g res (a.post _ ++ [(.n1 w a, r)] ++ es) st
    rw [List.append_assoc]
    refine runsW_post hg a _ _ _ tm.2 (fun m em => ?_) fun na => ?_
    · obtain ⟨p, lt⟩ := wr_pos hg a tm.2 m em
      have e : wr g (.n1 w a) = capO (m + 1) := by
        show (match wr g a with | .num m => capO (m + 1) | o => o) = _
        rw [em]
      exact ⟨st, m, rfl, p, lt, fun c => yes _ (by rw [e]; exact cap_lt c), fun c => by
        have z := no fun k ek => by
          rw [e, cap_ge c] at ek
          cases ek
        rw [z, e, cap_ge c]⟩
    · have e : wr g (.n1 w a) = wr g a := by
        show (match wr g a with | .num m => capO (m + 1) | o => o) = _
        cases h : wr g a with
        | num m => exact absurd h (na m)
        | nam z => rfl
        | many => rfl
      rw [← e]
      exact no fun n en => na n (by rw [← e]; exact en)
  | .n2 w a b, r, es, st, tm, yes, no => by
    show RunsW g res (a.post _ ++ b.post _ ++ [(.n2 w a b, r)] ++ es) st
    rw [List.append_assoc, List.append_assoc]
    refine runsW_post hg a _ _ _ tm.2.1 (fun m em => runsW_post hg b _ _ _ tm.2.2 (fun k ek => ?_) fun nb => ?_) fun na => ?_
    · obtain ⟨p, lt⟩ := wr_pos hg a tm.2.1 m em
      obtain ⟨p2, lt2⟩ := wr_pos hg b tm.2.2 k ek
      refine ⟨st, m, k, rfl, p, lt, p2, lt2, fun c ec => ?_⟩
      have e : wr g (.n2 w a b) = capO c := by
        show (match wr g a with | .num m => (match wr g b with | .num n => capO (if w = "plus" then m + n else m * n) | o => o) | o => o) = _
        rw [em, ek, ec]
      exact ⟨fun c2 => yes _ (by rw [e]; exact cap_lt c2), fun c2 => by
        have z := no fun k2 ek2 => by
          rw [e, cap_ge c2] at ek2
          cases ek2
        rw [z, e, cap_ge c2]⟩
    · have e : wr g (.n2 w a b) = wr g b := by
        show (match wr g a with | .num m => (match wr g b with | .num n => capO (if w = "plus" then m + n else m * n) | o => o) | o => o) = _
        rw [em]
        cases h : wr g b with
        | num m => exact absurd h (nb m)
        | nam z => rfl
        | many => rfl
      rw [← e]
      exact no fun n en => nb n (by rw [← e]; exact en)
    · have e : wr g (.n2 w a b) = wr g a := by
        show (match wr g a with | .num m => (match wr g b with | .num n => capO (if w = "plus" then m + n else m * n) | o => o) | o => o) = _
        cases h : wr g a with
        | num m => exact absurd h (na m)
        | nam z => rfl
        | many => rfl
      rw [← e]
      exact no fun n en => na n (by rw [← e]; exact en)
/-! ### worth -/
abbrev sWorth : Stmt := top 14
abbrev wN : List Str := ["term", "numbers", "done", "piece", "_", "word", "number", "right", "left"]
theorem scWorth : FnScope wN ["term", "numbers"] (defScope sWorth) := ⟨rfl, rfl, rfl, by decide +kernel, rfl, by decide +kernel, by decide +kernel⟩
theorem post_tm : ∀ (t : Tr) (r : Nat), t.Tm → ∀ e ∈ t.post r, e.1.Tm
  | .leaf w x, r, h, e, he => by rw [List.mem_singleton.mp he]; exact h
  | .n1 w a, r, h, e, he => by
    rcases List.mem_append.mp he with z | z
    · exact post_tm a _ h.2 e z
    · rw [List.mem_singleton.mp z]
      exact h
  | .n2 w a b, r, h, e, he => by
    rcases List.mem_append.mp he with z | z
    · rcases List.mem_append.mp z with z | z
      · exact post_tm a _ h.2.1 e z
      · exact post_tm b _ h.2.2 e z
    · rw [List.mem_singleton.mp z]
      exact h
theorem post_sub : ∀ (t : Tr) (r : Nat), ∀ e ∈ t.post r, ∀ z ∈ e.1.names, z ∈ t.names
  | .leaf w x, r, e, he, z, hz => by rw [List.mem_singleton.mp he] at hz; exact hz
  | .n0 w, r, e, he, z, hz => by rw [List.mem_singleton.mp he] at hz; exact hz
  | .n1 w a, r, e, he, z, hz => by
    rcases List.mem_append.mp he with y | y
    · exact post_sub a _ e y z hz
    · rw [List.mem_singleton.mp y] at hz
      exact hz
  | .n2 w a b, r, e, he, z, hz => by
    rcases List.mem_append.mp he with y | y
    · rcases List.mem_append.mp y with y | y
      · exact List.mem_append.mpr (.inl (post_sub a _ e y z hz))
      · exact List.mem_append.mpr (.inr (post_sub b _ e y z hz))
    · rw [List.mem_singleton.mp y] at hz
      exact hz
/-- the module's TooMany -/
structure Many (K : PySem.W.Frag) (mg : Str → Option Value) (TM : Addr) : Prop where
  isC : ∃ bm nw ini, PySem.W.excIn K TM bm nw = true ∧ ExcBaseFacts "ValueError" nw ini bm
  at_ : mg "TooMany" = some (.ref TM)
  kept : PySem.W.keepIn K (.ref TM) = true
  sub : PySem.W.subIn K (.ref TM) (.type "BaseException") = some true
  ty : PySem.W.typeIn K (.ref TM) = some (.type "type")
/-- the numbers, as the dict at d tells them -/
def NumsAt (H : Hp) (d : Addr) (t : Tr) (g : Str → Option Int) : Prop := ∃ kvs : List (Key × V), H d = some (.dK kvs) ∧ ∀ z ∈ t.names, valV kvs (.inr z) = (g z).map V.int
def spWorth (TM NN : Addr) : Sp := fun vs H Q E => ∃ (v1 : V) (d : Addr) (t : Tr) (g : Str → Option Int), vs = [v1, .ref d] ∧ At H t v1 ∧ t.Ok ∧ t.Tm ∧ t.deep ≤ 12 ∧ NumsAt H d t g ∧ (∀ z n, g z = some n → 0 ≤ n) ∧
  (∀ n H', wr g t = .num n → Same H H' → Q (.int n) H') ∧ (∀ H', wr g t = .many → Same H H' → E (.ref TM) none H') ∧ ∀ z dd H', wr g t = .nam z → Same H H' → H' dd = some (.xd [(Str.ofString "name", .str z)]) → E (.ref NN) (some dd) H'
theorem joinS {C G : L2.St → Hp → Prop} {M : Prop} (main : (∀ σ H, C σ H → G σ H) → M) (rest : ∀ σ H, C σ H → G σ H) : M := main rest
theorem same_wd {k : Str} {A B : Prop} (h : A) : if decide (V.str k = V.str k) = true then A else B := by
  rw [if_pos (decide_eq_true rfl)]
  exact h
theorem other_wd {k l : Str} {A B : Prop} (ne : k ≠ l) (h : B) : if decide (V.str k = V.str l) = true then A else B := by
  rw [if_neg fun z => ne (by have q := of_decide_eq_true z; injection q)]
  exact h
/-- X(), X an own exception class without own __init__ -/
theorem pmk_own0 {X : Cx} {C : Addr} {bmB : List Value} {B newId initId : String} {x : Str} {p pos : Pos} (F : ExcBaseFacts B newId initId bmB) (isC : PySem.W.excIn X.K C bmB newId = true) (at_ : X.mg x = some (.ref C)) (kept : PySem.W.keepIn X.K (.ref C) = true) (can : Raises X (.ref C)) (gl : Gl X x)
    (nd : (x == ("__debug__" : Str)) = false := by decide) : PMk X (.Call (.Name x p) [] [] pos) (fun _ H Q => Q (.ref C) none H) := by
  intro pins s σ H Q I told
  refine wpAny_Call_Name_kw (ld_glob I gl at_ (PySem.W.callWith_K0 (first := []) I.kIn kept ?_) nd)
  obtain ⟨bm, N, nm, qn, bs, hdct, sn, sub, ab, col, dd, k0, k1, k2, k3, k5, mN, hC, hN, hni, T⟩ := exc_obj I.kIn isC
  exact wpAny_call_exc_subT F T hC hN hni (fun h' e made => mk_of I made can told (I.hok.gone made.new)) (by decide)
section
variable {P : Program} {w : World} {K : PySem.W.Frag} {mg : Str → Option Value} {base : Heap}
theorem ok_worth {f gp TM NN fI : Addr} {fd dp dI : FuncData} {tk : Tok} (F : Fun K "worth" "worth" sWorth f fd) (G : FnOk P w K mg base CX0 2 gp dp ["thing"] spPieces) (bG : Binds K dp ["thing"] []) (kG : PySem.W.keepIn K (.ref gp) = true) (mG : mg "pieces_of" = some (.ref gp))
    (M : Many K mg TM) (N : NoNum K mg NN fI dI) (mT : mg "TOO_GREAT" = some (.int TG tk)) : FnOk P w K mg base (L2.CX P w) 3 f fd ["term", "numbers"] (spWorth TM NN) := by
  obtain ⟨bm, nw, ini, isC, FB⟩ := M.isC
  have gI := ok_ini (P := P) (w := w) (base := base) N
  refine F.okX scWorth (fun vs H Q E h => ?_) (fun cdv A outer s H vs Q E hr h => ?_)
  · obtain ⟨v1, d, t, v, rfl, _⟩ := h
    rfl
  obtain ⟨v1, d, t, g, rfl, hA, hO, hM, hd, ⟨kvs, hK, hv⟩, pos, qy, qn, qz⟩ := h
  have u1 : (A.deeper (envOfC "worth" (defScope sWorth) s.heap.objs.size f cdv)).units + 1 < cLine := by
    have := hr.units
    omega
  refine ⟨_, pss_cons (ps_set (i := 2) scWorth.nd rfl (.inl rfl) (pe_lst pa_nil))
    (pss_cons (ps_for (passes_of rfl) rfl (pi_list (pe_call G hr (by rfl) mG kG bG .nil pass0 (pa_cons (pv 0) pa_nil))) (pg_tup (by rfl) (pgs_cons (pg_name (i := 3) scWorth.nd rfl (.inl rfl)) (pgs_cons (pg_name (i := 4) scWorth.nd rfl (.inl rfl)) pgs_nil)))
      (pss_cons (ps_set (i := 5) scWorth.nd rfl (.inl rfl) (pe_ix ix_tup (pv 3) pe_int (fun _ _ => rfl)))
      (pss_cons (ps_if (pt_cmpR op_eq (pv 5) pe_str (nomark _)) (pss_one (ps_set (i := 6) scWorth.nd rfl (.inl rfl) (pe_ix ix_tup (pv 3) pe_int (fun _ _ => rfl))))
        (pss_one (ps_if (pt_cmpR op_eq (pv 5) pe_str (nomark _))
          (pss_cons (ps_if (pt_cmp (pc_dnotin u1 (pe_ix ix_tup (pv 3) pe_int (fun _ _ => rfl)) (pv 1))) (pss_one (ps_raise rfl (takes_of rfl rfl rfl rfl) (pmk_oex N.ox N.ini N.tyI gI hr N.b .nil pass0 (by rfl) N.at_ (pa_cons (pe_ix ix_tup (pv 3) pe_int (fun _ _ => rfl)) pa_nil)))) pss_nil) (pss_one (ps_set (i := 6) scWorth.nd rfl (.inl rfl) (pe_dget u1 (pv 1) (pe_ix ix_tup (pv 3) pe_int (fun _ _ => rfl)) (fun _ _ => rfl)))))
          (pss_one (ps_if (pt_cmpR op_eq (pv 5) pe_str (nomark _)) (pss_one (ps_set (i := 6) scWorth.nd rfl (.inl rfl) (pe_op op_add (pe_bm0 PySem.F.plainAttrs_list PySem.F.slot_list_pop PySem.F.type_list_pop mt_pop (pv 2)) pe_int)))
            (pss_cons (ps_set (i := 7) scWorth.nd rfl (.inl rfl) (pe_bm0 PySem.F.plainAttrs_list PySem.F.slot_list_pop PySem.F.type_list_pop mt_pop (pv 2)))
            (pss_cons (ps_set (i := 8) scWorth.nd rfl (.inl rfl) (pe_bm0 PySem.F.plainAttrs_list PySem.F.slot_list_pop PySem.F.type_list_pop mt_pop (pv 2)))
            (pss_one (ps_set (i := 6) scWorth.nd rfl (.inl rfl) (pe_ifExp (pt_cmpR op_eq (pv 5) pe_str (nomark _)) (pe_op op_add (pv 8) (pv 7)) (pe_op op_mulX (pv 8) (pv 7))))))))))))
      (pss_cons (ps_if (pt_cmpR op_ge (pv 6) (pe_glob (v := .int TG) (by rfl) mT ⟨_, rfl⟩) (nomark _)) (pss_one (ps_raise rfl (takes_of rfl rfl rfl rfl) (pmk_own0 FB isC M.at_ M.kept (raises_own M.sub M.ty) (by rfl)))) pss_nil)
      (pss_one (ps_expr (pe_bm PySem.F.plainAttrs_list PySem.F.slot_list_append PySem.F.type_list_append mt_append (pv 2) (pa_cons (pv 6) pa_nil))))))))
    (pss_one (ps_ret (pe_ix ix_list (pv 2) pe_int (fun _ _ => rfl))))), ?_⟩
  refine ⟨Nat.zero_le _, fun pd nd => ?_⟩
  have s1 : Same H (upd H pd (.lst [])) := same_new nd
  refine ⟨_, rfl, v1, t, rfl, hA.keep (tups_same s1), hO, hd, fun p H1 vf sm np hp rows => ?_⟩
  have hD1 : H1 pd = some (.lst []) := sm _ _ upd_same
  have npd : p ≠ pd := fun z => by
    rw [z, upd_same] at np
    cases np
  have ndd : d ≠ pd := ne_of_none hK nd
  have hK1 : H1 d = some (.dK kvs) := sm _ _ (s1 _ _ hK)
  have lenP : vf.length ≤ 4096 := by
    have l1 := rows.len
    rw [post_len] at l1
    have l3 := size_deep t
    have l4 : 2 ^ t.deep ≤ 2 ^ 12 := Nat.pow_le_pow_right (by decide) hd
    omega
  have sH : ∀ {H' : Hp}, But pd H1 H' → Same H H' := fun b c u e => b c u (ne_of_none e nd) (sm _ _ (s1 _ _ e))
  refine ⟨p, rfl, ⟨_, .inl (.inl hp)⟩, for_list (K := K) (a := p) (xs := vf) (fun i σ H' => ∃ (st : List Int) (y3 y4 y5 y6 y7 y8 : Option V), σ = [some v1, some (.ref d), some (.ref pd), y3, y4, y5, y6, y7, y8] ∧ But pd H1 H' ∧ H' pd = some (.lst (st.map V.int)) ∧ RunsW g (wr g t) ((t.post 0).drop i) st ∧ st.length ≤ i)
    ⟨[], none, none, none, none, none, none, rfl, But.refl _ _, hD1, ?_, Nat.le_refl _⟩ (fun i σ H' _ ⟨_, _, _, _, _, _, _, _, b, _⟩ => .inl (.inl (b _ _ npd hp))) ?_ ?_⟩
  · have z := runsW_post (g := g) pos (res := wr g t) t 0 [] [] hM (fun n e => ⟨n, e, rfl⟩) (fun _ => rfl)
    rw [List.append_nil] at z
    exact z
  · rintro i y σ H' hy ⟨st, y3, y4, y5, y6, y7, y8, rfl, b, hD, runs, lst⟩
    obtain ⟨⟨t1, r1⟩, he, ⟨q1, x1, rfl, h1, a1⟩⟩ := rows.get hy
    have k1 : Tups H1 H' := b.tups hD1
    have a2 : At H' t1 x1 := At.keep k1 a1
    have mem1 := List.mem_of_getElem? he
    have ok1 : t1.Ok := post_ok t 0 hO (t1, r1) mem1
    have tm1 : t1.Tm := post_tm t 0 hM (t1, r1) mem1
    have il : i < (t.post 0).length := (List.getElem?_eq_some_iff.mp he).1
    have ed : (t.post 0).drop i = (t1, r1) :: (t.post 0).drop (i + 1) := by
      rw [List.drop_eq_getElem_cons il, (List.getElem?_eq_some_iff.mp he).2]
    rw [ed] at runs
    have lenI : i < vf.length := by rw [← rows.len]; exact il
    obtain ⟨p1, us, rfl, hp1, lus, kids, leafs⟩ := a2.view ok1
    refine ⟨q1, [.ref p1, .int (r1 : Int)], rfl, .inl (.inl (k1 _ _ h1)), rfl, .ref p1, [.int (r1 : Int)], rfl, .int (r1 : Int), [], rfl, rfl, ?_⟩
    refine ⟨_, rfl, p1, _, 0, _, rfl, rfl, .inl (.inl hp1), head_at _ _, ?_⟩
    apply joinS (C := fun σ X => ∃ (n : Int) (st2 : List Int) (y3 y4 y5 y7 y8 : Option V), σ = [some v1, some (.ref d), some (.ref pd), y3, y4, y5, some (.int n), y7, y8] ∧ But pd H1 X ∧ X pd = some (.lst (st2.map V.int)) ∧ st2.length ≤ i ∧ (n < TG → RunsW g (wr g t) ((t.post 0).drop (i + 1)) (st2 ++ [n])) ∧ (¬ n < TG → wr g t = .many))
    · intro rest
      cases t1 with
      | leaf wd x =>
        obtain ⟨x2, ex, eu⟩ := leafs ok1.1
        have ex2 : x = x2 := by injection ex
        subst ex2
        subst eu
        rcases tm1 with ⟨rfl, m, em, _⟩ | ⟨rfl, z, ez⟩
        · subst em
          obtain ⟨n, en, r1', r2'⟩ : ∃ n, ((V.int m = .int n) ∨ ∃ z, V.int m = .str z ∧ g z = some n) ∧ (n < TG → RunsW g (wr g t) ((t.post 0).drop (i + 1)) (st ++ [n])) ∧ (¬ n < TG → wr g t = .many) := by
            rcases runs with h | ⟨z, e, _⟩
            · exact h
            · cases e
          have e : n = m := by
            rcases en with e | ⟨z, e, _⟩
            · injection e with e
              exact e.symm
            · cases e
          subst e
          refine ⟨_, rfl, rfl, _, rfl, same_wd ?_⟩
          refine ⟨_, rfl, p1, _, 1, _, rfl, rfl, .inl (.inl hp1), atI_nat (j := 1) rfl, ?_⟩
          dsimp only [gName, List.set]
          exact rest _ H' ⟨n, st, _, _, _, _, _, rfl, b, hD, lst, r1', r2'⟩
        · subst ez
          have hz0 : z ∈ (Tr.leaf "name" (.str z)).names := by
            rw [show (Tr.leaf "name" (.str z)).names = [z] from if_pos rfl]
            exact List.mem_singleton.mpr rfl
          have hkz : valV kvs (.inr z) = (g z).map V.int := hv z (post_sub t 0 _ mem1 z hz0)
          have hKd : H' d = some (.dK kvs) := b _ _ ndd hK1
          refine ⟨_, rfl, rfl, _, rfl, other_wd (show Str.ofString "name" ≠ "num" by decide +kernel) ⟨_, rfl, rfl, _, rfl, same_wd ?_⟩⟩
          refine ⟨_, rfl, p1, _, 1, _, rfl, rfl, .inl (.inl hp1), atI_nat (j := 1) rfl, _, rfl, d, _, rfl, DGet.k (k := .inr z) hKd, ?_⟩
          cases eg : g z with
          | none =>
            have hkn : valV kvs (.inr z) = none := by rw [hkz, eg]; rfl
            have er : wr g t = .nam z := by
              rcases runs with ⟨n, en, _⟩ | ⟨z2, e2, _, e4⟩
              · rcases en with e | ⟨z2, e, e3⟩
                · cases e
                · injection e with e
                  rw [← e, eg] at e3
                  cases e3
              · injection e2 with e2
                rw [e4, e2]
            refine ⟨_, rfl, ?_⟩
            rw [hkn]
            refine iteT ?_
            refine ⟨_, rfl, p1, _, 1, _, rfl, rfl, .inl (.inl hp1), atI_nat (j := 1) rfl, (by show 1 ≤ 1000; decide), fun a na => ?_⟩
            refine ⟨a, z, rfl, upd_same, fun dx ndx ne => ?_⟩
            have nx : H' dx = none := by
              rw [upd_ne ne] at ndx
              exact ndx
            refine ⟨rfl, dx, [(Str.ofString "name", .str z)], upd_same, by rw [upd_ne ne, upd_same], nx, ?_⟩
            refine qz z dx _ er (fun c u e => ?_) upd_same
            have e1 := sH b _ _ e
            have c1 : c ≠ dx := ne_of_none e1 nx
            have c2 : c ≠ a := ne_of_none e1 na
            rw [upd_ne c1, L2.del_ne c2, upd_ne c2, upd_ne c1, upd_ne c2]
            exact e1
          | some n =>
            have hks : valV kvs (.inr z) = some (.int n) := by rw [hkz, eg]; rfl
            obtain ⟨r1', r2'⟩ : (n < TG → RunsW g (wr g t) ((t.post 0).drop (i + 1)) (st ++ [n])) ∧ (¬ n < TG → wr g t = .many) := by
              rcases runs with ⟨m, em, f1, f2⟩ | ⟨z2, e2, e3, _⟩
              · rcases em with e | ⟨z2, e, e3⟩
                · cases e
                · injection e with e
                  rw [← e, eg] at e3
                  have e5 : n = m := by injection e3
                  rw [e5]
                  exact ⟨f1, f2⟩
              · injection e2 with e2
                rw [← e2, eg] at e3
                cases e3
            have got : DGet H' d (.str z) (some (.int n)) := by
              have g0 := DGet.k (k := .inr z) hKd
              rw [hks] at g0
              exact g0
            refine ⟨_, rfl, ?_⟩
            rw [hks]
            refine iteF ?_
            refine ⟨_, rfl, _, rfl, p1, _, 1, _, rfl, rfl, .inl (.inl hp1), atI_nat (j := 1) rfl, d, _, rfl, got, ?_⟩
            dsimp only [gName, List.set]
            exact rest _ H' ⟨n, st, _, _, _, _, _, rfl, b, hD, lst, r1', r2'⟩
      | n0 wd => exact tm1.elim
      | n1 wd a =>
        obtain ⟨rfl, _⟩ := tm1
        obtain ⟨s0, m, es, m0, m1, r1', r2'⟩ := runs
        subst es
        have hpop : ((s0 ++ [m]).map V.int)[((s0 ++ [m]).map V.int).length - 1]? = some (.int m) := by simp
        refine ⟨_, rfl, rfl, _, rfl, other_wd (show Str.ofString "next" ≠ "num" by decide +kernel) ⟨_, rfl, rfl, _, rfl, other_wd (show Str.ofString "next" ≠ "name" by decide +kernel) ⟨_, rfl, rfl, _, rfl, same_wd ?_⟩⟩⟩
        refine ⟨_, rfl, .inl ⟨rfl, _, .inl (.inl hD)⟩, pd, _, .int m, rfl, rfl, hD, hpop, ?_⟩
        refine ⟨_, _, rfl, rfl, ?_⟩
        dsimp only [gName, List.set]
        have k2 : But pd H1 (upd H' pd (.lst ((s0 ++ [m]).map V.int).dropLast)) := b.own
        refine rest _ _ ⟨m + 1, s0, _, _, _, _, _, rfl, k2, by rw [upd_same, List.map_append]; simp, by rw [List.length_append, List.length_singleton] at lst; omega, r1', r2'⟩
      | n2 wd a c =>
        obtain ⟨s0, m, k, es, m0, m1, n0, n1, fin⟩ := runs
        subst es
        have hpop : ((s0 ++ [m] ++ [k]).map V.int)[((s0 ++ [m] ++ [k]).map V.int).length - 1]? = some (.int k) := by simp
        have hpop2 : ((s0 ++ [m]).map V.int)[((s0 ++ [m]).map V.int).length - 1]? = some (.int m) := by simp
        have hw : wd ≠ "num" ∧ wd ≠ "name" ∧ wd ≠ "next" := by
          rcases tm1.1 with e | e <;> rw [e] <;> decide +kernel
        refine ⟨_, rfl, rfl, _, rfl, other_wd hw.1 ⟨_, rfl, rfl, _, rfl, other_wd hw.2.1 ⟨_, rfl, rfl, _, rfl, other_wd hw.2.2 ?_⟩⟩⟩
        refine ⟨_, rfl, .inl ⟨rfl, _, .inl (.inl hD)⟩, pd, _, .int k, rfl, rfl, hD, hpop, ?_⟩
        rw [show ((s0 ++ [m] ++ [k]).map V.int).dropLast = (s0 ++ [m]).map V.int by simp]
        refine ⟨_, rfl, .inl ⟨rfl, _, .inl (.inl upd_same)⟩, pd, _, .int m, rfl, rfl, upd_same, hpop2, ?_⟩
        rw [show ((s0 ++ [m]).map V.int).dropLast = s0.map V.int by simp]
        have k2 : But pd H1 (upd (upd H' pd (.lst ((s0 ++ [m]).map V.int))) pd (.lst (s0.map V.int))) := b.own.own
        have ls : s0.length ≤ i := by
          rw [List.length_append, List.length_append, List.length_singleton, List.length_singleton] at lst
          omega
        refine ⟨_, rfl, rfl, _, rfl, ?_⟩
        by_cases cw : wd = "plus"
        · subst cw
          have f := fin (m + k) (if_pos rfl).symm
          refine same_wd ⟨_, rfl, _, rfl, _, _, rfl, rfl, ?_⟩
          dsimp only [gName, List.set]
          exact rest _ _ ⟨m + k, s0, _, _, _, _, _, rfl, k2, upd_same, ls, f.1, f.2⟩
        · have f := fin (m * k) (if_neg cw).symm
          refine other_wd cw ⟨_, rfl, _, rfl, _, _, rfl, rfl, ?_, ?_⟩
          · have bits : ∀ x : Int, 0 ≤ x → x < TG → Builtin.Int.intBits x ≤ 200 := fun x p q => PyProof.Rows.intBits_le (k := 200) (by
              have q2 : x < 10 ^ 60 := q
              have q3 : x.natAbs < 10 ^ 60 := by omega
              exact Nat.lt_of_lt_of_le q3 (by decide))
            have e1 := bits m m0 m1
            have e2 := bits k n0 n1
            unfold CMulX
            omega
          dsimp only [gName, List.set]
          exact rest _ _ ⟨m * k, s0, _, _, _, _, _, rfl, k2, upd_same, ls, f.1, f.2⟩
    · rintro σ X ⟨n, st2, y3, y4, y5, y7, y8, rfl, bX, hX, l2, f1, f2⟩
      refine ⟨_, rfl, _, _, rfl, rfl, _, rfl, ?_⟩
      refine ite2 (fun c => ?_) (fun c => ?_)
      · exact qn _ (f2 (by have := of_decide_eq_true c; omega)) (sH bX)
      · have lt : n < TG := by
          have q : ¬ TG ≤ n := fun z => c (decide_eq_true z)
          omega
        refine ⟨_, rfl, .inl ⟨rfl, _, .inl (.inl hX)⟩, _, rfl, pd, _, .int n, rfl, rfl, hX, line_of (by rw [List.length_map]; omega), ?_⟩
        refine ⟨st2 ++ [n], _, _, _, _, _, _, rfl, bX.own, by rw [upd_same, List.map_append]; rfl, f1 lt, ?_⟩
        rw [List.length_append, List.length_singleton]
        omega
  · rintro σ H' ⟨st, y3, y4, y5, y6, y7, y8, rfl, b, hD, runs, lst⟩
    rw [← rows.len, List.drop_length] at runs
    obtain ⟨n, en, rfl⟩ := runs
    refine ⟨_, rfl, pd, _, 0, _, rfl, rfl, .inl (.inl hD), atI_nat (j := 0) rfl, ?_⟩
    exact qy n _ en (sH b)
end
end Kf
set_option Elab.async false
set_option linter.all false
set_option maxRecDepth 100000
set_option maxHeartbeats 4000000
set_option pp.maxSteps 600
/-! k04: the law's way to ask a worth. -/
namespace Kf
open PySem PySem.Spec PyProof.Rows L2 Sx Xk
abbrev sTold : Stmt := top 22
abbrev toldN : List Str := ["term", "numbers", "found", "caught", "e"]
theorem scTold : FnScope toldN ["term", "numbers"] (defScope sTold) := ⟨rfl, rfl, rfl, by decide +kernel, rfl, by decide +kernel, by decide +kernel⟩
def ov : Oc → V
  | .num n => .int n
  | .nam z => .str z
  | .many => .non
/-- the classes of refusals that the law looks at -/
structure Errs (K : PySem.W.Frag) (mg : Str → Option Value) (TM GE NN NT NG NW : Addr) : Prop where
  mT : mg "TooMany" = some (.ref TM)
  mG : mg "GroundError" = some (.ref GE)
  mN : mg "NoNumber" = some (.ref NN)
  mX : mg "NoText" = some (.ref NT)
  mR : mg "NoGround" = some (.ref NG)
  mW : mg "NoWorth" = some (.ref NW)
  upT : PySem.W.exmOne K (.ref TM) (.ref GE) = some true
  upN : PySem.W.exmOne K (.ref NN) (.ref GE) = some true
  clT : ExcC K TM
  clN : ExcC K NN
  anyT : PySem.W.kitAny K (.ref TM) [.ref NT, .ref NG, .ref NW] = some false
  anyN : PySem.W.kitAny K (.ref NN) [.ref NT, .ref NG, .ref NW] = some false
  veT : PySem.W.kitOne K (.ref TM) (.type "ValueError") = some true
  veN : PySem.W.kitOne K (.ref NN) (.type "ValueError") = some true
  tt : PySem.W.kitOne K (.ref TM) (.ref TM) = some true
  tn : PySem.W.kitOne K (.ref TM) (.ref NN) = some false
  nt : PySem.W.kitOne K (.ref NN) (.ref TM) = some false
  nn : PySem.W.kitOne K (.ref NN) (.ref NN) = some true
  xf : XfC K NN
  zIs : mg "isinstance" = none
  zInt : mg "int" = none
  zBool : mg "bool" = none
  zVE : mg "ValueError" = none
/-- what a callee lets out, told for the names that are there -/
theorem passes_len {X : Cx} {W : WX} {E : XK} (tk : Takes X W) (hW : ∀ cls d σ H, σ.length = X.N.length → E cls d H → W cls d σ H) : Passes (L2.CX X.prog X.w) X E :=
  fun pins σ H s e s' I c => tk e s' (XE.of_call I (fun cls d H' h => hW cls d σ H' I.len h) c)
def spTold : Sp := fun vs H Q _ => ∃ (v1 : V) (d : Addr) (t : Tr) (g : Str → Option Int), vs = [v1, .ref d] ∧ At H t v1 ∧ t.Ok ∧ t.Tm ∧ t.deep ≤ 12 ∧ NumsAt H d t g ∧ (∀ z n, g z = some n → 0 ≤ n) ∧ ∀ H', Same H H' → Q (ov (wr g t)) H'
section
variable {P : Program} {w : World} {K : PySem.W.Frag} {mg : Str → Option Value} {base : Heap}
theorem ok_told {f gw TM GE NN NT NG NW fI : Addr} {fd dw dI : FuncData} (F : Fun K "_law_told" "_law_told" sTold f fd) (G : FnOk P w K mg base (L2.CX P w) 3 gw dw ["term", "numbers"] (spWorth TM NN)) (bG : Binds K dw ["term", "numbers"] []) (kG : PySem.W.keepIn K (.ref gw) = true) (mG : mg "worth" = some (.ref gw))
    (M : Errs K mg TM GE NN NT NG NW) (N : NoNum K mg NN fI dI) : FnOk P w K mg base CX0 4 f fd ["term", "numbers"] spTold := by
  refine F.ok scTold (fun vs H Q E h => ?_) (fun cdv A outer s H vs Q E hr h => ?_)
  · obtain ⟨v1, d, t, g, rfl, _⟩ := h
    rfl
  obtain ⟨v1, d, t, g, rfl, hA, hO, hM, hd, hN, pos, q⟩ := h
  refine ⟨_, pss_cons (ps_set (i := 2) scTold.nd rfl (.inl rfl) pe_non)
    (pss_cons (ps_set (i := 3) scTold.nd rfl (.inl rfl) pe_non)
    (pss_cons (ps_try_hold (i := 4) (c := .ref GE) rfl rfl scTold.nd rfl rfl ⟨by rfl, by decide, .inl M.mG⟩ L2.takes0 rfl
      (fun W pn xe tk _ => pss_one (ps_set (i := 2) scTold.nd rfl (.inl rfl) (pe_call (E := fun cls d H => ∀ σ : L2.St, σ.length = 5 → W cls d σ H) G hr (by rfl) mG kG bG .nil (passes_len tk fun cls d σ H l h => h σ l) (pa_cons (pv 0) (pa_cons (pv 1) pa_nil)))))
      (fun a oe cls d pn _ _ => pss_one (ps_set (i := 3) scTold.nd rfl (.inl rfl) (pv 4))))
    (pss_cons (ps_if (pt_cmpR op_isN (pv 3) pe_non (nomark _))
      (pss_one (ps_ret (pe_ifExp (PW.pt (pw_and (pt_val (pe_callB call_isi (by rfl) M.zIs (by decide +kernel) (pa_cons (pv 2) (pa_cons (pe_bltn (v := .ty "int") (by rfl) M.zInt (by decide +kernel) rfl) pa_nil)))) (pw_and1 (pt_not (pt_val (pe_callB call_isi (by rfl) M.zIs (by decide +kernel) (pa_cons (pv 2) (pa_cons (pe_bltn (v := .ty "bool") (by rfl) M.zBool (by decide +kernel) rfl) pa_nil)))))))) (pv 2) pe_str))) pss_nil)
    (pss_cons (ps_if (PW.pt (pw_or (pt_val (pe_callB call_isXT (by rfl) M.zIs (by decide +kernel) (pa_cons (pv 3) (pa_cons (pe_tup (pa_cons (pe_glob (v := .ref NT) (by rfl) M.mX rfl) (pa_cons (pe_glob (v := .ref NG) (by rfl) M.mR rfl) (pa_cons (pe_glob (v := .ref NW) (by rfl) M.mW rfl) pa_nil)))) pa_nil))))
        (pw_or1 (pt_not (pt_val (pe_callB call_isX (by rfl) M.zIs (by decide +kernel) (pa_cons (pv 3) (pa_cons (pe_bltn (v := .ty "ValueError") (by rfl) M.zVE (by decide +kernel) rfl) pa_nil)))))))) (pss_one (ps_ret pe_str)) pss_nil)
    (pss_cons (ps_if (PW.pt (pw_and (pt_val (pe_callB call_isX (by rfl) M.zIs (by decide +kernel) (pa_cons (pv 3) (pa_cons (pe_glob (v := .ref TM) (by rfl) M.mT rfl) pa_nil)))) (pw_and1 (pt_not (pt_val (pe_callB call_isX (by rfl) M.zIs (by decide +kernel) (pa_cons (pv 3) (pa_cons (pe_glob (v := .ref NN) (by rfl) M.mN rfl) pa_nil)))))))) (pss_one (ps_ret pe_non)) pss_nil)
    (pss_one (ps_ret (pe_ifExp (PW.pt (pw_and (pt_val (pe_callB call_isX (by rfl) M.zIs (by decide +kernel) (pa_cons (pv 3) (pa_cons (pe_glob (v := .ref NN) (by rfl) M.mN rfl) pa_nil)))) (pw_and1 (pt_not (pt_val (pe_callB call_isX (by rfl) M.zIs (by decide +kernel) (pa_cons (pv 3) (pa_cons (pe_glob (v := .ref TM) (by rfl) M.mT rfl) pa_nil)))))))) (pe_fieldX M.xf N.noN (pv 3)) pe_str)))))))), ?_⟩
  refine ⟨_, rfl, _, rfl, v1, d, t, g, rfl, hA, hO, hM, hd, hN, pos, fun n H' e sm => ?_, fun H' e sm σ l => ?_, fun z dd H' e sm hx σ l => ?_⟩
  · refine ⟨_, rfl, rfl, _, rfl, iteT ?_⟩
    refine ⟨_, rfl, _, _, _, _, true, rfl, .ty "int", .base (.int n), kit_ty (by decide +kernel), _, rfl, ?_⟩
    refine iteT ⟨_, rfl, _, _, _, _, false, rfl, .ty "bool", .base (.int n), kit_ty (by decide +kernel), _, rfl, ?_⟩
    refine iteT ⟨_, rfl, ?_⟩
    have z := q H' sm
    rw [e] at z
    exact z
  · refine ⟨true, M.upT, fun _ a na => ?_, fun z => by cases z⟩
    match σ, l with
    | [y0, y1, y2, y3, y4], _ =>
      refine ⟨_, rfl, fun _ => ?_⟩
      have sX : Same H' (upd H' a (ExK (.ref TM) none a)) := same_new na
      have eA : upd H' a (ExK (.ref TM) none a) a = some (ExK (.ref TM) none a) := upd_same
      generalize upd H' a (ExK (.ref TM) none a) = X1 at sX eA
      refine ⟨_, rfl, rfl, _, rfl, ?_⟩
      rw [show decide (V.ref a = V.non) = false from decide_eq_false (fun z => by cases z)]
      refine iteF ?_
      refine ⟨_, rfl, (by show 3 ≤ sizeLine; decide), fun tp np => ?_⟩
      have sY := same_new (o := .tup [.ref NT, .ref NG, .ref NW]) np
      have eB := sY _ _ eA
      have eT : upd X1 tp (.tup [.ref NT, .ref NG, .ref NW]) tp = _ := upd_same
      generalize upd X1 tp (.tup [.ref NT, .ref NG, .ref NW]) = X2 at sY eB eT
      refine ⟨a, TM, tp, none, _, _, false, rfl, eB, .inl rfl, M.clT, eT, .cons (.own NT) (.cons (.own NG) (.cons (.own NW) .nil)), M.anyT, _, rfl, ?_⟩
      refine iteF ⟨_, rfl, a, TM, none, _, _, true, rfl, eB, .inl rfl, M.clT, .ty "ValueError", M.veT, _, rfl, ?_⟩
      refine iteF ?_
      refine ⟨_, rfl, a, TM, none, _, _, true, rfl, eB, .inl rfl, M.clT, .own TM, M.tt, _, rfl, ?_⟩
      refine iteT ⟨_, rfl, a, TM, none, _, _, false, rfl, eB, .inl rfl, M.clT, .own NN, M.tn, _, rfl, ?_⟩
      refine iteT ?_
      have z := q _ (sm.trans (sX.trans sY))
      rw [e] at z
      exact z
  · refine ⟨true, M.upN, fun _ a na => ?_, fun z => by cases z⟩
    match σ, l with
    | [y0, y1, y2, y3, y4], _ =>
      refine ⟨_, rfl, fun _ => ?_⟩
      have sX : Same H' (upd H' a (ExK (.ref NN) (some dd) a)) := same_new na
      have eA : upd H' a (ExK (.ref NN) (some dd) a) a = some (ExK (.ref NN) (some dd) a) := upd_same
      have hx1 := sX _ _ hx
      generalize upd H' a (ExK (.ref NN) (some dd) a) = X1 at sX eA hx1
      refine ⟨_, rfl, rfl, _, rfl, ?_⟩
      rw [show decide (V.ref a = V.non) = false from decide_eq_false (fun z => by cases z)]
      refine iteF ?_
      refine ⟨_, rfl, (by show 3 ≤ sizeLine; decide), fun tp np => ?_⟩
      have sY := same_new (o := .tup [.ref NT, .ref NG, .ref NW]) np
      have eB := sY _ _ eA
      have hx2 := sY _ _ hx1
      have eT : upd X1 tp (.tup [.ref NT, .ref NG, .ref NW]) tp = _ := upd_same
      generalize upd X1 tp (.tup [.ref NT, .ref NG, .ref NW]) = X2 at sY eB eT hx2
      have dk : DictOk X2 (some dd) := .inr ⟨dd, _, rfl, hx2⟩
      refine ⟨a, NN, tp, some dd, _, _, false, rfl, eB, dk, M.clN, eT, .cons (.own NT) (.cons (.own NG) (.cons (.own NW) .nil)), M.anyN, _, rfl, ?_⟩
      refine iteF ⟨_, rfl, a, NN, some dd, _, _, true, rfl, eB, dk, M.clN, .ty "ValueError", M.veN, _, rfl, ?_⟩
      refine iteF ?_
      refine ⟨_, rfl, a, NN, some dd, _, _, false, rfl, eB, dk, M.clN, .own TM, M.nt, _, rfl, ?_⟩
      refine iteF ?_
      refine ⟨_, rfl, a, NN, some dd, _, _, true, rfl, eB, dk, M.clN, .own NN, M.nn, _, rfl, ?_⟩
      refine iteT ⟨_, rfl, a, NN, some dd, _, _, false, rfl, eB, dk, M.clN, .own TM, M.nt, _, rfl, ?_⟩
      refine iteT ⟨_, rfl, a, dd, _, .str z, rfl, eB, hx2, by simp [List.lookup], ?_⟩
      have y := q _ (sm.trans (sX.trans sY))
      rw [e] at y
      exact y
end
end Kf
set_option Elab.async false
set_option linter.all false
set_option maxRecDepth 100000
set_option maxHeartbeats 4000000
set_option pp.maxSteps 600
/-! k04: the law's own reckoning. -/
namespace Kf
open PySem PySem.Spec PyProof.Rows L2 Sx Xk
abbrev sLWorth : Stmt := top 21
abbrev lwN : List Str := ["term", "numbers", "some", "one", "found"]
theorem scLWorth : FnScope lwN ["term", "numbers"] (defScope sLWorth) := ⟨rfl, rfl, rfl, by decide +kernel, rfl, by decide +kernel, by decide +kernel⟩
theorem deep_pos : ∀ t : Tr, 1 ≤ t.deep
  | .leaf _ _ => Nat.le_refl 1
  | .n0 _ => Nat.le_refl 1
  | .n1 _ _ => Nat.le_add_left 1 _
  | .n2 _ _ _ => Nat.le_add_left 1 _
theorem kids_deep {t k : Tr} (h : k ∈ t.kids) : k.deep + 1 ≤ t.deep := by
  cases t with
  | leaf wd x => cases h
  | n0 wd => cases h
  | n1 wd a =>
    rw [List.mem_singleton.mp h]
    exact Nat.le_refl _
  | n2 wd a b =>
    rcases List.mem_cons.mp h with z | z
    · rw [z]
      exact Nat.succ_le_succ (Nat.le_max_left _ _)
    · rw [List.mem_singleton.mp z]
      exact Nat.succ_le_succ (Nat.le_max_right _ _)
theorem kids_tm {t k : Tr} (c : t.Tm) (h : k ∈ t.kids) : k.Tm := by
  cases t with
  | leaf wd x => cases h
  | n0 wd => cases h
  | n1 wd a =>
    rw [List.mem_singleton.mp h]
    exact c.2
  | n2 wd a b =>
    rcases List.mem_cons.mp h with z | z
    · rw [z]
      exact c.2.1
    · rw [List.mem_singleton.mp z]
      exact c.2.2
theorem kids_nm {t k : Tr} (h : k ∈ t.kids) : ∀ z ∈ k.names, z ∈ t.names := by
  cases t with
  | leaf wd x => cases h
  | n0 wd => cases h
  | n1 wd a =>
    rw [List.mem_singleton.mp h]
    exact fun z hz => hz
  | n2 wd a b =>
    rcases List.mem_cons.mp h with z | z
    · rw [z]
      exact fun z hz => List.mem_append.mpr (.inl hz)
    · rw [List.mem_singleton.mp z]
      exact fun z hz => List.mem_append.mpr (.inr hz)
/-- the first of its parts that has no number tells what the whole has -/
theorem wr_stop {g : Str → Option Int} {t k : Tr} {i : Nat} {ms : List Int} (nl : leafy t.word = false) (ok : t.Ok) (h : t.kids[i]? = some k) (lm : ms.length = i) (all : All2 (fun k m => wr g k = .num m) (t.kids.take i) ms) (no : ∀ n, wr g k ≠ .num n) : wr g t = wr g k := by
  cases t with
  | leaf wd x => cases h
  | n0 wd => cases h
  | n1 wd a =>
    match i, h with
    | 0, h =>
      have e : a = k := by simpa [Tr.kids] using h
      subst e
      show (match wr g a with | .num m => capO (m + 1) | o => o) = _
      cases ha : wr g a with
      | num m => exact absurd ha (no m)
      | nam z => rfl
      | many => rfl
    | i + 1, h => simp [Tr.kids] at h
  | n2 wd a b =>
    match i, h, all with
    | 0, h, _ =>
      have e : a = k := by simpa [Tr.kids] using h
      subst e
      show (match wr g a with | .num m => (match wr g b with | .num n => capO (if wd = "plus" then m + n else m * n) | o => o) | o => o) = _
      cases ha : wr g a with
      | num m => exact absurd ha (no m)
      | nam z => rfl
      | many => rfl
    | 1, h, all =>
      have e : b = k := by simpa [Tr.kids] using h
      subst e
      have all2 : All2 (fun k m => wr g k = .num m) [a] ms := all
      cases all2 with
      | cons ha _ =>
        show (match wr g a with | .num m => (match wr g b with | .num n => capO (if wd = "plus" then m + n else m * n) | o => o) | o => o) = _
        rw [ha]
        cases hb : wr g b with
        | num m => exact absurd hb (no m)
        | nam z => rfl
        | many => rfl
    | i + 2, h, _ => simp [Tr.kids] at h
theorem same_up {H H1 : Hp} {D : Addr} {o : HO} (s : Same H H1) (n : H D = none) : Same H (upd H1 D o) := fun b u e => by
  rw [upd_ne (ne_of_none e n)]
  exact s _ _ e
theorem NumsAt.same {H H' : Hp} {d : Addr} {t k : Tr} {g : Str → Option Int} (h : NumsAt H d t g) (s : Same H H') (hk : ∀ z ∈ k.names, z ∈ t.names) : NumsAt H' d k g := by
  obtain ⟨kvs, e, q⟩ := h
  exact ⟨kvs, s _ _ e, fun z hz => q z (hk z hz)⟩
section
variable {P : Program} {w : World} {K : PySem.W.Frag} {mg : Str → Option Value} {base : Heap}
def spLW (n : Nat) : Sp := fun vs H Q _ => ∃ (v1 : V) (d : Addr) (t : Tr) (g : Str → Option Int), vs = [v1, .ref d] ∧ At H t v1 ∧ t.Ok ∧ t.Tm ∧ t.deep ≤ n ∧ NumsAt H d t g ∧ (∀ z n, g z = some n → 0 ≤ n) ∧ ∀ H', Same H H' → Q (ov (wr g t)) H'
theorem ok_lw {f : Addr} {fd : FuncData} {n : Nat} (F : Fun K "_law_worth" "_law_worth" sLWorth f fd) (S : FnOk P w K mg base CX0 n f fd ["term", "numbers"] (spLW n)) (bS : Binds K fd ["term", "numbers"] []) (mS : mg "_law_worth" = some (.ref f)) (zIs : mg "isinstance" = none) (zInt : mg "int" = none) :
    FnOk P w K mg base CX0 (n + 1) f fd ["term", "numbers"] (spLW (n + 1)) := by
  refine F.ok scLWorth (fun vs H Q E h => ?_) (fun cdv A outer s H vs Q E hr h => ?_)
  · obtain ⟨v1, d, t, g, rfl, _⟩ := h
    rfl
  obtain ⟨v1, d, t, g, rfl, hA, hO, hM, hd, hN, pos, q⟩ := h
  have u1 : (A.deeper (envOfC "_law_worth" (defScope sLWorth) s.heap.objs.size f cdv)).units + 1 < cLine := by
    have := hr.units
    omega
  refine ⟨_, pss_cons (ps_if (pt_cmpR op_eq (pe_ix ix_tup (pv 0) pe_int (fun _ _ => rfl)) pe_str (nomark _)) (pss_one (ps_ret (pe_ix ix_tup (pv 0) pe_int (fun _ _ => rfl)))) pss_nil)
    (pss_cons (ps_if (pt_cmpR op_eq (pe_ix ix_tup (pv 0) pe_int (fun _ _ => rfl)) pe_str (nomark _))
      (pss_cons (ps_if (pt_cmp (pc_dnotin u1 (pe_ix ix_tup (pv 0) pe_int (fun _ _ => rfl)) (pv 1))) (pss_one (ps_ret (pe_ix ix_tup (pv 0) pe_int (fun _ _ => rfl)))) pss_nil)
      (pss_one (ps_ret (pe_ifExp (pt_cmpR op_lt (pe_dget u1 (pv 1) (pe_ix ix_tup (pv 0) pe_int (fun _ _ => rfl)) (fun _ _ => rfl)) (pe_op op_pow pe_int pe_int) (nomark _)) (pe_dget u1 (pv 1) (pe_ix ix_tup (pv 0) pe_int (fun _ _ => rfl)) (fun _ _ => rfl)) pe_non)))) pss_nil)
    (pss_cons (ps_set (i := 2) scLWorth.nd rfl (.inl rfl) (pe_lst pa_nil))
    (pss_cons (ps_for PassesOwn.never rfl (pi_tup (pe_slice sl_tup (pv 0) (po_some pe_int) po_none)) (pg_name (i := 3) scLWorth.nd rfl (.inl rfl))
      (pss_cons (ps_expr (pe_bm PySem.F.plainAttrs_list PySem.F.slot_list_append PySem.F.type_list_append mt_append (pv 2) (pa_cons (pe_call S hr (by rfl) mS F.kp bS .nil pass0 (pa_cons (pv 3) (pa_cons (pv 1) pa_nil))) pa_nil)))
      (pss_one (ps_if (pt_not (pt_val (pe_callB call_isi (by rfl) zIs (by decide +kernel) (pa_cons (pe_ix ix_list (pv 2) (pe_un un_neg pe_int) (fun _ _ => rfl)) (pa_cons (pe_bltn (v := .ty "int") (by rfl) zInt (by decide +kernel) rfl) pa_nil))))) (pss_one (ps_ret (pe_ix ix_list (pv 2) (pe_un un_neg pe_int) (fun _ _ => rfl)))) pss_nil))))
    (pss_cons (ps_if (pt_cmpR op_eq (pe_ix ix_tup (pv 0) pe_int (fun _ _ => rfl)) pe_str (nomark _)) (pss_one (ps_set (i := 4) scLWorth.nd rfl (.inl rfl) (pe_op op_add (pe_ix ix_list (pv 2) pe_int (fun _ _ => rfl)) pe_int)))
      (pss_one (ps_if (pt_cmpR op_eq (pe_ix ix_tup (pv 0) pe_int (fun _ _ => rfl)) pe_str (nomark _)) (pss_one (ps_set (i := 4) scLWorth.nd rfl (.inl rfl) (pe_op op_add (pe_ix ix_list (pv 2) pe_int (fun _ _ => rfl)) (pe_ix ix_list (pv 2) pe_int (fun _ _ => rfl)))))
        (pss_one (ps_set (i := 4) scLWorth.nd rfl (.inl rfl) (pe_op op_mulX (pe_ix ix_list (pv 2) pe_int (fun _ _ => rfl)) (pe_ix ix_list (pv 2) pe_int (fun _ _ => rfl))))))))
    (pss_one (ps_ret (pe_ifExp (pt_cmpR op_lt (pv 4) (pe_op op_pow pe_int pe_int) (nomark _)) (pv 4) pe_non))))))), ?_⟩
  have q0 := q H fun _ _ e => e
  obtain ⟨p1, us, rfl, hp1, lus, kids, leafs⟩ := hA.view hO
  refine ⟨_, rfl, p1, _, 0, _, rfl, rfl, .inl (.inl hp1), head_at _ _, rfl, _, rfl, ?_⟩
  -- leaves
  have lf : ∀ wd x, t = .leaf wd x → us = [x] := fun wd x e => by
    subst e
    obtain ⟨x2, ex, eu⟩ := leafs hO.1
    have ex2 : x = x2 := by injection ex
    rw [ex2]
    exact eu
  cases hl : leafy t.word with
  | true =>
    obtain ⟨x2, et, eu⟩ := leafs hl
    generalize ew : t.word = wd at et hp1
    subst et
    have tm2 : (wd = "num" ∧ ∃ n : Int, x2 = .int n ∧ 0 ≤ n ∧ n < TG) ∨ (wd = "name" ∧ ∃ z, x2 = .str z) := hM
    subst eu
    rcases tm2 with ⟨ew2, m, em, m0, m1⟩ | ⟨ew2, z, ez⟩
    · subst ew2 em
      refine same_wd ⟨_, rfl, p1, _, 1, _, rfl, rfl, .inl (.inl hp1), atI_nat (j := 1) rfl, ?_⟩
      rw [show wr g (.leaf "num" (.int m)) = .num m from cap_lt m1] at q0
      exact q0
    · subst ew2 ez
      obtain ⟨kvs, hK, hv⟩ := hN
      have hz0 : z ∈ (Tr.leaf "name" (.str z)).names := by
        rw [show (Tr.leaf "name" (.str z)).names = [z] from if_pos rfl]
        exact List.mem_singleton.mpr rfl
      have hkz := hv z hz0
      refine other_wd (show Str.ofString "name" ≠ "num" by decide +kernel) ⟨_, rfl, p1, _, 0, _, rfl, rfl, .inl (.inl hp1), head_at _ _, rfl, _, rfl, same_wd ?_⟩
      refine ⟨_, rfl, p1, _, 1, _, rfl, rfl, .inl (.inl hp1), atI_nat (j := 1) rfl, _, rfl, d, _, rfl, DGet.k (k := .inr z) hK, ?_⟩
      have ew3 : wr g (.leaf "name" (.str z)) = (match g z with | some n => capO n | none => Oc.nam z) := rfl
      cases eg : g z with
      | none =>
        rw [ew3, eg] at q0
        have hkn : valV kvs (.inr z) = none := by rw [hkz, eg]; rfl
        refine ⟨_, rfl, ?_⟩
        rw [hkn]
        exact iteT ⟨_, rfl, p1, _, 1, _, rfl, rfl, .inl (.inl hp1), atI_nat (j := 1) rfl, q0⟩
      | some n =>
        rw [ew3, eg] at q0
        have q0 : Q (ov (capO n)) H := q0
        have hks : valV kvs (.inr z) = some (.int n) := by rw [hkz, eg]; rfl
        have got : DGet H d (.str z) (some (.int n)) := by
          have g0 := DGet.k (k := .inr z) hK
          rw [hks] at g0
          exact g0
        refine ⟨_, rfl, ?_⟩
        rw [hks]
        refine iteF ?_
        refine ⟨_, rfl, _, rfl, p1, _, 1, _, rfl, rfl, .inl (.inl hp1), atI_nat (j := 1) rfl, d, _, rfl, got, ?_⟩
        refine ⟨_, _, rfl, rfl, ⟨by decide, by decide, by decide⟩, _, _, rfl, rfl, _, rfl, ?_⟩
        refine ite2 (fun c => ?_) (fun c => ?_)
        · have lt : n < TG := of_decide_eq_true c
          rw [cap_lt lt] at q0
          exact ⟨_, rfl, _, rfl, p1, _, 1, _, rfl, rfl, .inl (.inl hp1), atI_nat (j := 1) rfl, d, _, rfl, got, q0⟩
        · have nlt : ¬ n < TG := fun z => c (decide_eq_true z)
          rw [cap_ge nlt] at q0
          exact q0
  | false =>
    have kd := kids hl
    have len1 := kd.len
    have wn : t.word ≠ "num" ∧ t.word ≠ "name" := ⟨fun e => by rw [e] at hl; exact absurd hl (by decide +kernel), fun e => by rw [e] at hl; exact absurd hl (by decide +kernel)⟩
    refine other_wd wn.1 ⟨_, rfl, p1, _, 0, _, rfl, rfl, .inl (.inl hp1), head_at _ _, rfl, _, rfl, other_wd wn.2 ?_⟩
    refine ⟨Nat.zero_le _, fun D nD => ?_⟩
    have sD : Same H (upd H D (.lst [])) := same_new nD
    have hD0 : upd H D (.lst []) D = some (.lst []) := upd_same
    generalize upd H D (.lst []) = HD at sD hD0
    refine ⟨_, rfl, 1, rfl, p1, _, rfl, .inl (.inl (sD _ _ hp1)), cut_not _ _, fun cc nc => ?_⟩
    rw [cut_one]
    have s1 : Same HD (upd HD cc (.tup us)) := same_new nc
    have hD1 := s1 _ _ hD0
    have hc : upd HD cc (.tup us) cc = some (.tup us) := upd_same
    generalize upd HD cc (.tup us) = Hc at s1 hD1 hc
    have ncD : cc ≠ D := fun z => by
      rw [z, hD0] at nc
      cases nc
    have sHc := sD.trans s1
    refine ⟨cc, rfl, ⟨_, .inl (.inl hc)⟩, for_tup (K := K) (a := cc) (xs := us) (fun i σ H' => ∃ (y3 y4 : Option V) (ms : List Int), σ = [some (.ref p1), some (.ref d), some (.ref D), y3, y4] ∧ H' D = some (.lst (ms.map V.int)) ∧ ms.length = i ∧ All2 (fun k m => wr g k = .num m) (t.kids.take i) ms ∧ But D Hc H')
      ⟨none, none, [], rfl, hD1, rfl, .nil, But.refl _ _⟩ (fun i σ H' _ ⟨_, _, _, _, _, _, _, b⟩ => .inl (.inl (b _ _ ncD hc))) ?_ ?_⟩
    · rintro i x σ H' hx ⟨y3, y4, ms, rfl, hD, lm, am, b⟩
      obtain ⟨tk, htk, hax⟩ := kd.get hx
      have mk : tk ∈ t.kids := List.mem_of_getElem? htk
      have dk := kids_deep mk
      have bD : ∀ {Z : Hp}, But D Hc Z → Same H Z := fun bz c u e => bz c u (ne_of_none e nD) (sHc _ _ e)
      have il : i ≤ 2 := by
        have := (List.getElem?_eq_some_iff.mp hx).1
        omega
      refine ⟨_, rfl, .inl ⟨rfl, _, .inl (.inl hD)⟩, _, rfl, _, rfl, x, d, tk, g, rfl, hax.keep (tups_same (bD b)), kids_ok hO tk mk, kids_tm hM mk, by omega, hN.same (bD b) (kids_nm mk), pos, fun H6 s6 => ?_⟩
      have hD6 := s6 _ _ hD
      refine ⟨D, _, _, rfl, rfl, hD6, line_of (by rw [List.length_map]; omega), ?_⟩
      have b7 : But D Hc (upd H6 D (.lst (ms.map V.int ++ [ov (wr g tk)]))) := (b.trans (but_same s6)).own
      have hD7 : upd H6 D (.lst (ms.map V.int ++ [ov (wr g tk)])) D = some (.lst (ms.map V.int ++ [ov (wr g tk)])) := upd_same
      generalize upd H6 D (.lst (ms.map V.int ++ [ov (wr g tk)])) = H7 at b7 hD7
      refine ⟨_, rfl, _, rfl, D, _, -1, _, rfl, rfl, .inl (.inl hD7), atI_last _ _, ?_⟩
      cases ek : wr g tk with
      | num m =>
        rw [ek] at hD7
        refine ⟨_, _, _, _, true, rfl, .ty "int", .base (.int m), kit_ty (by decide +kernel), _, rfl, iteF ?_⟩
        refine ⟨_, _, ms ++ [m], rfl, by rw [hD7, List.map_append]; rfl, by rw [List.length_append, lm]; rfl, ?_, b7⟩
        rw [List.take_add_one, htk]
        exact am.app (.one ek)
      | nam z =>
        rw [ek] at hD7
        have y := q H7 (bD b7)
        rw [wr_stop hl hO htk lm am (fun n en => by rw [ek] at en; cases en), ek] at y
        exact ⟨_, _, _, _, false, rfl, .ty "int", .base (.str z), kit_ty (by decide +kernel), _, rfl, iteT ⟨_, rfl, _, rfl, D, _, -1, _, rfl, rfl, .inl (.inl hD7), atI_last _ _, y⟩⟩
      | many =>
        rw [ek] at hD7
        have y := q H7 (bD b7)
        rw [wr_stop hl hO htk lm am (fun n en => by rw [ek] at en; cases en), ek] at y
        exact ⟨_, _, _, _, false, rfl, .ty "int", .base .non, kit_ty (by decide +kernel), _, rfl, iteT ⟨_, rfl, _, rfl, D, _, -1, _, rfl, rfl, .inl (.inl hD7), atI_last _ _, y⟩⟩
    · rintro σ H7 ⟨y3, y4, ms, rfl, hD, lm, am, b⟩
      rw [← len1, List.take_length] at am
      have s7 : Same H H7 := fun c u e => b c u (ne_of_none e nD) (sHc _ _ e)
      have hp7 := s7 _ _ hp1
      have fin := fun o (e : wr g t = o) => (by rw [← e]; exact q H7 s7 : Q (ov o) H7)
      cases t with
      | leaf w x => exact (no_leaf hl hO.1).elim
      | n0 w => exact hM.elim
      | n1 w a =>
        obtain ⟨ew, ta⟩ := hM
        subst ew
        have hp7 : H7 p1 = some (.tup (.str "next" :: us)) := hp7
        have am2 : All2 (fun k m => wr g k = .num m) [a] ms := am
        cases am2 with
        | @cons _ m _ ms' ea r =>
          cases r
          have hD2 : H7 D = some (.lst [.int m]) := hD
          refine ⟨_, rfl, p1, _, 0, _, rfl, rfl, .inl (.inl hp7), head_at _ _, rfl, _, rfl, same_wd ?_⟩
          refine ⟨_, rfl, D, _, 0, .int m, rfl, rfl, .inl (.inl hD2), atI_nat (j := 0) rfl, _, _, rfl, rfl, ?_⟩
          refine ⟨_, rfl, _, _, rfl, rfl, ⟨by decide, by decide, by decide⟩, _, _, rfl, rfl, _, rfl, ?_⟩
          have ew2 : wr g (.n1 "next" a) = capO (m + 1) := by
            show (match wr g a with | .num m => capO (m + 1) | o => o) = _
            rw [ea]
          refine ite2 (fun c3 => ?_) (fun c3 => ?_)
          · have lt : m + 1 < TG := of_decide_eq_true c3
            exact ⟨_, rfl, fin (.num (m + 1)) (by rw [ew2]; exact cap_lt lt)⟩
          · have nlt : ¬ m + 1 < TG := fun z => c3 (decide_eq_true z)
            exact fin .many (by rw [ew2]; exact cap_ge nlt)
      | n2 w a b' =>
        obtain ⟨ew, ta, tb⟩ := hM
        have hp7 : H7 p1 = some (.tup (.str w :: us)) := hp7
        have nn : w ≠ "next" := by rcases ew with e | e <;> rw [e] <;> decide +kernel
        have am2 : All2 (fun k m => wr g k = .num m) [a, b'] ms := am
        cases am2 with
        | @cons _ m _ ms' ea r =>
        cases r with
        | @cons _ k _ ms2 eb r2 =>
          cases r2
          have hD2 : H7 D = some (.lst [.int m, .int k]) := hD
          have ew2 : wr g (.n2 w a b') = capO (if w = "plus" then m + k else m * k) := by
            show (match wr g a with | .num m => (match wr g b' with | .num n => capO (if w = "plus" then m + n else m * n) | o => o) | o => o) = _
            rw [ea, eb]
          obtain ⟨m0, m1⟩ := wr_pos pos a ta m ea
          obtain ⟨k0, k1⟩ := wr_pos pos b' tb k eb
          refine ⟨_, rfl, p1, _, 0, _, rfl, rfl, .inl (.inl hp7), head_at _ _, rfl, _, rfl, other_wd nn ?_⟩
          refine ⟨_, rfl, p1, _, 0, _, rfl, rfl, .inl (.inl hp7), head_at _ _, rfl, _, rfl, ?_⟩
          by_cases cw : w = "plus"
          · subst cw
            rw [if_pos rfl] at ew2
            refine same_wd ⟨_, rfl, D, _, 0, .int m, rfl, rfl, .inl (.inl hD2), atI_nat (j := 0) rfl, _, rfl, D, _, 1, .int k, rfl, rfl, .inl (.inl hD2), atI_nat (j := 1) rfl, _, _, rfl, rfl, ?_⟩
            refine ⟨_, rfl, _, _, rfl, rfl, ⟨by decide, by decide, by decide⟩, _, _, rfl, rfl, _, rfl, ?_⟩
            refine ite2 (fun c3 => ?_) (fun c3 => ?_)
            · have lt : m + k < TG := of_decide_eq_true c3
              exact ⟨_, rfl, fin (.num (m + k)) (by rw [ew2]; exact cap_lt lt)⟩
            · have nlt : ¬ m + k < TG := fun z => c3 (decide_eq_true z)
              exact fin .many (by rw [ew2]; exact cap_ge nlt)
          · rw [if_neg cw] at ew2
            refine other_wd cw ⟨_, rfl, D, _, 0, .int m, rfl, rfl, .inl (.inl hD2), atI_nat (j := 0) rfl, _, rfl, D, _, 1, .int k, rfl, rfl, .inl (.inl hD2), atI_nat (j := 1) rfl, _, _, rfl, rfl, ?_, ?_⟩
            · have bits : ∀ x : Int, 0 ≤ x → x < TG → Builtin.Int.intBits x ≤ 200 := fun x p q => PyProof.Rows.intBits_le (k := 200) (by
                have q2 : x < 10 ^ 60 := q
                have q3 : x.natAbs < 10 ^ 60 := by omega
                exact Nat.lt_of_lt_of_le q3 (by decide))
              have e1 := bits m m0 m1
              have e2 := bits k k0 k1
              unfold CMulX
              omega
            refine ⟨_, rfl, _, _, rfl, rfl, ⟨by decide, by decide, by decide⟩, _, _, rfl, rfl, _, rfl, ?_⟩
            refine ite2 (fun c3 => ?_) (fun c3 => ?_)
            · have lt : m * k < TG := of_decide_eq_true c3
              exact ⟨_, rfl, fin (.num (m * k)) (by rw [ew2]; exact cap_lt lt)⟩
            · have nlt : ¬ m * k < TG := fun z => c3 (decide_eq_true z)
              exact fin .many (by rw [ew2]; exact cap_ge nlt)
theorem ok_lws {f : Addr} {fd : FuncData} (F : Fun K "_law_worth" "_law_worth" sLWorth f fd) (bS : Binds K fd ["term", "numbers"] []) (mS : mg "_law_worth" = some (.ref f)) (zIs : mg "isinstance" = none) (zInt : mg "int" = none) : ∀ n : Nat, FnOk P w K mg base CX0 n f fd ["term", "numbers"] (spLW n)
  | 0 => no_calls fun vs H Q E h => by
    obtain ⟨v1, d, t, g, _, _, _, _, hd, _⟩ := h
    have := deep_pos t
    omega
  | n + 1 => ok_lw F (ok_lws F bS mS zIs zInt n) bS mS zIs zInt
end
end Kf
set_option Elab.async false
set_option linter.all false
set_option maxRecDepth 100000
set_option maxHeartbeats 3900000
/-! A lambda with parameters and captured names, handed as the second of two to a def, called there. Its frame is begun as that of a def within a def. -/
namespace LmY
open PySem PySem.Spec PyProof.Rows L2 LamX NdefX
/-- the lambda as a def within the def of X, whose code object is k -/
abbrev lamF (X : Cx) (ar : Arguments) (sc : Scope) (k : Addr) : NF := ⟨"<lambda>", X.env.qual ++ "<lambda>", ar, [], sc, cloFrom X.env.cells sc.names [], k⟩
/-- where its body runs: its names are N -/
abbrev lamX (X : Cx) (N : List Str) (ar : Arguments) (sc : Scope) (fo k : Addr) (A : Around) (outer : List Env) (sh : Shared) (hp : Hp) : Cx := ncx L2.CX0 X.prog X.w X.K X.mg X.base N (lamF X ar sc k) fo A outer sh hp L2.E0
/-- where the def runs that got it, entered from X's frame -/
abbrev gotX (X : Cx) (Ng : List Str) (x : Str) (sg : Scope) (g : Addr) (cg : Value) (sh : Shared) (hp : Hp) : Cx := (cxOf L2.CX0 X.prog X.w X.K X.mg X.base Ng x sg g cg X.A X.stack sh hp L2.E0).nox
/-- cells that no def of the text writes hold what they held -/
theorem cells_stay {cl : List (Str × Addr)} {fr : List Str} {ws : List (Option V)} {g g2 : Heap} {hp hp2 : Hp} {fs : List Addr} (un : Un fs [] hp hp2 g g2) (cs : CellsAt cl fr ws g hp) : CellsAt cl fr ws g2 hp2 := by
  have still : ∀ a, hp a = none → ∀ val, g.IsCell a val → g2.IsCell a val := fun a off val ⟨ob, at1, dat⟩ => by
    obtain ⟨_, at2⟩ := un.any at1 off List.not_mem_nil
    exact ⟨_, at2, dat⟩
  refine ⟨cs.len, fun nm a e => ?_, cs.inj, fun j nm e => ?_⟩
  · obtain ⟨off, val, cell⟩ := cs.all nm a e
    obtain ⟨ob, at1, _⟩ := id cell
    exact ⟨un.free a ob at1 off List.not_mem_nil, val, still a off val cell⟩
  · obtain ⟨a, e1, has⟩ := cs.has j nm e
    refine ⟨a, e1, fun z ez => ?_⟩
    obtain ⟨u, rz, cell⟩ := has z ez
    exact ⟨u, rz, still a (cs.all nm a e1).1 _ cell⟩
section
variable {X : Cx} {pins : List (Addr × Obj)} {σ : L2.St} {H : Hp} {s : Shared}
/-- a call that ends without an exception, told to its caller -/
theorem land {fo : Addr} {us : List Value} {Q : VK} (I : Inv X pins σ H s) (run : codeAny (model X.prog X.w) X.A (.call (.ref fo) ⟨us, []⟩) (CR L2.CX0 X.stack X.prog X.w H s Q L2.E0) s) :
    wpAny (model X.prog X.w) X.A (call (.ref fo) us) (EP X pins σ Q) X.xe s :=
  wpAny_call (codeAny_mono run fun res s2 told => match res, told with
    | .ok (.ret _), told => I.after told
    | .ok .next, told => told.elim
    | .ok .brk, told => told.elim
    | .ok .cont, told => told.elim
    | .error _, told => (show False from told).elim)
/-- x(e, ..), in the def that got the lambda as x -/
theorem pe_lact {N ps fr Ng : List Str} {js : List Nat} {qg : Str} {sg : Scope} {g fo k : Addr} {cg pm ctv : Value} {ar : Arguments} {body : Expr} {sc : Scope} {m i : Nat} {a : Str} {tb : TE} {p1 p2 : Pos} {e : Expr} {es : List Expr} {t : TA}
    (I : Inv X pins σ H s) (S : NScope N ps fr sc) (cp : Caps X (cloFrom X.env.cells sc.names []) fr js)
    (at_ : s.heap.get? fo = some (PySem.W.kla_obj "<lambda>" (X.env.qual ++ "<lambda>") ar body sc (cloFrom X.env.cells sc.names []) pm k ctv)) (off : H fo = none) (noF : fo ∉ frs X.stack)
    (bind : ∀ us : List Value, us.length = ps.length → bindArgs (PySem.W.kla_fn "<lambda>" (X.env.qual ++ "<lambda>") ar body sc (cloFrom X.env.cells sc.names []) pm (.ref k) ctv) ⟨us, []⟩ = pure (ps.zip us))
    (room : Room (m + 1) (X.A.deeper (envOfC qg sg s.heap.objs.size g cg)))
    (inner : ∀ (A : Around) (outer : List Env) (sh : Shared) (hp : Hp), Room m (A.deeper (envF (lamF X ar sc k) fo sh.heap.objs.size)) → PE (lamX X N ar sc fo k A outer sh hp) body tb)
    (hN : Ng[i]? = some a) (hv : Vis sg a) (pa : PA (gotX X Ng qg sg g cg s H) (e :: es) t)
    (h1 : (a == ("__debug__" : Str)) = false := by decide) (h2 : (a == ("__classdict__" : Str)) = false := by decide)
    (h3 : starEach (e :: es) (envOfC qg sg s.heap.objs.size g cg) = (false, eval e (envOfC qg sg s.heap.objs.size g cg)) :: starEach es (envOfC qg sg s.heap.objs.size g cg) := by rfl)
    (h4 : (backTo p2 (starEach es (envOfC qg sg s.heap.objs.size g cg))).any (·.1) = false := by rfl) :
    PE (gotX X Ng qg sg g cg s H) (.Call (.Name a p1) (e :: es) [] p2)
      (fun σZ HZ Q => σZ[i]? = some (some (.ref fo)) ∧ t σZ HZ fun vs H1 => vs.length = ps.length ∧ H1 k = some (CodeO k (X.env.qual ++ "<lambda>")) ∧ tb (startF N vs (js.map (slotAt σ))) H1 Q) := by
  refine ⟨fun pinsZ sZ σZ HZ Q IZ ⟨slot, rest⟩ => ?_⟩
  have same : ∀ {pn : List (Addr × Obj)} {τ : L2.St} {hp : Hp} {sh : Shared}, Inv (gotX X Ng qg sg g cg s H) pn τ hp sh → sh.heap.get? fo = some (PySem.W.kla_obj "<lambda>" (X.env.qual ++ "<lambda>") ar body sc (cloFrom X.env.cells sc.names []) pm k ctv) :=
    fun J => J.base.keep fo _ at_ off noF List.not_mem_nil
  have name := (pe_var (X := gotX X Ng qg sg g cg s H) (pos := p1) (i := i) hN hv h1 h2).run pinsZ sZ σZ HZ (fun val hp => val = .ref fo ∧ hp = HZ) IZ ⟨.ref fo, slot, rfl, rfl⟩
  refine wpAny_Call_Name_kw (thn name fun val s1 ⟨_, _, I1, rel, ev, eh⟩ => ?_)
  subst ev eh
  cases (show val = Value.ref fo from rel)
  refine PySem.W.callWith_F (first := []) ⟨_, _, _, _, same I1⟩ (thn (pa.run p2 pinsZ s1 σZ _ _ I1 rest) fun us s2 ⟨vs, H2, I2, rv, len, code, ht⟩ => ⟨⟨_, _, _, _, same I2⟩, land (us := us) I2 ?_⟩) h3 h4
  obtain ⟨⟨oc, fields, tq, o1, o2, o3⟩, _, _⟩ := I2.hok k _ code
  refine PySem.W.kla_callFunE room.depth (same I2) rfl S.co S.gen rfl ⟨k, oc, fields, tq, rfl, o1, o2, o3⟩ ?_
  rw [bind us (rv.length.symm.trans len)]
  refine wpAny_pure (wpAny_newFunctionEnv (fun y hy => S.nocell y hy) (fun y hy => S.par y.1 (List.of_mem_zip hy).1) (fun g1 ns1 more => ⟨I2.nolimit.fresh _ more, ?_⟩) S.kind)
  have grown : ∀ b ob, s2.heap.get? b = some ob → g1.get? b = some ob := fun b ob eb => more.extBut b ob (Nat.ne_of_lt (Heap.lt_size eb)) (Heap.get?_push_of_some _ eb)
  have J := inv_startN (CX := L2.CX0) (E := L2.E0) (tk := s2.toks + (ps.zip us).length) (F := lamF X ar sc k) (f := fo) S room.hd I2.env0 len rv (cells_stay I2.base (cells_of I cp)) ns1 grown
  refine PySem.W.kla_codeExpr (wpAny_mono ((inner _ _ s2 H2 (room.deeper _)).run [] _ _ H2 Q J ht) (fun _ s3 ⟨w3, H3, J3, r3, q3⟩ => ?_) fun _ _ bad => bad)
  exact ⟨w3, H3, J3.os, J3.bare, J3.base, J3.hok, r3, q3⟩
end
/-- what the def that got the lambda makes of its calls: TT -/
def Gives2 (X : Cx) (Ng : List Str) (x : Str) (sg : Scope) (g : Addr) (cg : Value) (bg : List Stmt) (a : Str) (q : Str) (ps : List Str) (m : Nat) (TT : (List V → Hp → VK → Prop) → V → Hp → VK → Prop) : Prop :=
  ∀ (fo k : Addr) (s : Shared) (H : Hp) (v : V) (Q : VK) (tl : List V → Hp → VK → Prop),
    (∀ (p1 p2 : Pos) (e : Expr) (es : List Expr) (t : TA), PA (gotX X Ng x sg g cg s H) (e :: es) t →
      starEach (e :: es) (envOfC x sg s.heap.objs.size g cg) = (false, eval e (envOfC x sg s.heap.objs.size g cg)) :: starEach es (envOfC x sg s.heap.objs.size g cg) → (backTo p2 (starEach es (envOfC x sg s.heap.objs.size g cg))).any (·.1) = false →
      PE (gotX X Ng x sg g cg s H) (.Call (.Name a p1) (e :: es) [] p2) (fun σZ HZ Q => σZ[1]? = some (some (.ref fo)) ∧ t σZ HZ fun vs H1 => vs.length = ps.length ∧ H1 k = some (CodeO k q) ∧ tl vs H1 Q)) →
    Room (m + 1) (X.A.deeper (envOfC x sg s.heap.objs.size g cg)) → H k = some (CodeO k q) → TT tl v H Q →
    ∃ t, PSs (gotX X Ng x sg g cg s H) bg t ∧ t { nx := fun _ H' => Q .non H', rt := Q } (L2.start Ng [v, .ref fo]) H
def tLam2 (T : List (Addr × Str)) (N : List Str) (js : List Nat) (TT : (List V → Hp → VK → Prop) → V → Hp → VK → Prop) (te : TE) (t : TE) : TE := fun σ H Q => te σ H fun v H0 => Tabs T H0 ∧ ∀ H1, ExtN H0 H1 → Tabs T H1 → TT (fun vs H' Q' => t (startF N vs (js.map (slotAt σ))) H' Q') v H1 Q
section
variable {X : Cx}
/-- x(e, lambda ..: body) -/
theorem pe_lamcall2 {T : List (Addr × Str)} {TT : (List V → Hp → VK → Prop) → V → Hp → VK → Prop} {x a0 a : Str} {g c tab : Addr} {m : Nat} {pg : Arguments} {bg : List Stmt} {sg : Scope} {dV kV doc pm cdv ct oc : Value} {an od : Option Addr} {osl : Array (Option Value)} {N Ng ps fr : List Str} {js : List Nat}
    {ar : Arguments} {body e : Expr} {sc : Scope} {te t : TE} {p0 p1 p2 : Pos} (gx : Gl X x) (mx : X.mg x = some (.ref g)) (kx : PySem.W.keepIn X.K (.ref g) = true)
    (look : X.K.lookup g = some ⟨oc, od, .func (PySem.W.fnOf x x pg bg sg dV kV doc pm an cdv ct), osl⟩) (code : PySem.W.codeIn X.K cdv x = true) (bx : L2.Binds X.K (PySem.W.fnOf x x pg bg sg dV kV doc pm an cdv ct) [a0, a] []) (Sg : FnScope Ng [a0, a] sg) (second : Ng[1]? = some a) (seen : Vis sg a)
    (gives : Gives2 X Ng x sg g cdv bg a (X.env.qual ++ "<lambda>") ps m TT) (pe : PE X e te)
    (own : TabB X.base X.mg c tab) (mine : X.env.code = .ref c) (inT : (tab, X.env.qual ++ "<lambda>") ∈ T) (sole : ∀ p ∈ T, p.1 = tab → p.2 = X.env.qual ++ "<lambda>") (room : Room (m + 2) X.A)
    (S : NScope N ps fr sc) (held : ndefB X.env.scope sc fr = true) (slots : js.map (fun j => X.N[j]?) = fr.map some) (plain : defaultsOf ar X.env = ([], []))
    (bind : ∀ (q : Str) (cl : List (Str × Addr)) (pm cv ctv : Value) (us : List Value), us.length = ps.length → bindArgs (PySem.W.kla_fn "<lambda>" q ar body sc cl pm cv ctv) ⟨us, []⟩ = pure (ps.zip us))
    (inner : ∀ (A : Around) (outer : List Env) (sh : Shared) (hp : Hp) (fo k : Addr), Room m (A.deeper (envF (lamF X ar sc k) fo sh.heap.objs.size)) → PE (lamX X N ar sc fo k A outer sh hp) body t)
    (h0 : (x == ("__debug__" : Str)) = false := by decide) (h1 : (a == ("__debug__" : Str)) = false := by decide) (h2 : (a == ("__classdict__" : Str)) = false := by decide)
    (h3 : starEach (e :: [.Lambda ar body sc p1]) X.env = (false, eval e X.env) :: starEach [.Lambda ar body sc p1] X.env := by rfl) :
    PE X (.Call (.Name x p0) [e, .Lambda ar body sc p1] [] p2) (tLam2 T N js TT te t) := by
  refine ⟨fun pins s σ H Q I reading => wpAny_Call_Name_kw (ld_glob I gx mx (PySem.W.callWith_K (h₀ := X.base) I.ok.mod.kin kx ?_ h3 (by rfl)) h0)⟩
  rw [h3]
  show wpAny _ _ (spliced ((false, eval e X.env) :: backTo p2 (starEach [.Lambda ar body sc p1] X.env))) _ _ s
  refine Calls.spliced_cons (thn (pe.run pins s σ H _ I reading) fun u s0 ⟨v, H0, I0, r0, tabs0, later⟩ => ?_)
  show wpAny _ _ (spliced ((false, eval (.Lambda ar body sc p1) X.env) :: backTo p2 (starEach [] X.env))) _ _ s0
  refine Calls.spliced_cons (lam_make2 I0 own mine inT sole tabs0 plain (fun y hy e => (ndef_free held y hy e).elim (fun z => I0.ok.has _ (.inl z)) fun z => I0.ok.has _ (.inr z)) fun fo k pmF ctF H1 s1 I1 grown tabs1 at_ off noF codeK => Calls.spliced_nil ⟨I1.kIn, land I1 ?_⟩)
  refine run_ofS (N := Ng) (ps := [a0, a]) (us := [u, .ref fo]) (vs := [v, .ref fo]) look code Sg room I1.env0 (bx s1 [u, .ref fo] I1.kIn rfl) (.cons r0 (.cons rfl .nil)) rfl fun room1 => ?_
  obtain ⟨ts, run, told⟩ := gives fo k s1 H1 v Q _ (fun q1 q2 e1 es1 t1 pa he hp => pe_lact (i := 1) (js := js) I1 S (Caps.made I1.ok (ndef_free held) (ndef_fr held) slots) at_ off noF (fun us hl => bind _ _ _ _ _ us hl) room1 (fun A outer sh hp2 r2 => inner A outer sh hp2 fo k r2) second seen pa h1 h2 he hp) room1 codeK (later H1 grown tabs1)
  exact ⟨ts, run.nox, told⟩
end
end LmY
set_option Elab.async false
set_option linter.all false
set_option maxRecDepth 100000
set_option maxHeartbeats 3900000
/-! The end of a law whose defs want to know that no repr is under way around them: its def is run from the caller alone. -/
namespace Gd
open PySem PySem.Spec PyProof.Rows L2 LamX LmY
section
variable {P : Program} {w : World} {K : PySem.W.Frag} {mg mb : Str → Option Value} {k : Nat} {fa scr : Addr} {cs : List (Addr × Addr)} {st : Shared} {vs : List Value} {ns : List Int}
/-- what stands in the heap ahead of the law's call -/
structure Ahead (K : PySem.W.Frag) (mg mb : Str → Option Value) (cs : List (Addr × Addr)) (scr : Addr) (vs : List Value) (st : Shared) : Prop where
  kin : K.In st.heap
  glob : st.heap.Ns mainGlobals mg
  blt : st.heap.Ns builtinsNs mb
  boot : ∀ x : Str, x ≠ "__name__" → mb x = bootBuiltins x
  lim : st.heap.NoLimit
  gens : st.gens = #[]
  tabs : ∀ p ∈ cs, st.heap.get? p.2 = some { cls := .none, data := .fields #[] }
  offK : ∀ p ∈ cs, K.lookup p.2 = none
  codes : ∀ p ∈ cs, PySem.W.CodeHd st.heap p.1 p.2
  mod : ∃ (bm : Addr) (ob : Obj), mg "__builtins__" = some (.ref bm) ∧ bm ≠ builtinsNs ∧ st.heap.get? bm = some ob ∧ ob.cls = .type "module" ∧ ob.dict = some builtinsNs ∧ ob.data = .plain
  list : st.heap.get? scr = some { cls := .type "list", data := .seq vs.toArray }
/-- tracked are the script and the tables at most -/
structure Few (K : PySem.W.Frag) (cs : List (Addr × Addr)) (scr : Addr) (H : Hp) : Prop where
  only : ∀ b, H b ≠ none → b = scr ∨ ∃ p ∈ cs, p.2 = b
  notK : H scr ≠ none → K.lookup scr = none
theorem untracked (W : Ahead K mg mb cs scr vs st) {H : Hp} (F : Few K cs scr H) {b : Addr} {ob : Obj} (at_ : st.heap.get? b = some ob) (n1 : ∀ us m, ob.data ≠ .seq us m) (n2 : ob.data ≠ .fields #[]) : H b = none := by
  refine Decidable.byContradiction fun z => ?_
  rcases F.only b z with rfl | ⟨p, hp, rfl⟩
  · rw [W.list] at at_
    cases at_
    exact n1 _ _ rfl
  · rw [W.tabs p hp] at at_
    cases at_
    exact n2 rfl
theorem hid_ns (W : Ahead K mg mb cs scr vs st) {H : Hp} (F : Few K cs scr H) {b : Addr} {m : Str → Option Value} (h : st.heap.Ns b m) : (hidT st.heap H).Ns b m := by
  obtain ⟨ob, es, ep, at_, dat, rest⟩ := h
  refine ⟨ob, es, ep, hidT_get at_ (untracked W F at_ (fun us m z => ?_) fun z => ?_), dat, rest⟩ <;> (rw [dat] at z; cases z)
theorem hid_in (W : Ahead K mg mb cs scr vs st) {H : Hp} (F : Few K cs scr H) : K.In (hidT st.heap H) := fun b ob e => by
  refine hidT_get (W.kin b ob e) (Decidable.byContradiction fun z => ?_)
  rcases F.only b z with rfl | ⟨p, hp, rfl⟩
  · rw [F.notK z] at e
    cases e
  · rw [W.offK p hp] at e
    cases e
theorem hid_tab (W : Ahead K mg mb cs scr vs st) {H : Hp} (F : Few K cs scr H) : ∀ p ∈ cs, TabB (hidT st.heap H) mg p.1 p.2 := fun p hp => by
  have here := W.tabs p hp
  have plainG : ∀ {b : Addr} {ob : Obj}, st.heap.get? b = some ob → (∃ es ep, ob.data = .dict es ep) → b ≠ p.2 := fun e ⟨es, ep, d⟩ z => by
    rw [z, here] at e
    cases e
    cases d
  refine ⟨?_, ?_, ?_⟩
  · obtain ⟨ob, us, file, tf, flags, tg, inF, text, tt, e1, r1, r2, r3, rest⟩ := W.codes p hp
    refine ⟨ob, us, file, tf, flags, tg, inF, text, tt, hidT_get e1 (untracked W F e1 (fun us m z => ?_) fun z => ?_), r1, r2, r3, rest⟩
    · rw [r2] at z
      cases z
    · rw [r2] at z
      cases z
      simp at r3
  · obtain ⟨bm, ob, b1, b2, b3, b4, b5, b6⟩ := W.mod
    refine ⟨bm, ob, b1, b2, fun z => ?_, fun z => ?_, hidT_get b3 (untracked W F b3 (fun us m z => ?_) fun z => ?_), b4, b5, b6⟩
    · obtain ⟨og, es, ep, e, dat, _⟩ := W.glob
      rw [z, e] at b3
      cases b3
      rw [dat] at b6
      cases b6
    · rw [z, here] at b3
      cases b3
      cases b6
    · rw [b6] at z
      cases z
    · rw [b6] at z
      cases z
  · obtain ⟨og, es, ep, e, dat, _⟩ := W.glob
    exact plainG e ⟨es, ep, dat⟩
theorem hid_env (W : Ahead K mg mb cs scr vs st) {H : Hp} (F : Few K cs scr H) (hok : HOk P w H st.heap) : Env0 P w K mg (hidT st.heap H) callerA [] st H :=
  ⟨rfl, ⟨hid_in W F, hid_ns W F W.glob, ⟨mb, hid_ns W F W.blt, W.boot⟩, let ⟨mc, c1, c2⟩ := W.lim; ⟨mc, hid_ns W F c1, c2⟩⟩, fun b ob e => of_hidT e, Nat.le_of_eq (hidT_size _ _), trivial, fun b hb => (List.not_mem_nil (show b ∈ ([] : List Addr) from hb)).elim, hok, .of_eq W.gens⟩
/-- what is told of the heap behind the call -/
theorem behind (W : Ahead K mg mb cs scr vs st) {H : Hp} (F : Few K cs scr H) (hok : HOk P w H st.heap) (tb : ∀ p ∈ cs, H p.2 = some (.tbl #[])) (fz : H scr = none ∨ ∃ ob xs, H scr = some (.frz ob (.lst xs))) {r : Result} {s' : Shared}
    (told : CR L2.CX0 [] P w H st (fun v _ => v = .bl true) L2.E0 r s') : r = .ok (.ret (.bool true)) ∧ OldK st.heap s'.heap ∧ s'.os = st.os ∧ AllBare s'.gens := by
  match r, told with
  | .error _, told => exact (show False from told).elim
  | .ok .next, told => exact (show False from told).elim
  | .ok .brk, told => exact (show False from told).elim
  | .ok .cont, told => exact (show False from told).elim
  | .ok (.ret u), told =>
    obtain ⟨v, H2, os, bare, un, hok2, rel, isT⟩ := told
    have isT : v = .bl true := isT
    subst isT
    obtain rfl : u = Value.bool true := rel
    have noE : ∀ b : Addr, b ∉ ([] : List Addr) := fun _ => List.not_mem_nil
    have grown : ∀ p ∈ cs, ∃ more : Array Value, s'.heap.get? p.2 = some { cls := .none, data := .fields more } := fun p hp => by
      obtain ⟨more, e⟩ := un.tbls p.2 #[] (tb p hp)
      exact ⟨_, hok2 p.2 _ e⟩
    have stays : ∀ b ob, (¬ ∃ p ∈ cs, p.2 = b) → st.heap.get? b = some ob → s'.heap.get? b = some ob := fun b ob far e => by
      by_cases z : H b = none
      · exact un.keep b ob e z (noE b) (noE b)
      · rcases F.only b z with rfl | h
        · rcases fz with f | ⟨o2, xs, f⟩
          · exact absurd f z
          · obtain ⟨e1, _⟩ := hok _ _ f
            obtain ⟨e2, _⟩ := hok2 _ _ (un.frzs _ _ _ f)
            rw [e] at e1
            cases e1
            exact e2
        · exact absurd h far
    refine ⟨rfl, ⟨fun b ob e => ?_, fun b ob e => ?_⟩, os, bare⟩
    · by_cases h : ∃ p ∈ cs, p.2 = b
      · obtain ⟨p, hp, rfl⟩ := h
        obtain ⟨more, hm⟩ := grown p hp
        rw [W.tabs p hp] at e
        cases e
        exact .inr (.inl ⟨((W.codes p hp).tab (W.tabs p hp)).isCodeTable, rfl, #[], more, rfl, by rw [Array.empty_append]; exact hm⟩)
      · exact .inl (stays b ob h e)
    · by_cases h : ∃ p ∈ cs, p.2 = b
      · obtain ⟨p, hp, rfl⟩ := h
        obtain ⟨more, hm⟩ := grown p hp
        exact ⟨_, hm⟩
      · exact ⟨ob, stays b ob h e⟩
open Classical in
/-- THE END: the law's def by its run from the caller alone -/
theorem end_at (W : Ahead K mg mb cs scr vs st) (are : IntsAre vs ns) (short : ns.length ≤ sizeLine)
    (run : ∀ (base : Heap) (H : Hp), K.In base → base.Ns mainGlobals mg → (∀ p ∈ cs, TabB base mg p.1 p.2) → (∀ p ∈ cs, H p.2 = some (.tbl #[])) → SqL K H scr (ns.map V.int) → Env0 P w K mg base callerA [] st H →
      codeAny (model P w) callerA (.call (.ref fa) ⟨[.ref scr], []⟩) (CR L2.CX0 [] P w H st (fun v _ => v = .bl true) L2.E0) st) :
    codeAny (model P w) callerA (.call (.ref fa) ⟨[.ref scr], []⟩) (fun r s' => r = .ok (.ret (.bool true)) ∧ OldK st.heap s'.heap ∧ s'.os = st.os ∧ AllBare s'.gens) st := by
  have rv := vals_ints are
  have same := are.length
  have scrT : ¬ ∃ p ∈ cs, p.2 = scr := fun ⟨p, hp, e⟩ => by
    have z := W.tabs p hp
    rw [e, W.list] at z
    cases z
  have go : ∀ H : Hp, (∀ b, (∃ p ∈ cs, p.2 = b) → H b = some (.tbl #[])) → (∀ b, (¬ ∃ p ∈ cs, p.2 = b) → b ≠ scr → H b = none) → (H scr = none ∨ (K.lookup scr = none ∧ H scr = some (.frz { cls := .type "list", data := .seq vs.toArray } (.lst (ns.map V.int))))) → SqL K H scr (ns.map V.int) →
      codeAny (model P w) callerA (.call (.ref fa) ⟨[.ref scr], []⟩) (fun r s' => r = .ok (.ret (.bool true)) ∧ OldK st.heap s'.heap ∧ s'.os = st.os ∧ AllBare s'.gens) st := by
    intro H isTab noneElse atScr seq
    have few : Few K cs scr H := ⟨fun b z => by
      by_cases h : ∃ p ∈ cs, p.2 = b
      · exact .inr h
      · exact .inl (Decidable.byContradiction fun n => z (noneElse b h n)), fun z => (atScr.resolve_left z).1⟩
    have hok : HOk P w H st.heap := fun b ob e => by
      by_cases h : ∃ p ∈ cs, p.2 = b
      · rw [isTab b h] at e
        cases e
        obtain ⟨p, hp, rfl⟩ := h
        exact W.tabs p hp
      · by_cases n : b = scr
        · subst n
          rcases atScr with z | ⟨_, z⟩
          · rw [z] at e
            cases e
          · rw [z] at e
            cases e
            exact ⟨W.list, by rw [List.length_map]; exact short, vs, _, rv, W.list⟩
        · rw [noneElse b h n] at e
          cases e
    have tb : ∀ p ∈ cs, H p.2 = some (.tbl #[]) := fun p hp => isTab p.2 ⟨p, hp, rfl⟩
    exact codeAny_mono (run _ H (hid_in W few) (hid_ns W few W.glob) (hid_tab W few) tb seq (hid_env W few hok)) fun r s' told => behind W few hok tb (atScr.imp id fun z => ⟨_, _, z.2⟩) told
  cases hk : K.lookup scr with
  | some ob =>
    have e := W.kin scr ob hk
    rw [W.list] at e
    cases e
    exact go (fun b => if ∃ p ∈ cs, p.2 = b then some (.tbl #[]) else none) (fun b h => if_pos h) (fun b h _ => if_neg h) (.inl (if_neg scrT)) (.inr ⟨_, vs.toArray, _, hk, rfl, rfl, rfl, by rw [List.size_toArray, same]; exact short, by simpa using rv⟩)
  | none =>
    refine go (fun b => if b = scr then some (.frz { cls := .type "list", data := .seq vs.toArray } (.lst (ns.map V.int))) else if ∃ p ∈ cs, p.2 = b then some (.tbl #[]) else none) (fun b h => ?_) (fun b h n => ?_) (.inr ⟨hk, if_pos rfl⟩) (.inl (.inr ⟨_, if_pos rfl⟩))
    · exact (if_neg (fun z => scrT (by rw [← z]; exact h))).trans (if_pos h)
    · exact (if_neg n).trans (if_neg h)
end
end Gd
set_option Elab.async false
set_option linter.all false
set_option maxRecDepth 100000
set_option maxHeartbeats 3900000
/-! Defs that are run where no repr is under way; repr of data. -/
namespace Gd
open PySem PySem.Spec PyProof.Rows L2 LamX LmY
/-- as FnOk, where no repr is under way around the call -/
structure FnG (P : Program) (w : World) (K : PySem.W.Frag) (mg : Str → Option Value) (base : Heap) (k : Nat) (f : Addr) (fd : FuncData) (ps : List Str) (sp : Sp) : Prop where
  len : ∀ vs H Q E, sp vs H Q E → vs.length = ps.length
  run : ∀ (A : Around) (outer : List Env) (s : Shared) (H : Hp) (args : Args) (us : List Value) (vs : List V) (Q : VK), A.guards = some [] → Room k A → Env0 P w K mg base A outer s H → BindsTo s fd args (ps.zip us) → Vals vs us → sp vs H Q L2.E0 →
    codeAny (model P w) A (.call (.ref f) args) (CR L2.CX0 outer P w H s Q L2.E0) s
section
variable {P : Program} {w : World} {K : PySem.W.Frag} {mg : Str → Option Value} {base : Heap}
/-- a def of the text, by its body -/
theorem okG {x : Str} {st : Stmt} {f : Addr} {fd : FuncData} {N ps : List Str} {k : Nat} {sp : Sp} (F : Fun K x x st f fd) (S : FnScope N ps (defScope st)) (len : ∀ vs H Q E, sp vs H Q E → vs.length = ps.length)
    (body : ∀ (cdv : Value) (A : Around) (outer : List Env) (s : Shared) (H : Hp) (vs : List V) (Q : VK), A.guards = some [] → Room k (A.deeper (envOfC x (defScope st) s.heap.objs.size f cdv)) → sp vs H Q L2.E0 →
      ∃ t, PSs (cxOf L2.CX0 P w K mg base N x (defScope st) f cdv A outer s H L2.E0).nox (defBody st) t ∧ t { nx := fun _ H' => Q .non H', rt := Q } (L2.start N vs) H) : FnG P w K mg base (k + 1) f fd ps sp := by
  obtain ⟨oc, od, kV, doc, pm, an, cdv, ct, osl, rfl, look, code⟩ := F.ex
  refine ⟨len, fun A outer s H args us vs Q gu room e0 bind rel h => ?_⟩
  refine run_ofS look code S room e0 bind rel (len _ _ _ _ h) fun room1 => ?_
  obtain ⟨t, run, told⟩ := body cdv A outer s H vs Q gu room1 h
  exact ⟨t, run.nox, told⟩
/-- FnOk is more -/
theorem FnG.of {k : Nat} {f : Addr} {fd : FuncData} {ps : List Str} {sp : Sp} (F : FnOk P w K mg base L2.CX0 k f fd ps sp) : FnG P w K mg base k f fd ps sp := ⟨F.len, fun A outer s H args us vs Q _ room e0 bind rel h => F.run A outer s H args us vs Q L2.E0 room e0 bind rel h⟩
end
section
variable {X : Cx}
/-- x(e, ..), x such a def -/
theorem pe_callG {k : Nat} {f : Addr} {fd : FuncData} {ps : List Str} {sp : Sp} {x : Str} {p pos : Pos} {e : Expr} {es : List Expr} {t : TA} (F : FnG X.prog X.w X.K X.mg X.base k f fd ps sp) (gu : X.A.guards = some []) (room : Room k X.A) (gl : Gl X x) (mx : X.mg x = some (.ref f)) (kx : PySem.W.keepIn X.K (.ref f) = true)
    (bind : L2.Binds X.K fd ps []) (pa : PA X (e :: es) t) (h0 : (x == ("__debug__" : Str)) = false := by decide)
    (h1 : starEach (e :: es) X.env = (false, eval e X.env) :: starEach es X.env := by rfl) (h2 : (backTo pos (starEach es X.env)).any (·.1) = false := by rfl) :
    PE X (.Call (.Name x p) (e :: es) [] pos) (fun σ H Q => t σ H fun vs H1 => sp vs H1 Q L2.E0) := by
  refine ⟨fun pins s σ H Q I reading => wpAny_Call_Name_kw (ld_glob I gl mx (PySem.W.callWith_K (h₀ := X.base) I.ok.mod.kin kx (thn (pa.run pos pins s σ H _ I reading) fun us s1 ⟨vs, H1, I1, rel, q⟩ => ⟨I1.kIn, land (us := us) I1 ?_⟩) h1 h2) h0)⟩
  have given := bind s1 us I1.kIn (by rw [List.append_nil]; exact rel.length.symm.trans (F.len _ _ _ _ q))
  rw [List.append_nil] at given
  exact F.run X.A X.stack s1 H1 ⟨us, []⟩ us vs Q gu room I1.env0 given rel q
/-- repr of data, no repr being under way -/
theorem cr_reprD (gu : X.A.guards = some []) (un : X.A.units + 64 < cLine) : CallR X (.builtin "repr") (fun xs H Q => ∃ (a : Addr) (d : PyData), xs = [.ref a] ∧ Dp X.K H (.ref a) d ∧ d.showable = true ∧ d.hasDict = false ∧ d.depth ≤ 60 ∧ d.shown.length ≤ sizeLine ∧ Q (.str d.shown) H) := by
  intro pins s σ H xs us Q I rel ⟨a, d, ex, dp, sh, nd, dd, fits, q⟩
  subst ex
  rw [Vals.ref1 rel]
  obtain ⟨as, rd⟩ := Dp.reads I d (.ref a) (.ref a) dp rfl
  exact repr_of_reads' rd sh (fun e => by rw [nd] at e; cases e) gu (by omega) (fun _ _ e => e) (fun h' u tk kp => ⟨.str d.shown, H, I.kept kp, ⟨u, rfl⟩, q⟩) fits
end
/-- what the end wants of the law's def -/
def LawG (l : PySem.W.OpenLaw) (w : World) (K : PySem.W.Frag) (k n : Nat) (x : Str) (mg : Str → Option Value) (fa : Addr) (h : Heap) : Prop :=
  ∃ (fd : FuncData) (cs : List (Addr × Addr)) (sp : Sp), (∀ p ∈ cs, h.get? p.2 = some { cls := .none, data := .fields #[] }) ∧ (∀ p ∈ cs, K.lookup p.2 = none) ∧ (∀ p ∈ cs, PySem.W.CodeHd h p.1 p.2) ∧ (∀ (s : Shared) (u : Value), BindsTo s fd ⟨[u], []⟩ [(x, u)]) ∧
    (∀ (H : Hp) (a : Addr) (ns : List Int), ns.length ≤ n → (∀ z ∈ ns, Builtin.Int.intBits z ≤ 1048576) → (∀ p ∈ cs, H p.2 = some (.tbl #[])) → SqL K H a (ns.map V.int) → sp [.ref a] H (fun v _ => v = .bl true) L2.E0) ∧
    ∀ base : Heap, K.In base → base.Ns mainGlobals mg → (∀ p ∈ cs, TabB base mg p.1 p.2) → FnG l.prog w K mg base k fa fd [x] sp
/-- the end of a law some defs of which say repr, or hold lambdas: these ones' tables are still empty -/
theorem walk_guard {l : PySem.W.OpenLaw} {n k : Nat} {q : Program} {loose : List Str} {XP : (Str → Option Value) → Heap → Prop} {YP : World → Heap → Prop} {d : DefRec} {K : Params → PySem.W.Frag} {x : Str} (nms : List Str)
    (hn : l.most = some n) (line : n ≤ sizeLine) (hdf : d.params.defaults = []) (room : Room k callerA) (recs : ∀ nm ∈ nms, ((recsOf q).any fun e => e.name == nm) = true) (hY : ∀ (w : World) (h : Heap), YP w h → (K w.params).In h)
    (F : ∀ (w : World) (mg : Str → Option Value) (fa : Addr) (h : Heap), YP w h → (K w.params).In h → h.Ns mainGlobals mg → mg d.name = some (.ref fa) → (∀ nm ∈ nms, ∀ fw, mg nm = some (.ref fw) → OwnTab (K w.params) fw h) → LawG l w (K w.params) k n x mg fa h) :
    PySem.W.WalkO q loose XP YP l.row.toRowW d [] (fun f vs => PySem.call f vs) := by
  refine Att.attach_callB hn hdf fun w s0 s1 mg mb fa o pm cd doc a vs ns G Y ho hd hcd hmg hobj hints hlen hbits hg => ?_
  have KX := hY w _ Y
  have tabs : ∀ nm ∈ nms, ∀ fw, mg nm = some (.ref fw) → OwnTab (K w.params) fw s1.heap := by
    intro nm inn fw hw c P o1 fd1 e dd us sl look isF isC lookC at11
    obtain ⟨dR, mem, same⟩ := List.any_eq_true.mp (recs nm inn)
    have eN : dR.name = nm := beq_iff_eq.mp same
    obtain ⟨a2, o2, fd2, c2, P2, g1, g2, g3, g4, _, ⟨oc, vc, g5, _, g6, g7⟩, empty⟩ := G.T.tab dR mem
    rw [eN] at g1
    cases hw.symm.trans g1
    cases (KX _ _ look).symm.trans g2
    cases isF.symm.trans g3
    cases isC.symm.trans g4
    cases (KX _ _ lookC).symm.trans g5
    cases g6
    cases at11.symm.trans g7
    exact empty
  obtain ⟨fd, cs, sp, hT, nT, hC, hb, hsp, hF⟩ := F w mg fa _ Y KX G.T.g hmg tabs
  exact end_at ⟨KX, G.T.g, G.T.b, G.T.builtins, G.T.nolimit, hg, hT, nT, hC, G.T.bmain, hobj⟩ hints (Nat.le_trans hlen line) fun base H hK hG hB ht hS e0 =>
    (hF base hK hG hB).run callerA [] s1 H ⟨[.ref a], []⟩ [.ref a] [.ref a] _ rfl room e0 (hb s1 (.ref a)) (.cons rfl .nil) (hsp H a ns hlen hbits ht hS)
end Gd
set_option Elab.async false
set_option linter.all false
set_option maxRecDepth 100000
set_option maxHeartbeats 4000000
set_option pp.maxSteps 600
/-! k04: repr of a dict from texts to whole numbers. -/
namespace Kf
open PySem PySem.Spec PyProof.Rows L2 Sx Xk
/-- an entry of it -/
def EntOk (p : Key × V) : Prop := ∃ (z : Str) (n : Int), p = (.inr z, .int n) ∧ NmOk z ∧ z.length ≤ 8 ∧ n.natAbs < 10 ^ 62
def vD : V → PyData
  | .int n => .int n
  | _ => .none
def kD : Key → PyData
  | .inl i => .int i
  | .inr z => .str z
def pD (p : Key × V) : PyData × PyData := (kD p.1, vD p.2)
def dD (kvs : List (Key × V)) : PyData := .dict (kvs.map pD)
theorem dict_reads {P : Program} {w : World} {h : Heap} : ∀ {kvs : List (Key × V)} {vs : List (Key × Value)} {es : List DictEntry}, (∀ p ∈ kvs, EntOk p) → KV kvs vs → Pairs (mixKind P w) es vs →
    ReadsAll h (es.map (·.key)) ((kvs.map pD).map (·.1)) [] ∧ ReadsAll h (es.map (·.val)) ((kvs.map pD).map (·.2)) []
  | [], _, _, _, r, q => by
    cases r
    cases q
    exact ⟨.nil, .nil⟩
  | p :: kvs, _, _, ok, r, q => by
    cases r with
    | @cons _ b _ bs e r2 =>
      cases q with
      | @cons en _ es' _ k1 k2 q2 =>
        obtain ⟨i1, i2⟩ := dict_reads (h := h) (fun x hx => ok x (List.mem_cons_of_mem _ hx)) r2 q2
        obtain ⟨z, n, ep, _⟩ := ok p List.mem_cons_self
        subst ep
        obtain ⟨e1, e2⟩ := e
        have k1' : keyIs b.1 en.key = true := k1
        rw [← e1] at k1'
        have e1' : ∃ t, en.key = .str z t := by
          rcases keyIs_shape k1' with ⟨i, t, e3, _⟩ | ⟨x, t, e3, e4⟩
          · cases e3
          · injection e3 with e3
            exact ⟨t, by rw [e4, ← e3]⟩
        obtain ⟨t, ek⟩ := e1'
        obtain ⟨t2, ev⟩ : ∃ t, b.2 = .int n t := e2
        refine ⟨?_, ?_⟩
        · show ReadsAll h (en.key :: es'.map (·.key)) (.str z :: (kvs.map pD).map (·.1)) ([] ++ [])
          rw [ek]
          exact .cons (.str z t) i1
        · show ReadsAll h (en.val :: es'.map (·.val)) (.int n :: (kvs.map pD).map (·.2)) ([] ++ [])
          rw [k2, ev]
          exact .cons (.int n t2) i2
theorem len_int {i : Int} (h : i.natAbs < 10 ^ 62) : (PyData.shown (.int i)).length ≤ 90 := by
  have e := int_text_length_le10 (k := 62) (by decide) h
  show (Str.ofString (toString i)).length ≤ 90
  rw [PySem.ofString_length]
  exact Nat.le_trans e (by decide)
theorem len_str {z : Str} (h1 : NmOk z) (h2 : z.length ≤ 8) : (PyData.shown (.str z)).length ≤ 90 := by
  have all : ∀ c ∈ z.cps.toList, c < 16 ^ 8 := fun c hc => by
    have q := (Array.all_eq_true_iff_forall_mem.mp h1) c (Array.mem_toList_iff.mp hc)
    have q2 : c < 0x110000 := by simpa using q
    exact Nat.lt_of_lt_of_le q2 (by decide)
  have y := StrLaws.reprText_len z all
  have e : (PyData.shown (.str z)).length = (reprText z).length := rfl
  rw [e]
  omega
theorem dict_show : ∀ kvs : List (Key × V), (∀ p ∈ kvs, EntOk p) → PyData.showableKv (kvs.map pD) = true ∧ ((PyData.shownKv (kvs.map pD)).map (·.length)).sum ≤ 200 * kvs.length ∧ PyData.depthKv (kvs.map pD) = 0
  | [], _ => ⟨rfl, Nat.zero_le _, rfl⟩
  | p :: kvs, ok => by
    obtain ⟨a, b, c⟩ := dict_show kvs fun x hx => ok x (List.mem_cons_of_mem _ hx)
    obtain ⟨z, n, ep, h1, h2, h3⟩ := ok p List.mem_cons_self
    subst ep
    refine ⟨?_, ?_, ?_⟩
    · show (PyData.showable (.str z) && PyData.showable (.int n) && PyData.showableKv (kvs.map pD)) = true
      rw [a, Bool.and_true]
      show (true && decide (n.natAbs.log2 < 1920)) = true
      rw [Bool.true_and]
      refine decide_eq_true ?_
      by_cases z : n.natAbs = 0
      · rw [z]
        decide
      · refine (Nat.log2_lt z).2 ?_
        exact Nat.lt_of_lt_of_le h3 (Nat.le_trans (show 10 ^ 62 ≤ 2 ^ 208 by decide) (Nat.pow_le_pow_right (by decide) (by decide)))
    · show ((PyData.shown (.str z) ++ ": " ++ PyData.shown (.int n)).length + ((PyData.shownKv (kvs.map pD)).map (·.length)).sum) ≤ 200 * (kvs.length + 1)
      have e2 : (PyData.shown (.str z) ++ ": " ++ PyData.shown (.int n)).length = (PyData.shown (.str z)).length + 2 + (PyData.shown (.int n)).length := by
        rw [strLen_append, strLen_append]; rfl
      have l1 := len_int h3
      have l2 := len_str h1 h2
      omega
    · show max (max (PyData.depth (.str z)) (PyData.depth (.int n))) (PyData.depthKv (kvs.map pD)) = 0
      rw [c]
      rfl
/-- repr of such a dict -/
theorem cr_reprK {X : Cx} (gu : X.A.guards = some []) (un : X.A.units + 64 < cLine) : CallR X (.builtin "repr") (fun xs H Q => ∃ (a : Addr) (kvs : List (Key × V)), xs = [.ref a] ∧ H a = some (.dK kvs) ∧ (∀ p ∈ kvs, EntOk p) ∧ kvs.length ≤ 100 ∧ Q (.str (dD kvs).shown) H) := by
  intro pins s σ H xs us Q I rel ⟨a, kvs, ex, ha, ok, len, q⟩
  subst ex
  rw [Vals.ref1 rel]
  obtain ⟨_, ns, vs, r, o, es, ep, h1, h2, h3, h4, h5, h6⟩ := (show ObjOk X.prog X.w H s.heap a (.dK kvs) from I.hok a _ ha)
  obtain ⟨r1, r2⟩ := dict_reads (h := s.heap) ok r h5
  obtain ⟨d1, d2, d3⟩ := dict_show kvs ok
  have rd : Reads s.heap (.ref a) (dD kvs) (a :: [] ++ []) := .dict h1 h2.1 h3 r1 r2
  refine repr_of_reads' rd d1 (fun _ z => ?_) gu ?_ (fun _ _ e => e) (fun h' u tk kp => ⟨.str (dD kvs).shown, H, I.kept kp, ⟨u, rfl⟩, q⟩) ?_
  · rw [List.append_nil] at z
    have e : sysModules = a := List.mem_singleton.mp z
    rw [e, beq_self_eq_true] at ns
    cases ns
  · show X.A.units + (PyData.depthKv (kvs.map pD) + 1 + 1) < cLine
    rw [d3]
    omega
  · have l1 := dictText_len_le (PyData.shownKv (kvs.map pD))
    have l2 := PyData.shownKv_length (kvs.map pD)
    rw [List.length_map] at l2
    have w : (100000 : Nat) ≤ sizeLine := by decide
    show (dictText (PyData.shownKv (kvs.map pD))).length ≤ sizeLine
    omega
end Kf
set_option Elab.async false
set_option linter.all false
set_option maxRecDepth 100000
set_option maxHeartbeats 8000000
set_option pp.maxSteps 600
/-! k04: the law. -/
namespace Kf
open PySem PySem.Spec PyProof.Rows L2 Sx Xk _root_.Gd
abbrev sLaw : Stmt := top 23
abbrev lawN : List Str := ["script", "k", "feed", "letters", "names", "turn", "term", "numbers", "name", "great", "kept", "due", "found", "place"]
theorem scLaw : FnScope lawN ["script"] (defScope sLaw) := ⟨rfl, rfl, rfl, by decide +kernel, rfl, by decide +kernel, by decide +kernel⟩
abbrev abc : Str := "abcdefghijklmnopqrstuvwxyz"
theorem abc_ok : ∀ c ∈ abc.cps.toList, c < 0x110000 := by decide +kernel
/-- a text of one of these signs -/
def OneSign (x : Str) : Prop := ∃ c, c ∈ abc.cps.toList ∧ x = ⟨#[c]⟩
theorem joinL_mem : ∀ (ps : List (List Nat)) (c : Nat), c ∈ TL.joinL [] ps → ∃ p ∈ ps, c ∈ p
  | [], c, h => by cases h
  | [p], c, h => ⟨p, List.mem_singleton.mpr rfl, h⟩
  | p :: q :: r, c, h => by
    rcases List.mem_append.mp (show c ∈ p ++ ([] ++ TL.joinL [] (q :: r)) from h) with z | z
    · exact ⟨p, List.mem_cons_self, z⟩
    · obtain ⟨p2, h1, h2⟩ := joinL_mem (q :: r) c z
      exact ⟨p2, List.mem_cons_of_mem _ h1, h2⟩
theorem joinL_len : ∀ (ps : List (List Nat)), (∀ p ∈ ps, p.length = 1) → (TL.joinL [] ps).length = ps.length
  | [], _ => rfl
  | [p], h => h p List.mem_cons_self
  | p :: q :: r, h => by
    have z := joinL_len (q :: r) fun x hx => h x (List.mem_cons_of_mem _ hx)
    have y := h p List.mem_cons_self
    show (p ++ ([] ++ TL.joinL [] (q :: r))).length = _
    rw [List.length_append, List.nil_append, z, y, List.length_cons (a := p)]
    omega
theorem join_tl {a : Str} {ys : List Str} (ha : a.cps.toList = []) : (Txt.join a ys).cps.toList = TL.joinL [] (ys.map TL.tl) := by
  have e := TL.tl_join a ys
  rw [show TL.tl a = [] from ha] at e
  rw [← TL.join_eq] at e
  exact e
theorem join_nm {a : Str} {ys : List Str} (ha : a.cps.toList = []) (h : ∀ y ∈ ys, OneSign y) : NmOk (Txt.join a ys) := by
  unfold NmOk
  rw [Array.all_eq_true']
  intro c hc
  have hc2 : c ∈ (Txt.join a ys).cps.toList := Array.mem_toList_iff.mpr hc
  rw [join_tl ha] at hc2
  obtain ⟨p, hp, hcp⟩ := joinL_mem _ c hc2
  obtain ⟨y, hy, rfl⟩ := List.mem_map.mp hp
  obtain ⟨c2, h2, rfl⟩ := h y hy
  have e3 : c = c2 := by
    have z : c ∈ [c2] := hcp
    exact List.mem_singleton.mp z
  rw [e3]
  exact decide_eq_true (abc_ok c2 h2)
theorem join_len {a : Str} {ys : List Str} (ha : a.cps.toList = []) (h : ∀ y ∈ ys, OneSign y) : (Txt.join a ys).length = ys.length := by
  have e : (Txt.join a ys).length = (Txt.join a ys).cps.toList.length := Array.length_toList.symm
  rw [e, join_tl ha, joinL_len, List.length_map]
  intro p hp
  obtain ⟨y, hy, rfl⟩ := List.mem_map.mp hp
  obtain ⟨c2, h2, rfl⟩ := h y hy
  rfl
theorem one_lens : ∀ {ys : List Str}, (∀ y ∈ ys, OneSign y) → (ys.map (·.length)).sum = ys.length
  | [], _ => rfl
  | y :: ys, h => by
    obtain ⟨c, _, rfl⟩ := h y List.mem_cons_self
    rw [List.map_cons, List.sum_cons, one_lens fun y hy => h y (List.mem_cons_of_mem _ hy), List.length_cons]
    show 1 + ys.length = ys.length + 1
    omega
theorem lo62 {r : Int} (h : 0 ≤ r) : -(2 ^ 62) ≤ r := Int.le_trans (by decide) h
theorem hi62 {r : Int} (h : r ≤ 1000) : r < 2 ^ 62 := Int.lt_of_le_of_lt h (by decide)
/-! ### the numbers -/
def EntP (p : Key × V) : Prop := ∃ (z : Str) (n : Int), p = (.inr z, .int n) ∧ NmOk z ∧ z.length ≤ 8 ∧ 0 ≤ n ∧ n < 10 ^ 62
theorem EntP.ok {p : Key × V} (h : EntP p) : EntOk p := by
  obtain ⟨z, n, e, a, b, c, d⟩ := h
  exact ⟨z, n, e, a, b, by omega⟩
theorem put_mem {kvs : List (Key × V)} {k : Key} {v : V} {p : Key × V} (h : p ∈ putK kvs k v) : p = (k, v) ∨ p ∈ kvs := by
  unfold putK at h
  split at h
  · obtain ⟨q, hq, rfl⟩ := List.mem_map.mp h
    split
    · rename_i e
      exact .inl (by rw [← e])
    · exact .inr hq
  · rcases List.mem_append.mp h with h | h
    · exact .inr h
    · exact .inl (List.mem_singleton.mp h)
theorem val_mem {kvs : List (Key × V)} {k : Key} {v : V} (h : valV kvs k = some v) : (k, v) ∈ kvs := by
  unfold valV at h
  obtain ⟨p, hp, e⟩ := Option.map_eq_some_iff.mp h
  have m := List.mem_of_find?_eq_some hp
  have q := List.find?_some hp
  have q2 : p.1 = k := of_decide_eq_true q
  obtain ⟨a, b⟩ := p
  dsimp only at e q2
  subst e q2
  exact m
def gOf (kvs : List (Key × V)) (z : Str) : Option Int := match valV kvs (.inr z) with
  | some (.int n) => some n
  | _ => none
theorem g_pos {kvs : List (Key × V)} (h : ∀ p ∈ kvs, EntP p) (z : Str) (n : Int) (e : gOf kvs z = some n) : 0 ≤ n := by
  unfold gOf at e
  split at e
  · rename_i m em
    injection e with e
    obtain ⟨z2, n2, e2, _, _, p, _⟩ := h _ (val_mem em)
    injection e2 with _ e3
    injection e3 with e3
    omega
  · cases e
theorem g_val {kvs : List (Key × V)} (h : ∀ p ∈ kvs, EntP p) (z : Str) : valV kvs (.inr z) = (gOf kvs z).map V.int := by
  cases e : valV kvs (.inr z) with
  | none =>
    unfold gOf
    rw [e]
    rfl
  | some v =>
    obtain ⟨z2, n2, e2, _⟩ := h _ (val_mem e)
    injection e2 with _ e3
    subst e3
    unfold gOf
    rw [e]
    rfl
def spLaw (K : PySem.W.Frag) : Sp := fun vs H Q _ => ∃ (a : Addr) (ns : List Int), vs = [.ref a] ∧ SqL K H a (ns.map V.int) ∧ ns.length ≤ 63 ∧ (∀ z ∈ ns, Builtin.Int.intBits z ≤ 1048576) ∧ ∀ H', Q (.bl true) H'
section
variable {P : Program} {w : World} {K : PySem.W.Frag} {mg : Str → Option Value} {base : Heap}
structure Calls (P : Program) (w : World) (K : PySem.W.Frag) (mg : Str → Option Value) (base : Heap) (ff ft fp fm fl fo fw TM NN : Addr) (df dt dp dm dl do_ dw : FuncData) : Prop where
  D : Draw P w K mg base ft fp dt dp
  Fd : FnOk P w K mg base CX0 1 ff df ["script", "k"] (spFeed K)
  bFd : Binds K df ["script", "k"] []
  kFd : PySem.W.keepIn K (.ref ff) = true
  mFd : mg "_law_feed" = some (.ref ff)
  M : FnOk P w K mg base CX0 9 fm dm ["feed", "deep", "names", "around"] (spTerm 6)
  bM : Binds K dm ["feed", "deep", "names", "around"] []
  kM : PySem.W.keepIn K (.ref fm) = true
  mM : mg "_law_term" = some (.ref fm)
  L : FnOk P w K mg base CX0 6 fl dl ["term", "numbers"] (spLW 6)
  bL : Binds K dl ["term", "numbers"] []
  kL : PySem.W.keepIn K (.ref fl) = true
  mL : mg "_law_worth" = some (.ref fl)
  O : FnOk P w K mg base CX0 4 fo do_ ["term", "numbers"] spTold
  bO : Binds K do_ ["term", "numbers"] []
  kO : PySem.W.keepIn K (.ref fo) = true
  mO : mg "_law_told" = some (.ref fo)
  W : FnOk P w K mg base (L2.CX P w) 3 fw dw ["term", "numbers"] (spWorth TM NN)
  bW : Binds K dw ["term", "numbers"] []
  kW : PySem.W.keepIn K (.ref fw) = true
  mW : mg "worth" = some (.ref fw)
  zRange : mg "range" = none
  zMax : mg "max" = none
  zMin : mg "min" = none
  zLen : mg "len" = none
  zRepr : mg "repr" = none
theorem ok_law {f ff ft fp fm fl fo fw TM NN : Addr} {fd df dt dp dm dl do_ dw : FuncData} (F : Fun K "law" "law" sLaw f fd) (C : Calls P w K mg base ff ft fp fm fl fo fw TM NN df dt dp dm dl do_ dw) : FnG P w K mg base 13 f fd ["script"] (spLaw K) := by
  refine okG F scLaw (fun vs H Q E h => ?_) (fun cdv A outer s H vs Q gu hr h => ?_)
  · obtain ⟨a, ns, rfl, _⟩ := h
    rfl
  obtain ⟨a, ns, rfl, hS, hlen, hb, q⟩ := h
  have h1 : Room 1 _ := hr.mono (by decide)
  have h2 : Room 2 _ := hr.mono (by decide)
  have h3 : Room 3 _ := hr.mono (by decide)
  have h4 : Room 4 _ := hr.mono (by decide)
  have h6 : Room 6 _ := hr.mono (by decide)
  have h9 : Room 9 _ := hr.mono (by decide)
  have u1 : (A.deeper (envOfC "law" (defScope sLaw) s.heap.objs.size f cdv)).units + 1 < cLine := by
    have := hr.units
    omega
  have u64 : (A.deeper (envOfC "law" (defScope sLaw) s.heap.objs.size f cdv)).units + 64 < cLine := by
    have := hr.units
    omega
  refine ⟨_, pss_cons (ps_for PassesOwn.never rfl (pi_range1 (by rfl) C.zRange (pa_cons (pe_callB (call_max2 rfl) (by rfl) C.zMax (by decide +kernel) (pa_cons pe_int (pa_cons (pe_callB (call_min2 rfl) (by rfl) C.zMin (by decide +kernel) (pa_cons pe_int (pa_cons (pe_callB call_len_seq (by rfl) C.zLen PySem.boot_len (pa_cons (pv 0) pa_nil)) pa_nil))) pa_nil))) pa_nil)) (pg_name (i := 1) scLaw.nd rfl (.inl rfl))
      (pss_cons (ps_set (i := 2) scLaw.nd rfl (.inr rfl) (pe_call C.Fd h1 (by rfl) C.mFd C.kFd C.bFd .nil pass0 (pa_cons (pv 0) (pa_cons (pv 1) pa_nil))))
      (pss_cons (ps_set (i := 3) scLaw.nd rfl (.inr rfl) pe_str)
      (pss_cons (ps_set (i := 4) scLaw.nd rfl (.inl rfl) (pe_lst pa_nil))
      (pss_cons (ps_for PassesOwn.never rfl (pi_range1 (by rfl) C.zRange (pa_cons pe_int pa_nil)) (pg_name (i := 5) scLaw.nd rfl (.inl rfl))
        (pss_one (ps_expr (pe_bm PySem.F.plainAttrs_list PySem.F.slot_list_append PySem.F.type_list_append mt_append (pv 4) (pa_cons (pe_join pe_str
          (pe_lc (own := [("place", 13)]) (g := gName 13) (tt := tYes) rfl scLaw.nd (pi_range1 (by rfl) C.zRange (pa_cons (pe_op op_add pe_int (pe_call C.D.T h1 (by rfl) C.D.mT C.D.kT C.D.bT .nil pass0 (pa_cons (pv 2) (pa_cons pe_int pa_nil)))) pa_nil))
            (blkOk_by (N := lawN) (sc := defScope sLaw) (by decide +kernel)) (fun _ _ _ _ _ => pg_name (i := 13) scLaw.nd rfl (Or.inl rfl)) (fun _ _ _ _ _ => pts_nil)
            (fun _ _ _ _ _ => pe_call C.D.Ps h2 (by rfl) C.D.mP C.D.kP C.D.bP .nil pass0 (pa_cons (pv 2) (pa_cons (pv 3) pa_nil))))) pa_nil)))))
      (pss_cons (ps_set (i := 6) scLaw.nd rfl (.inl rfl) (pe_call C.M h9 (by rfl) C.mM C.kM C.bM .nil pass0 (pa_cons (pv 2) (pa_cons pe_int (pa_cons (pv 4) (pa_cons pe_int pa_nil))))))
      (pss_cons (ps_set (i := 7) scLaw.nd rfl (.inl rfl) (pe_disp (pps_cons pe_str (pe_op op_pow pe_int pe_int) pps_nil) (by rfl) (by rfl) (fun z => by cases z) (by decide)))
      (pss_cons (ps_for PassesOwn.never rfl (pi_list (pv 4)) (pg_name (i := 8) scLaw.nd rfl (.inl rfl))
        (pss_cons (ps_set (i := 9) scLaw.nd rfl (.inl rfl) (pe_call C.D.Pk h2 (by rfl) C.D.mP C.D.kP C.D.bP .nil pass0 (pa_cons (pv 2) (pa_cons (pe_lst (pa_cons (pe_op op_sub (pe_op op_pow pe_int pe_int) pe_int) (pa_cons (pe_op op_pow pe_int pe_int) (pa_cons (pe_op op_add (pe_op op_pow pe_int pe_int) pe_int) pa_nil)))) pa_nil))))
        (pss_one (ps_if (pt_cmpR op_gt (pe_call C.D.T h1 (by rfl) C.D.mT C.D.kT C.D.bT .nil pass0 (pa_cons (pv 2) (pa_cons pe_int pa_nil))) pe_int (nomark _))
          (pss_one (ps_dput u1 (pv 7) (pv 8) (pe_call C.D.Pk h2 (by rfl) C.D.mP C.D.kP C.D.bP .nil pass0 (pa_cons (pv 2) (pa_cons (pe_lst (pa_cons pe_int (pa_cons pe_int (pa_cons pe_int (pa_cons (pe_call C.D.T h1 (by rfl) C.D.mT C.D.kT C.D.bT .nil pass0 (pa_cons (pv 2) (pa_cons pe_int pa_nil))) (pa_cons (pe_op op_pow pe_int pe_int) (pa_cons (pv 9) pa_nil))))))) pa_nil))) (by rfl))) pss_nil))))
      (pss_cons (ps_set (i := 10) scLaw.nd rfl (.inl rfl) (pe_callB (cr_reprK gu u64) (by rfl) C.zRepr (by decide +kernel) (pa_cons (pv 7) pa_nil)))
      (pss_cons (ps_set (i := 11) scLaw.nd rfl (.inl rfl) (pe_call C.L h6 (by rfl) C.mL C.kL C.bL .nil pass0 (pa_cons (pv 6) (pa_cons (pv 7) pa_nil))))
      (pss_cons (ps_set (i := 12) scLaw.nd rfl (.inl rfl) (pe_call C.O h4 (by rfl) C.mO C.kO C.bO .nil pass0 (pa_cons (pv 6) (pa_cons (pv 7) pa_nil))))
      (pss_one (ps_if (PW.pt (pw_or (pt_cmpR op_ne (pv 12) (pv 11) (nomark _)) (pw_or (pt_cmpR op_ne (pe_cmpR op_isN (pv 12) pe_non (nomark _)) (pe_cmpR op_isN (pv 11) pe_non (nomark _)) (nomark _)) (pw_or1 (pt_cmpR op_ne (pe_callB (cr_reprK gu u64) (by rfl) C.zRepr (by decide +kernel) (pa_cons (pv 7) pa_nil)) (pv 10) (nomark _)))))) (pss_one (ps_ret pe_bl)) pss_nil)))))))))))))
    (pss_one (ps_ret (pe_cmpR op_eq (pe_call (E := fun _ _ _ => False) C.W h3 (by rfl) C.mW C.kW C.bW .nil passL (pa_cons (pe_tup (pa_cons pe_str (pa_cons pe_int pa_nil))) (pa_cons pe_dnewK pa_nil))) pe_int (nomark _)))), ?_⟩
  -- the turns
  have bounds : ∀ n : Int, 0 ≤ n → (2 : Int) ≤ (if (if n < 6 then n else 6) > 2 then (if n < 6 then n else 6) else 2) ∧ (if (if n < 6 then n else 6) > 2 then (if n < 6 then n else 6) else 2) ≤ 6 := fun n _ => by
    split
    · split <;> omega
    · omega
  obtain ⟨bn1, bn2⟩ := bounds ((ns.map V.int).length : Nat) (Int.natCast_nonneg _)
  refine ⟨_, rfl, a, _, rfl, .inl hS, _, _, rfl, _, _, rfl, _, rfl, lo62 (by omega), hi62 (by omega), ?_⟩
  generalize (if (if (((ns.map V.int).length : Nat) : Int) < 6 then (((ns.map V.int).length : Nat) : Int) else 6) > 2 then (if (((ns.map V.int).length : Nat) : Int) < 6 then (((ns.map V.int).length : Nat) : Int) else 6) else 2) = turns at bn1 bn2 ⊢
  refine for_range (lo := 0) (n := turns.toNat) (fun i σ H' => ∃ y1 y2 y3 y4 y5 y6 y7 y8 y9 y10 y11 y12 y13 : Option V, σ = [some (.ref a), y1, y2, y3, y4, y5, y6, y7, y8, y9, y10, y11, y12, y13] ∧ Same H H') ⟨none, none, none, none, none, none, none, none, none, none, none, none, none, rfl, Same.refl H⟩ ?_ ?_
  · rintro i σ H0 hi ⟨y1, y2, y3, y4, y5, y6, y7, y8, y9, y10, y11, y12, y13, rfl, s0⟩
    -- feed, letters, names
    refine ⟨_, rfl, _, rfl, a, ns, i, (by show [V.ref a, V.int (0 + (i : Int))] = _; rw [Int.zero_add]), s0.seq hS, hb, by omega, fun f H1 s1 nf hF => ?_⟩
    refine ⟨Nat.zero_le _, fun l nl => ?_⟩
    have nlf : l ≠ f := hF.ne nl
    have s2 : Same H0 (upd H1 l (.lst [])) := same_put s1 nl
    have fresh : ∀ {b : Addr} {o : HO}, H0 b = some o → b ≠ f ∧ b ≠ l := fun {b o} e => ⟨ne_of_none e nf, fun z => by
      have q2 := s1 _ _ e
      rw [z, nl] at q2
      cases q2⟩
    refine ⟨4, rfl, by decide, by decide, ?_⟩
    refine for_range (lo := 0) (n := 4) (fun j σ H' => ∃ (nms : List Str) (y5 y6 y7 y8 y9 y10 y11 y12 y13 : Option V), σ = [some (.ref a), some (.int (0 + (i : Int))), some (.ref f), some (.str abc), some (.ref l), y5, y6, y7, y8, y9, y10, y11, y12, y13] ∧
        nms.length = j ∧ (∀ z ∈ nms, NmOk z ∧ z.length ≤ 8) ∧ H' l = some (.lst (nms.map V.str)) ∧ FeedAt H' f ∧ Same H0 H') ⟨[], y5, y6, y7, y8, y9, y10, y11, y12, y13, rfl, rfl, fun z hz => (List.not_mem_nil hz).elim, upd_same, hF.same (same_new nl), s2⟩ ?_ ?_
    · rintro j σ H3 hj ⟨nms, y5, y6, y7, y8, y9, y10, y11, y12, y13, rfl, lj, okn, hl, hF3, s3⟩
      refine ⟨_, rfl, .inl ⟨rfl, _, .inl (.inl hl)⟩, ⟨_, rfl⟩, _, rfl, f, 8, rfl, by decide, by decide, hF3, fun r2 H4 r20 r21 b4 hF4 => ?_⟩
      refine ⟨_, _, rfl, rfl, _, rfl, lo62 (by omega), hi62 (by omega), fun D nD => ?_⟩
      have hl4 : H4 l = some (.lst (nms.map V.str)) := b4 _ _ nlf hl
      have nDl : l ≠ D := ne_of_none hl4 nD
      have nDf : D ≠ f := hF4.ne nD
      have s4 : Same H0 H4 := fun b o e => b4 _ _ (fresh e).1 (s3 _ _ e)
      refine lc_range (lo := 0) (n := (1 + r2).toNat) (fun m H' => ∃ sx : List Str, sx.length = m ∧ (∀ y ∈ sx, OneSign y) ∧ H' D = some (.lst (sx.map V.str)) ∧ H' l = some (.lst (nms.map V.str)) ∧ FeedAt H' f ∧ Same H0 H')
        ⟨[], rfl, fun y hy => (List.not_mem_nil hy).elim, upd_same, (by rw [upd_ne nDl]; exact hl4), hF4.same (same_new nD), same_put s4 nD⟩ ?_ ?_
      · rintro m H5 hm ⟨sx, lm, one, hD, hl5, hF5, s5⟩
        refine ⟨rfl, ?_⟩
        refine ⟨_, rfl, _, rfl, f, abc, rfl, by decide +kernel, by decide +kernel, hF5, fun c hc H6 b6 hF6 => ?_⟩
        have hD6 := b6 _ _ nDf hD
        refine ⟨sx.map V.str, hD6, (by rw [List.length_map]; exact line_of (by omega)), sx ++ [⟨#[c]⟩], by rw [List.length_append, lm]; rfl, fun y hy => ?_, by rw [upd_same, List.map_append]; rfl, ?_, ?_, fun b o e => ?_⟩
        · rcases List.mem_append.mp hy with z | z
          · exact one y z
          · exact ⟨c, hc, List.mem_singleton.mp z⟩
        · rw [upd_ne nDl]
          exact b6 _ _ nlf hl5
        · obtain ⟨x1, x2, e1, e2⟩ := hF6
          exact ⟨x1, x2, by rw [upd_ne nDf.symm]; exact e1, e2⟩
        · have nbD : b ≠ D := ne_of_none (s4 _ _ e) nD
          rw [upd_ne nbD]
          exact b6 _ _ (fresh e).1 (s5 _ _ e)
      · rintro H7 ⟨sx, lm, one, hD, hl7, hF7, s7⟩
        refine ⟨_, D, sx, rfl, rfl, .inl (.inl (.inl hD)), ?_, ?_⟩
        · rw [one_lens one]
          show sx.length + sx.length * (Str.ofString "").length ≤ 16777216
          rw [show (Str.ofString "").length = 0 by decide +kernel]
          omega
        · refine ⟨l, _, _, rfl, rfl, hl7, (by rw [List.length_map]; exact line_of (by omega)), ?_⟩
          refine ⟨nms ++ [Txt.join (Str.ofString "") sx], _, y6, y7, y8, y9, y10, y11, y12, y13, rfl, by rw [List.length_append, lj]; rfl, fun z hz => ?_, by rw [upd_same, List.map_append]; rfl, ?_, fun b o e => ?_⟩
          · rcases List.mem_append.mp hz with z2 | z2
            · exact okn z z2
            · rw [List.mem_singleton.mp z2]
              exact ⟨join_nm (by decide +kernel) one, by rw [join_len (by decide +kernel) one]; omega⟩
          · obtain ⟨x1, x2, e1, e2⟩ := hF7
            exact ⟨x1, x2, by rw [upd_ne nlf.symm]; exact e1, e2⟩
          · rw [upd_ne (fresh e).2]
            exact s7 _ _ e
    · rintro σ H3 ⟨nms, y5, y6, y7, y8, y9, y10, y11, y12, y13, rfl, lj, okn, hl, hF3, s3⟩
      have hN : NmAt H3 l nms := ⟨hl, by omega, fun z hz => (okn z hz).1⟩
      -- term
      refine ⟨_, rfl, _, rfl, f, l, nms, 0, 5, rfl, by decide, nlf, hN, by decide, hF3, fun t v1 H4 m1 a1 b4 hF4 => ?_⟩
      have hN4 := hN.keep nlf b4
      have s4 : Same H0 H4 := fun b o e => b4 _ _ (fresh e).1 (s3 _ _ e)
      -- numbers
      refine fun d nd => ⟨_, _, rfl, rfl, ⟨by decide, by decide, by decide⟩, upd_same, [(.inr "zzzzzzzz", .int (10 ^ 61))], rfl, (by decide), ?_⟩
      have ndf : d ≠ f := hF4.ne nd
      have nld : l ≠ d := ne_of_none hN4.at_ nd
      rw [show mergeK [] [((.inr (Str.ofString "zzzzzzzz") : Key), V.int (10 ^ 61))] = [((.inr (Str.ofString "zzzzzzzz") : Key), V.int (10 ^ 61))] from rfl]
      have k5 : ∀ b o, b ≠ f → b ≠ d → H4 b = some o → (upd (upd H4 d (.dK [])) d (.dK [((.inr (Str.ofString "zzzzzzzz") : Key), V.int (10 ^ 61))])) b = some o := fun b o _ n e => by
        rw [upd_ne n, upd_ne n]
        exact e
      have hF5 : FeedAt (upd (upd H4 d (.dK [])) d (.dK [((.inr (Str.ofString "zzzzzzzz") : Key), V.int (10 ^ 61))])) f := by
        obtain ⟨p1, p2, e1, e2⟩ := hF4
        exact ⟨p1, p2, by rw [upd_ne ndf.symm, upd_ne ndf.symm]; exact e1, e2⟩
      have hd5 : (upd (upd H4 d (.dK [])) d (.dK [((.inr (Str.ofString "zzzzzzzz") : Key), V.int (10 ^ 61))])) d = _ := upd_same
      generalize upd (upd H4 d (.dK [])) d (.dK [((.inr (Str.ofString "zzzzzzzz") : Key), V.int (10 ^ 61))]) = H5 at k5 hF5 hd5
      have hl5 := k5 _ _ nlf nld hN4.at_
      refine ⟨_, rfl, l, rfl, ⟨_, .inl (.inl hl5)⟩, for_list (K := K) (a := l) (xs := nms.map V.str) (fun j σ H' => ∃ (z8 z9 : Option V) (kvs : List (Key × V)), σ = [some (.ref a), some (.int (0 + (i : Int))), some (.ref f), some (.str abc), some (.ref l), y5, some v1, some (.ref d), z8, z9, y10, y11, y12, y13] ∧
          (∀ b o, b ≠ f → b ≠ d → H4 b = some o → H' b = some o) ∧ FeedAt H' f ∧ H' d = some (.dK kvs) ∧ kvs.length ≤ 1 + j ∧ ∀ p ∈ kvs, EntP p)
        ?_ ?_ ?_ ?_⟩
      · refine ⟨y8, y9, _, rfl, k5, hF5, hd5, Nat.le_refl _, fun p hp => ?_⟩
        rw [List.mem_singleton.mp hp]
        exact ⟨_, _, rfl, by decide +kernel, by decide +kernel, by decide, by decide⟩
      · exact fun j σ H' _ ⟨_, _, _, _, keep, _⟩ => .inl (.inl (keep _ _ nlf nld hN4.at_))
      · rintro j x σ H6 hx ⟨z8, z9, kvs, rfl, keep, hF6, hd6, len6, ent⟩
        rw [List.getElem?_map] at hx
        obtain ⟨z, hz, rfl⟩ := Option.map_eq_some_iff.mp hx
        have hj := (List.getElem?_eq_some_iff.mp hz).1
        have zn := okn z (List.mem_of_getElem? hz)
        -- great
        refine ⟨_, rfl, _, _, rfl, rfl, ⟨by decide, by decide, by decide⟩, _, _, rfl, rfl, _, _, rfl, rfl, ⟨by decide, by decide, by decide⟩, _, _, rfl, rfl, ⟨by decide, by decide, by decide⟩, _, _, rfl, rfl, (by show 3 ≤ sizeLine; decide), fun g hg => ?_⟩
        refine ⟨f, g, _, rfl, hF6.ne hg, .inl (.inl upd_same), (by show 0 < 3; decide), (by show 3 ≤ 1000; decide), hF6.same (same_new hg), fun x9 hx9 H7 b7 hF7 => ?_⟩
        have gt : ∃ n : Int, x9 = .int n ∧ 0 ≤ n ∧ n < 10 ^ 62 := by
          rcases List.mem_cons.mp hx9 with e | hx9
          · exact ⟨_, e, by decide, by decide⟩
          rcases List.mem_cons.mp hx9 with e | hx9
          · exact ⟨_, e, by decide, by decide⟩
          · exact ⟨_, List.mem_singleton.mp hx9, by decide, by decide⟩
        obtain ⟨n9, rfl, n90, n91⟩ := gt
        have bb7 : But f H6 H7 := (but_same (same_new hg)).trans b7
        refine ⟨_, rfl, f, 6, rfl, by decide, by decide, hF7, fun r H8 r0 r1 b8 hF8 => ⟨_, _, rfl, rfl, _, rfl, ?_⟩⟩
        have bb8 := bb7.trans b8
        have hd8 := bb8 _ _ ndf hd6
        refine ite2 (fun _ => ?_) (fun _ => ?_)
        · refine ⟨_, rfl, _, rfl, f, 100, rfl, by decide, by decide, hF8, fun k Ha k0 k1 ba hFa => ?_⟩
          refine ⟨_, _, rfl, rfl, ⟨by decide, by decide, by decide⟩, _, rfl, (by show 6 ≤ sizeLine; decide), fun g2 hg2 => ?_⟩
          refine ⟨f, g2, _, rfl, hFa.ne hg2, .inl (.inl upd_same), (by show 0 < 6; decide), (by show 6 ≤ 1000; decide), hFa.same (same_new hg2), fun xn hxn Hb b9 hFb => ?_⟩
          have nm : ∃ n : Int, xn = .int n ∧ 0 ≤ n ∧ n < 10 ^ 62 := by
            have k100 : k < 100 := k1
            rcases List.mem_cons.mp hxn with e | hxn
            · exact ⟨0, e, by decide, by decide⟩
            rcases List.mem_cons.mp hxn with e | hxn
            · exact ⟨1, e, by decide, by decide⟩
            rcases List.mem_cons.mp hxn with e | hxn
            · exact ⟨2, e, by decide, by decide⟩
            rcases List.mem_cons.mp hxn with e | hxn
            · exact ⟨k, e, k0, by omega⟩
            rcases List.mem_cons.mp hxn with e | hxn
            · exact ⟨_, e, by decide, by decide⟩
            · exact ⟨n9, List.mem_singleton.mp hxn, n90, n91⟩
          obtain ⟨n, rfl, n0, n1⟩ := nm
          have bb9 : But f H6 Hb := ((bb8.trans ba).new hg2).trans b9
          have hd9 := bb9 _ _ ndf hd6
          refine ⟨_, rfl, _, rfl, d, _, rfl, DPut.k (k := .inr z) hd9 (line_of (by omega)), ?_⟩
          refine ⟨_, _, putK kvs (.inr z) (.int n), rfl, fun b o h1 h2 e => by rw [upd_ne h2]; exact bb9 _ _ h1 (keep _ _ h1 h2 e), ?_, upd_same, Nat.le_trans (length_putK _ _ _) (by omega), fun p hp => ?_⟩
          · obtain ⟨p1, p2, e1, e2⟩ := hFb
            exact ⟨p1, p2, by rw [upd_ne ndf.symm]; exact e1, e2⟩
          · rcases put_mem hp with e | hp
            · exact ⟨z, n, e, zn.1, zn.2, n0, n1⟩
            · exact ent p hp
        · exact ⟨_, _, kvs, rfl, fun b o h1 h2 e => bb8 _ _ h1 (keep _ _ h1 h2 e), hF8, hd8, by omega, ent⟩
      · rintro σ H6 ⟨z8, z9, kvs, rfl, keep, hF6, hd6, len6, ent⟩
        rw [List.length_map] at len6
        have k46 : Tups H4 H6 := fun b xs e => keep b _ (fun z => by
          obtain ⟨_, _, e2, _⟩ := hF4
          rw [z, e2] at e
          cases e) (ne_of_none e nd) e
        have A1 := a1.keep k46
        have s6 : Same H0 H6 := fun b o e => keep b o (fresh e).1 (fun z => by
          have q2 := s4 _ _ e
          rw [z, nd] at q2
          cases q2) (s4 _ _ e)
        have ok_ : ∀ p ∈ kvs, EntOk p := fun p hp => (ent p hp).ok
        have tm := tm_made (ns := nms) m1.inn m1.no
        have dp : t.deep ≤ 6 := m1.dp
        have l100 : kvs.length ≤ 100 := by omega
        refine ⟨_, rfl, d, kvs, rfl, hd6, ok_, l100, ?_⟩
        refine ⟨_, rfl, _, rfl, v1, d, t, gOf kvs, rfl, A1, m1.ok, tm, dp, ⟨kvs, hd6, fun z _ => g_val ent z⟩, g_pos ent, fun H7 s7 => ?_⟩
        have hd7 := s7 _ _ hd6
        refine ⟨_, rfl, _, rfl, v1, d, t, gOf kvs, rfl, A1.keep (tups_same s7), m1.ok, tm, (by omega), ⟨kvs, hd7, fun z _ => g_val ent z⟩, g_pos ent, fun H8 s8 => ?_⟩
        have hd8 := s8 _ _ hd7
        have fin : Same H H8 := s0.trans (s6.trans (s7.trans s8))
        generalize wr (gOf kvs) t = o
        refine ⟨_, rfl, _, rfl, (by cases o <;> rfl), _, rfl, iteNS rfl ?_⟩
        refine ⟨_, rfl, rfl, _, rfl, rfl, (by rfl), _, rfl, iteNS rfl ?_⟩
        refine ⟨_, rfl, d, kvs, rfl, hd8, ok_, l100, _, rfl, rfl, _, rfl, iteNS rfl ?_⟩
        exact ⟨_, _, _, _, _, _, _, _, _, _, _, _, _, rfl, fin⟩
  · rintro σ H0 ⟨y1, y2, y3, y4, y5, y6, y7, y8, y9, y10, y11, y12, y13, rfl, s0⟩
    refine ⟨(by show 2 ≤ sizeLine; decide), fun p np => fun d nd => ?_⟩
    have h0 : (upd (upd H0 p (.tup [.str "num", .int 7])) d (.dK [])) p = some (.tup [.str "num", .int 7]) := by
      rw [upd_ne (ne_of_none (show (upd H0 p (.tup [.str "num", .int 7])) p = _ from upd_same) nd)]
      exact upd_same
    have w7 : wr (fun _ => none) (.leaf "num" (.int 7)) = .num 7 := cap_lt (by decide)
    refine ⟨.ref p, d, .leaf "num" (.int 7), fun _ => none, rfl, ⟨p, rfl, h0⟩, ⟨by decide +kernel, .inl ⟨⟨7, rfl⟩, by decide +kernel⟩⟩, .inl ⟨rfl, 7, rfl, by decide, by decide⟩, by decide, ⟨[], upd_same, fun z _ => rfl⟩, (fun z n e => by cases e), fun n H' e s => ?_, fun H' e => ?_, fun z dd H' e => ?_⟩
    · rw [w7] at e
      injection e with e
      subst e
      exact ⟨rfl, q _⟩
    · rw [w7] at e
      cases e
    · rw [w7] at e
      cases e
end
end Kf
set_option Elab.async false
set_option linter.all false
set_option maxRecDepth 100000
/-! The top, the end. -/
namespace Kf
open PySem PySem.Spec PyProof.Rows L2 Sx Xk _root_.Gd
theorem all_mk {l : PySem.W.OpenLaw} {w : World} {K : PySem.W.Frag} {h : Heap} {mg : Str → Option Value} {fa f1 f2 f3 f4 f5 f6 f7 f8 f9 f10 f11 : Addr} (X : K.In h) (G : h.Ns mainGlobals mg) (hfa : mg "law" = some (.ref fa))
    {od1 an1 od2 an2 od3 an3 od4 an4 od5 an5 od6 an6 od7 an7 od8 an8 od9 an9 od10 an10 od11 an11 : Option Addr} {sl1 sl2 sl3 sl4 sl5 sl6 sl7 sl8 sl9 sl10 sl11 : Array (Option Value)} {oc1 kV1 dc1 pm1 cd1 ct1 oc2 kV2 dc2 pm2 cd2 ct2 oc3 kV3 dc3 pm3 cd3 ct3 oc4 kV4 dc4 pm4 cd4 ct4 oc5 kV5 dc5 pm5 cd5 ct5 oc6 kV6 dc6 pm6 cd6 ct6 oc7 kV7 dc7 pm7 cd7 ct7 oc8 kV8 dc8 pm8 cd8 ct8 oc9 kV9 dc9 pm9 cd9 ct9 oc10 kV10 dc10 pm10 cd10 ct10 oc11 kV11 dc11 pm11 cd11 ct11 : Value}
    (a1 : PySem.W.nsIn K mainGlobals "beneath" = some (some (.ref f1))) (l1 : K.lookup f1 = some ⟨oc1, od1, .func (PySem.W.fnOf "beneath" "beneath" (defArgs sBeneath) (defBody sBeneath) (defScope sBeneath) .none kV1 dc1 pm1 an1 cd1 ct1), sl1⟩) (c1 : PySem.W.codeIn K cd1 "beneath" = true) (k1 : PySem.W.keepIn K (.ref f1) = true)
    (a2 : PySem.W.nsIn K mainGlobals "pieces_of" = some (some (.ref f2))) (l2 : K.lookup f2 = some ⟨oc2, od2, .func (PySem.W.fnOf "pieces_of" "pieces_of" (defArgs sPieces) (defBody sPieces) (defScope sPieces) .none kV2 dc2 pm2 an2 cd2 ct2), sl2⟩) (c2 : PySem.W.codeIn K cd2 "pieces_of" = true) (k2 : PySem.W.keepIn K (.ref f2) = true)
    (a3 : PySem.W.nsIn K mainGlobals "worth" = some (some (.ref f3))) (l3 : K.lookup f3 = some ⟨oc3, od3, .func (PySem.W.fnOf "worth" "worth" (defArgs sWorth) (defBody sWorth) (defScope sWorth) .none kV3 dc3 pm3 an3 cd3 ct3), sl3⟩) (c3 : PySem.W.codeIn K cd3 "worth" = true) (k3 : PySem.W.keepIn K (.ref f3) = true)
    (a4 : PySem.W.nsIn K mainGlobals "_law_feed" = some (some (.ref f4))) (l4 : K.lookup f4 = some ⟨oc4, od4, .func (PySem.W.fnOf "_law_feed" "_law_feed" (defArgs sFeed) (defBody sFeed) (defScope sFeed) .none kV4 dc4 pm4 an4 cd4 ct4), sl4⟩) (c4 : PySem.W.codeIn K cd4 "_law_feed" = true) (k4 : PySem.W.keepIn K (.ref f4) = true)
    (a5 : PySem.W.nsIn K mainGlobals "_law_take" = some (some (.ref f5))) (l5 : K.lookup f5 = some ⟨oc5, od5, .func (PySem.W.fnOf "_law_take" "_law_take" (defArgs sTake) (defBody sTake) (defScope sTake) .none kV5 dc5 pm5 an5 cd5 ct5), sl5⟩) (c5 : PySem.W.codeIn K cd5 "_law_take" = true) (k5 : PySem.W.keepIn K (.ref f5) = true)
    (a6 : PySem.W.nsIn K mainGlobals "_law_pick" = some (some (.ref f6))) (l6 : K.lookup f6 = some ⟨oc6, od6, .func (PySem.W.fnOf "_law_pick" "_law_pick" (defArgs sPick) (defBody sPick) (defScope sPick) .none kV6 dc6 pm6 an6 cd6 ct6), sl6⟩) (c6 : PySem.W.codeIn K cd6 "_law_pick" = true) (k6 : PySem.W.keepIn K (.ref f6) = true)
    (a7 : PySem.W.nsIn K mainGlobals "_law_leaf" = some (some (.ref f7))) (l7 : K.lookup f7 = some ⟨oc7, od7, .func (PySem.W.fnOf "_law_leaf" "_law_leaf" (defArgs sLeaf) (defBody sLeaf) (defScope sLeaf) .none kV7 dc7 pm7 an7 cd7 ct7), sl7⟩) (c7 : PySem.W.codeIn K cd7 "_law_leaf" = true) (k7 : PySem.W.keepIn K (.ref f7) = true)
    (a8 : PySem.W.nsIn K mainGlobals "_law_term" = some (some (.ref f8))) (l8 : K.lookup f8 = some ⟨oc8, od8, .func (PySem.W.fnOf "_law_term" "_law_term" (defArgs sTerm) (defBody sTerm) (defScope sTerm) .none kV8 dc8 pm8 an8 cd8 ct8), sl8⟩) (c8 : PySem.W.codeIn K cd8 "_law_term" = true) (k8 : PySem.W.keepIn K (.ref f8) = true)
    (a9 : PySem.W.nsIn K mainGlobals "_law_worth" = some (some (.ref f9))) (l9 : K.lookup f9 = some ⟨oc9, od9, .func (PySem.W.fnOf "_law_worth" "_law_worth" (defArgs sLWorth) (defBody sLWorth) (defScope sLWorth) .none kV9 dc9 pm9 an9 cd9 ct9), sl9⟩) (c9 : PySem.W.codeIn K cd9 "_law_worth" = true) (k9 : PySem.W.keepIn K (.ref f9) = true)
    (a10 : PySem.W.nsIn K mainGlobals "_law_told" = some (some (.ref f10))) (l10 : K.lookup f10 = some ⟨oc10, od10, .func (PySem.W.fnOf "_law_told" "_law_told" (defArgs sTold) (defBody sTold) (defScope sTold) .none kV10 dc10 pm10 an10 cd10 ct10), sl10⟩) (c10 : PySem.W.codeIn K cd10 "_law_told" = true) (k10 : PySem.W.keepIn K (.ref f10) = true)
    (a11 : PySem.W.nsIn K mainGlobals "law" = some (some (.ref f11))) (l11 : K.lookup f11 = some ⟨oc11, od11, .func (PySem.W.fnOf "law" "law" (defArgs sLaw) (defBody sLaw) (defScope sLaw) .none kV11 dc11 pm11 an11 cd11 ct11), sl11⟩) (c11 : PySem.W.codeIn K cd11 "law" = true) (k11 : PySem.W.keepIn K (.ref f11) = true)
    (zrange : PySem.W.nsIn K mainGlobals "range" = some none)
    (zmax : PySem.W.nsIn K mainGlobals "max" = some none)
    (zmin : PySem.W.nsIn K mainGlobals "min" = some none)
    (zlen : PySem.W.nsIn K mainGlobals "len" = some none)
    (zabs : PySem.W.nsIn K mainGlobals "abs" = some none)
    (zrepr : PySem.W.nsIn K mainGlobals "repr" = some none)
    (zisinstance : PySem.W.nsIn K mainGlobals "isinstance" = some none)
    (zint : PySem.W.nsIn K mainGlobals "int" = some none)
    (zbool : PySem.W.nsIn K mainGlobals "bool" = some none)
    (zValueError : PySem.W.nsIn K mainGlobals "ValueError" = some none)
    {LV BV : Addr} {ddL ddB : Option Addr} {slL slB : Array (Option Value)} {nL nB : Nat} {t1 t2 t3 t4 t5 : Tok} (aL : PySem.W.nsIn K mainGlobals "LEAVES" = some (some (.ref LV))) (oL : K.lookup LV = some ⟨.type "tuple", ddL, .seq #[.str "num" t1, .str "name" t2, .str "bound" t3] nL, slL⟩)
    (aB : PySem.W.nsIn K mainGlobals "BINDERS" = some (some (.ref BV))) (oB : K.lookup BV = some ⟨.type "tuple", ddB, .seq #[.str "all" t4, .str "some" t5] nB, slB⟩)
    {TM : Addr} {tG : Tok} {gN : Int} (aTM : PySem.W.nsIn K mainGlobals "TooMany" = some (some (.ref TM))) (kTM : PySem.W.keepIn K (.ref TM) = true) (xTM : PySem.W.excIn K TM [.type "ValueError", .type "Exception", .type "BaseException", .type "object"] "ValueError.__new__" = true) (sTM : PySem.W.subIn K (.ref TM) (.type "BaseException") = some true) (yTM : PySem.W.typeIn K (.ref TM) = some (.type "type")) (aTG : PySem.W.nsIn K mainGlobals "TOO_GREAT" = some (some (.int gN tG))) (eTG : gN = TG)
    {GE NN NT NG NW : Addr} (aGE : PySem.W.nsIn K mainGlobals "GroundError" = some (some (.ref GE))) (aNN : PySem.W.nsIn K mainGlobals "NoNumber" = some (some (.ref NN))) (aNT : PySem.W.nsIn K mainGlobals "NoText" = some (some (.ref NT))) (aNG : PySem.W.nsIn K mainGlobals "NoGround" = some (some (.ref NG))) (aNW : PySem.W.nsIn K mainGlobals "NoWorth" = some (some (.ref NW))) (uTM : PySem.W.exmOne K (.ref TM) (.ref GE) = some true) (uNN : PySem.W.exmOne K (.ref NN) (.ref GE) = some true)
    (e1 : PySem.W.findIn K (.ref TM) "__getattribute__" = some (some (.builtin "BaseException.__getattribute__"))) (e2 : PySem.W.findIn K (.ref TM) "__getattr__" = some none) (e3 : PySem.W.hasDictIn K TM = true) (e4 : PySem.W.findIn K (.ref TM) "__class__" = some (some (.builtin "object.__class__"))) (e7 : PySem.W.mroIn K TM (.type "object") = some true) (n1 : PySem.W.findIn K (.ref NN) "__getattribute__" = some (some (.builtin "BaseException.__getattribute__"))) (n2 : PySem.W.findIn K (.ref NN) "__getattr__" = some none) (n3 : PySem.W.hasDictIn K NN = true) (n4 : PySem.W.findIn K (.ref NN) "__class__" = some (some (.builtin "object.__class__"))) (n7 : PySem.W.mroIn K NN (.type "object") = some true) (q5 : PySem.W.specialIn K (.builtin "object.__class__") "__get__" = some (some (.builtin "getset_descriptor.__get__"))) (q6 : PySem.W.takesIn K (.builtin "object.__class__") = some true)
    (i1 : PySem.W.kitAny K (.ref TM) [.ref NT, .ref NG, .ref NW] = some false) (i2 : PySem.W.kitAny K (.ref NN) [.ref NT, .ref NG, .ref NW] = some false) (i3 : PySem.W.kitOne K (.ref TM) (.type "ValueError") = some true) (i4 : PySem.W.kitOne K (.ref NN) (.type "ValueError") = some true) (i5 : PySem.W.kitOne K (.ref TM) (.ref TM) = some true) (i6 : PySem.W.kitOne K (.ref TM) (.ref NN) = some false) (i7 : PySem.W.kitOne K (.ref NN) (.ref TM) = some false) (i8 : PySem.W.kitOne K (.ref NN) (.ref NN) = some true)
    (sNN : PySem.W.subIn K (.ref NN) (.type "BaseException") = some true)
    {fI : Addr} {odI anI : Option Addr} {slI : Array (Option Value)} {ocI kVI dcI pmI cdI ctI : Value}  (hNN : OexC K NN) (nNN : PySem.W.findIn K (.ref NN) "name" = some none) (iNN : PySem.W.findIn K (.ref NN) "__init__" = some (some (.ref fI))) (tI : PySem.W.typeIn K (.ref fI) = some (.type "function"))
    (lI : K.lookup fI = some ⟨ocI, odI, .func (PySem.W.fnOf "__init__" "NoNumber.__init__" (defArgs sIni) (defBody sIni) (defScope sIni) .none kVI dcI pmI anI cdI ctI), slI⟩) (cI : PySem.W.codeIn K cdI "NoNumber.__init__" = true) (kI : PySem.W.keepIn K (.ref fI) = true) :
    LawG l w K 13 63 "script" mg fa h := by
  have e := hfa.symm.trans (PySem.W.mg_of X G a11)
  cases e
  have F1 := fun_mk (st := sBeneath) l1 c1 k1
  have b1 := F1.binds (ps := ["piece", "around"]) fun _ _ _ _ _ _ us hl => match us, hl with | [_, _], _ => rfl
  have m1 := PySem.W.mg_of X G a1
  have F2 := fun_mk (st := sPieces) l2 c2 k2
  have b2 := F2.binds (ps := ["thing"]) fun _ _ _ _ _ _ us hl => match us, hl with | [_], _ => rfl
  have m2 := PySem.W.mg_of X G a2
  have F3 := fun_mk (st := sWorth) l3 c3 k3
  have b3 := F3.binds (ps := ["term", "numbers"]) fun _ _ _ _ _ _ us hl => match us, hl with | [_, _], _ => rfl
  have m3 := PySem.W.mg_of X G a3
  have F4 := fun_mk (st := sFeed) l4 c4 k4
  have b4 := F4.binds (ps := ["script", "k"]) fun _ _ _ _ _ _ us hl => match us, hl with | [_, _], _ => rfl
  have m4 := PySem.W.mg_of X G a4
  have F5 := fun_mk (st := sTake) l5 c5 k5
  have b5 := F5.binds (ps := ["feed", "many"]) fun _ _ _ _ _ _ us hl => match us, hl with | [_, _], _ => rfl
  have m5 := PySem.W.mg_of X G a5
  have F6 := fun_mk (st := sPick) l6 c6 k6
  have b6 := F6.binds (ps := ["feed", "some"]) fun _ _ _ _ _ _ us hl => match us, hl with | [_, _], _ => rfl
  have m6 := PySem.W.mg_of X G a6
  have F7 := fun_mk (st := sLeaf) l7 c7 k7
  have b7 := F7.binds (ps := ["feed", "names", "around"]) fun _ _ _ _ _ _ us hl => match us, hl with | [_, _, _], _ => rfl
  have m7 := PySem.W.mg_of X G a7
  have F8 := fun_mk (st := sTerm) l8 c8 k8
  have b8 := F8.binds (ps := ["feed", "deep", "names", "around"]) fun _ _ _ _ _ _ us hl => match us, hl with | [_, _, _, _], _ => rfl
  have m8 := PySem.W.mg_of X G a8
  have F9 := fun_mk (st := sLWorth) l9 c9 k9
  have b9 := F9.binds (ps := ["term", "numbers"]) fun _ _ _ _ _ _ us hl => match us, hl with | [_, _], _ => rfl
  have m9 := PySem.W.mg_of X G a9
  have F10 := fun_mk (st := sTold) l10 c10 k10
  have b10 := F10.binds (ps := ["term", "numbers"]) fun _ _ _ _ _ _ us hl => match us, hl with | [_, _], _ => rfl
  have m10 := PySem.W.mg_of X G a10
  have F11 := fun_mk (st := sLaw) l11 c11 k11
  have m11 := PySem.W.mg_of X G a11
  have grange := PySem.W.mg_none_of X G zrange
  have gmax := PySem.W.mg_none_of X G zmax
  have gmin := PySem.W.mg_none_of X G zmin
  have glen := PySem.W.mg_none_of X G zlen
  have gabs := PySem.W.mg_none_of X G zabs
  have grepr := PySem.W.mg_none_of X G zrepr
  have gisinstance := PySem.W.mg_none_of X G zisinstance
  have gint := PySem.W.mg_none_of X G zint
  have gbool := PySem.W.mg_none_of X G zbool
  have gValueError := PySem.W.mg_none_of X G zValueError
  refine ⟨PySem.W.fnOf "law" "law" (defArgs sLaw) (defBody sLaw) (defScope sLaw) .none kV11 dc11 pm11 an11 cd11 ct11, [], spLaw K, fun p hp => (List.not_mem_nil hp).elim, fun p hp => (List.not_mem_nil hp).elim, fun p hp => (List.not_mem_nil hp).elim, fun s v => .of_eq rfl,
    fun H a ns hl hb _ hS => ⟨a, ns, rfl, hS, hl, hb, fun _ => rfl⟩, fun base _ _ _ => ?_⟩

  have T : Txt K mg LV BV := ⟨PySem.W.mg_of X G aL, PySem.W.mg_of X G aB, fun H => .inr ⟨_, _, _, oL, rfl, rfl, (by show 3 ≤ sizeLine; decide), .cons ⟨_, rfl⟩ (.cons ⟨_, rfl⟩ (.cons ⟨_, rfl⟩ .nil))⟩, fun H => .inr ⟨_, _, _, oB, rfl, rfl, (by show 2 ≤ sizeLine; decide), .cons ⟨_, rfl⟩ (.cons ⟨_, rfl⟩ .nil)⟩⟩
  have gTake := ok_take (P := l.prog) (w := w) (base := base) (mg := mg) (j := 0) F5
  have D : Draw l.prog w K mg base f5 f6 _ _ := ⟨gTake, b5, k5, m5, ok_pick F6 gTake b5 k5 m5 glen, ok_pickS F6 gTake b5 k5 m5 glen, b6, k6, m6⟩
  have gLeaf := ok_leaf F7 D
  have gTerm := ok_terms F8 D gLeaf b7 k7 m7 b8 m8
  have gBen := ok_beneath (P := l.prog) (w := w) (base := base) (j := 0) F1 T
  have gPie := ok_pieces F2 T gBen b1 k1 m1
  have M : Many K mg TM := ⟨⟨_, _, _, xTM, PySem.F.excBase_ValueError⟩, PySem.W.mg_of X G aTM, kTM, sTM, yTM⟩
  have N : NoNum K mg NN fI _ := ⟨hNN, PySem.W.mg_of X G aNN, nNN, iNN, tI, fun_mk (st := sIni) lI cI kI, (fun_mk (st := sIni) lI cI kI).binds (ps := ["self", "name"]) fun _ _ _ _ _ _ us hl => match us, hl with | [_, _], _ => rfl⟩
  have mTG : mg "TOO_GREAT" = some (.int TG tG) := by
    rw [← eTG]
    exact PySem.W.mg_of X G aTG
  have gWo := ok_worth F3 gPie b2 k2 m2 M N mTG
  have E : Errs K mg TM GE NN NT NG NW := ⟨PySem.W.mg_of X G aTM, PySem.W.mg_of X G aGE, PySem.W.mg_of X G aNN, PySem.W.mg_of X G aNT, PySem.W.mg_of X G aNG, PySem.W.mg_of X G aNW, uTM, uNN, ⟨e1, e2, sTM, e3, e4, q5, q6, e7⟩, ⟨n1, n2, sNN, n3, n4, q5, q6, n7⟩, i1, i2, i3, i4, i5, i6, i7, i8, ⟨n1, n2, sNN, n3⟩, gisinstance, gint, gbool, gValueError⟩
  have gTo := ok_told F10 gWo b3 k3 m3 E N
  have gLw := ok_lws (P := l.prog) (w := w) (base := base) F9 b9 m9 gisinstance gint
  have gFeed := ok_feed (P := l.prog) (w := w) (base := base) (j := 0) F4 glen gabs
  exact ok_law F11 ⟨D, gFeed, b4, k4, m4, gTerm 6, b8, k8, m8, gLw 6, b9, k9, m9, gTo, b10, k10, m10, gWo, b3, k3, m3, grange, gmax, gmin, glen, grepr⟩
theorem walk {l : PySem.W.OpenLaw} {q : Program} {loose : List Str} {XP : (Str → Option Value) → Heap → Prop} {YP : World → Heap → Prop} {d : DefRec} {K : Params → PySem.W.Frag} (hn : l.most = some 63) (hdf : d.params.defaults = [])
    (hY : ∀ (w : World) (h : Heap), YP w h → (K w.params).In h)
    (F : ∀ (w : World) (mg : Str → Option Value) (fa : Addr) (h : Heap), (K w.params).In h → h.Ns mainGlobals mg → mg d.name = some (.ref fa) → LawG l w (K w.params) 13 63 "script" mg fa h) :
    PySem.W.WalkO q loose XP YP l.row.toRowW d [] (fun f vs => PySem.call f vs) :=
  walk_guard [] hn (by decide) hdf ⟨rfl, by decide, by decide⟩ (fun nm h => (List.not_mem_nil h).elim) hY (fun w mg fa h _ KX G hm _ => F w mg fa h KX G hm)
end Kf
open PySem PySem.W PyProof.Rows in
set_option maxRecDepth 100000 in
set_option maxHeartbeats 0 in
theorem PySem.Challenge.cw_prooffruit_k04_worths_of_terms_holds : PySem.Challenge.rw_prooffruit_k04_worths_of_terms.Holds := by
  w_on; o_law; k_head; (case hw => w_witness2)
  k_fill
  refine Kf.walk (l := PySem.Challenge.rw_prooffruit_k04_worths_of_terms) rfl rfl (fun w h Y => PySem.W.kIn_of Y) ?F
  case F =>
    intro w mg fa h KX G hmg
    refine' Kf.all_mk KX G hmg ?a1 ?l1 ?c1 ?k1 ?a2 ?l2 ?c2 ?k2 ?a3 ?l3 ?c3 ?k3 ?a4 ?l4 ?c4 ?k4 ?a5 ?l5 ?c5 ?k5 ?a6 ?l6 ?c6 ?k6 ?a7 ?l7 ?c7 ?k7 ?a8 ?l8 ?c8 ?k8 ?a9 ?l9 ?c9 ?k9 ?a10 ?l10 ?c10 ?k10 ?a11 ?l11 ?c11 ?k11 ?zrange ?zmax ?zmin ?zlen ?zabs ?zrepr ?zisinstance ?zint ?zbool ?zValueError ?aL ?oL ?aB ?oB ?aTM ?kTM ?xTM ?sTM ?yTM ?aTG ?eTG ?aGE ?aNN ?aNT ?aNG ?aNW ?uTM ?uNN ?e1 ?e2 ?e3 ?e4 ?e7 ?n1 ?n2 ?n3 ?n4 ?n7 ?q5 ?q6 ?i1 ?i2 ?i3 ?i4 ?i5 ?i6 ?i7 ?i8 ?sNN ?hNN ?nNN ?iNN ?tI ?lI ?cI ?kI
    (case a1 => first | k_is | rfl)
    (case l1 => first | k_is | rfl)
    (case c1 => first | k_is | rfl)
    (case k1 => first | k_is | rfl)
    (case a2 => first | k_is | rfl)
    (case l2 => first | k_is | rfl)
    (case c2 => first | k_is | rfl)
    (case k2 => first | k_is | rfl)
    (case a3 => first | k_is | rfl)
    (case l3 => first | k_is | rfl)
    (case c3 => first | k_is | rfl)
    (case k3 => first | k_is | rfl)
    (case a4 => first | k_is | rfl)
    (case l4 => first | k_is | rfl)
    (case c4 => first | k_is | rfl)
    (case k4 => first | k_is | rfl)
    (case a5 => first | k_is | rfl)
    (case l5 => first | k_is | rfl)
    (case c5 => first | k_is | rfl)
    (case k5 => first | k_is | rfl)
    (case a6 => first | k_is | rfl)
    (case l6 => first | k_is | rfl)
    (case c6 => first | k_is | rfl)
    (case k6 => first | k_is | rfl)
    (case a7 => first | k_is | rfl)
    (case l7 => first | k_is | rfl)
    (case c7 => first | k_is | rfl)
    (case k7 => first | k_is | rfl)
    (case a8 => first | k_is | rfl)
    (case l8 => first | k_is | rfl)
    (case c8 => first | k_is | rfl)
    (case k8 => first | k_is | rfl)
    (case a9 => first | k_is | rfl)
    (case l9 => first | k_is | rfl)
    (case c9 => first | k_is | rfl)
    (case k9 => first | k_is | rfl)
    (case a10 => first | k_is | rfl)
    (case l10 => first | k_is | rfl)
    (case c10 => first | k_is | rfl)
    (case k10 => first | k_is | rfl)
    (case a11 => first | k_is | rfl)
    (case l11 => first | k_is | rfl)
    (case c11 => first | k_is | rfl)
    (case k11 => first | k_is | rfl)
    (case zrange => first | k_is | rfl)
    (case zmax => first | k_is | rfl)
    (case zmin => first | k_is | rfl)
    (case zlen => first | k_is | rfl)
    (case zabs => first | k_is | rfl)
    (case zrepr => first | k_is | rfl)
    (case zisinstance => first | k_is | rfl)
    (case zint => first | k_is | rfl)
    (case zbool => first | k_is | rfl)
    (case zValueError => first | k_is | rfl)
    (case aL => first | k_is | rfl)
    (case oL => first | k_is | rfl)
    (case aB => first | k_is | rfl)
    (case oB => first | k_is | rfl)
    (case aTM => first | k_is | rfl)
    (case kTM => first | k_is | rfl | decide +kernel)
    (case xTM => k_exc)
    (case sTM => first | k_is | rfl | decide +kernel)
    (case yTM => first | k_is | rfl | decide +kernel)
    (case aTG => first | k_is | rfl)
    (case eTG => first | rfl | decide +kernel)
    (case aGE => first | k_is | rfl)
    (case aNN => first | k_is | rfl)
    (case aNT => first | k_is | rfl)
    (case aNG => first | k_is | rfl)
    (case aNW => first | k_is | rfl)
    (case uTM => first | k_is | rfl | decide +kernel)
    (case uNN => first | k_is | rfl | decide +kernel)
    (case e1 => first | k_is | rfl | decide +kernel)
    (case e2 => first | k_is | rfl | decide +kernel)
    (case e3 => first | k_is | rfl | decide +kernel)
    (case e4 => first | k_is | rfl | decide +kernel)
    (case e7 => first | k_is | rfl | decide +kernel)
    (case n1 => first | k_is | rfl | decide +kernel)
    (case n2 => first | k_is | rfl | decide +kernel)
    (case n3 => first | k_is | rfl | decide +kernel)
    (case n4 => first | k_is | rfl | decide +kernel)
    (case n7 => first | k_is | rfl | decide +kernel)
    (case q5 => first | k_is | rfl | decide +kernel)
    (case q6 => first | k_is | rfl | decide +kernel)
    (case i1 => first | k_is | rfl | decide +kernel)
    (case i2 => first | k_is | rfl | decide +kernel)
    (case i3 => first | k_is | rfl | decide +kernel)
    (case i4 => first | k_is | rfl | decide +kernel)
    (case i5 => first | k_is | rfl | decide +kernel)
    (case i6 => first | k_is | rfl | decide +kernel)
    (case i7 => first | k_is | rfl | decide +kernel)
    (case i8 => first | k_is | rfl | decide +kernel)
    (case sNN => first | k_is | rfl | decide +kernel)
    (case hNN => exact ⟨⟨_, _, _, _, _, _, _, _, _, _, _, _, _, _, _, by first | k_is | rfl, by first | rfl | decide +kernel⟩, by first | k_is | rfl, by first | k_is | rfl, by first | k_is | rfl, by first | k_is | rfl⟩)
    (case nNN => first | k_is | rfl | decide +kernel)
    (case iNN => first | k_is | rfl)
    (case tI => first | k_is | rfl | decide +kernel)
    (case lI => first | k_is | rfl)
    (case cI => first | k_is | rfl)
    (case kI => first | k_is | rfl)
