import PyProof.Rows.All
import Wide.All
import OpenK.AllK
import Wide.FinOn
import HandS.ForMost
import HandS.SetKeys
import HandS.SetFor
import HandS.Strs
import HandS.More
import HandS.Wide
import HandS.IsInst
import HandS.TupAny
import HandS.EndBits
import HandS.WideBits
import HandS.Exc
import HandS.ExcIs
import HandS.ExcValue
import HandS.Small
import HandS.WordsExc
import HandS.Dict
import PyProof.ExcBaseAll.ValueError
import HandS.Lambda
import HandS.Nested
import HandS.Star
import HandS.Flow
import HandS.EndTab
import PyProof.ReprRoads
import HandS.EndOwn
import HandS.Comp
import HandS.Style
import PyProof.CallFns
import PyProof.ReprLen
import PySem.Challenge.RW_prooffruit_k41_truth_of_flat_sayings
set_option Elab.async false
set_option linter.all false
set_option maxRecDepth 100000
set_option maxHeartbeats 4000000
/-! Sets of texts, whatever the world's order of them is: set(), set(a list), add, sorted. -/
namespace Sx
open PySem PySem.Spec PyProof.Rows L2
/-- the text of an entry -/
def tx (e : Int × Value) : Str := match e.2 with
  | .str k _ => k
  | _ => Str.empty
def Ent (w : World) (e : Int × Value) : Prop := ∃ k tk, e = (hashStr w k, Value.str k tk)
/-- one text more -/
def ins (k : Str) (ks : List Str) : List Str := if k ∈ ks then ks else k :: ks
theorem ins_mem {k j : Str} {ks : List Str} : j ∈ ins k ks ↔ j = k ∨ j ∈ ks := by
  unfold ins
  split
  · rename_i h
    exact ⟨.inr, fun q => q.elim (fun e => e ▸ h) (fun q => q)⟩
  · exact List.mem_cons
theorem ins_nodup {k : Str} {ks : List Str} (h : ks.Nodup) : (ins k ks).Nodup := by
  unfold ins
  split
  · exact h
  · rename_i q
    exact List.nodup_cons.mpr ⟨q, h⟩
theorem ins_len {k : Str} {ks : List Str} : (ins k ks).length ≤ ks.length + 1 := by
  unfold ins
  split
  · omega
  · exact Nat.le_refl _
/-- the set's table: its rows are the texts ks, it can be walked -/
structure Rows (w : World) (es : Array (Int × Value)) (t : SetTable) (ks : List Str) : Prop where
  ent : ∀ e ∈ es.toList, Ent w e
  perm : (es.toList.map tx).Perm ks
  nd : ks.Nodup
  few : es.size < scanBound
  fit : t.fits es.size = true
  ris : Ris t.place.toList
  led : w.params.followText "set-order" = true ∨ t.led = true
def SetS (w : World) (h : Heap) (a : Addr) (ks : List Str) : Prop := ∃ o es ep t, h.get? a = some o ∧ o.ExactSet ∧ o.data = .set es ep t ∧ Rows w es t ks
section
variable {P : Program} {w : World} {h h' : Heap} {a : Addr} {ks : List Str} {es : Array (Int × Value)} {t : SetTable}
theorem SetS.stay (R : SetS w h a ks) (k : ∀ o, h.get? a = some o → h'.get? a = some o) : SetS w h' a ks := by
  obtain ⟨o, es, ep, t, ho, z⟩ := R
  exact ⟨o, es, ep, t, k o ho, z⟩
theorem Rows.size (r : Rows w es t ks) : es.size = ks.length := by
  have q := r.perm.length_eq
  rw [List.length_map, Array.length_toList] at q
  exact q
theorem ent_is {e : Int × Value} (g : Ent w e) (k : Str) : (PySem.strKind P w).is k e.2 = true ↔ tx e = k := by
  obtain ⟨j, tk, rfl⟩ := g
  show (j == k) = true ↔ j = k
  exact beq_iff_eq
theorem Rows.elems (r : Rows w es t ks) : ElemsOf (PySem.strKind P w) es.toList := by
  intro e he
  obtain ⟨k, tk, rfl⟩ := r.ent e he
  exact ⟨⟨k, strKind_is P w k tk, rfl⟩, rfl⟩
theorem Rows.mem (r : Rows w es t ks) (k : Str) : k ∈ ks ↔ ∃ e ∈ es.toList, (PySem.strKind P w).is k e.2 = true := by
  rw [← r.perm.mem_iff, List.mem_map]
  exact ⟨fun ⟨e, he, q⟩ => ⟨e, he, (ent_is (r.ent e he) k).2 q⟩, fun ⟨e, he, q⟩ => ⟨e, he, (ent_is (r.ent e he) k).1 q⟩⟩
theorem SetS.of (R : SetS w h a ks) : h.SetOf (PySem.strKind P w) a (fun k => decide (k ∈ ks)) ks.length := by
  obtain ⟨o, es, ep, t, ho, hx, hd, r⟩ := R
  exact ⟨o, es, ep, t, ho, hx, hd, r.elems, fun k => by rw [decide_eq_true_iff]; exact r.mem k, r.few, r.fit, r.size⟩
theorem rows_new (w : World) : Rows w #[] (.fresh 0 0 (!w.params.followText "set-order")) [] where
  ent := fun e he => by simp at he
  perm := List.Perm.refl _
  nd := List.nodup_nil
  few := by decide
  fit := rfl
  ris := List.Pairwise.nil
  led := by
    show _ ∨ (!w.params.followText "set-order") = true
    cases w.params.followText "set-order" with
    | true => exact .inl rfl
    | false => exact .inr rfl
end
section
variable {P : Program} {w : World} {A : Around} {E : Value → Shared → Prop} {s : Shared} {a : Addr} {ks : List Str}
/-- the table is stored, and laid anew where it is too full -/
theorem stored {gave : Bool → Sem Unit} (hg : ∀ (b : Bool) (z : Shared) (Y : Unit → Shared → Prop), Y () z → wpAny (model P w) A (gave b) Y E z)
    {o : Obj} {es0 es : Array (Int × Value)} {ep : Nat} {t0 t : SetTable} (ho : s.heap.get? a = some o) (hx : o.ExactSet) (hd : o.data = .set es0 ep t0) (r : Rows w es t ks) {dummy : Bool} {Z : Option Bool → Shared → Prop}
    (hZ : ∀ h', Heap.SameBut a s.heap h' → SetS w h' a ks → Z (some true) { s with heap := h' }) :
    wpAny (model P w) A (do
        storeSet a es t
        if (!dummy && t.tooFull) = true then do
            gave (relayAll t es (SetTable.grown es.size)).2.2
            storeSet a (relayAll t es (SetTable.grown es.size)).1 (relayAll t es (SetTable.grown es.size)).2.1
            pure (some true)
          else pure (some true)) Z E s := by
  have first := Heap.SameBut.update s.heap a (Obj.putSet es t)
  have o1 := store_at (es' := es) (t' := t) ho hd
  refine wpAny_bind (wpAny_storeSet_of ho hd ?_ (fits_of_scanBound r.few))
  by_cases full : (!dummy && t.tooFull) = true
  · rw [if_pos full]
    have r2 : Rows w (relayAll t es (SetTable.grown es.size)).1 (relayAll t es (SetTable.grown es.size)).2.1 ks := by
      have pm := relayAll_perm t es (SetTable.grown es.size)
      have sz : (relayAll t es (SetTable.grown es.size)).1.size = es.size := by
        have q := pm.length_eq
        rw [Array.length_toList, Array.length_toList] at q
        exact q
      exact ⟨fun e he => r.ent e (pm.mem_iff.mp he), (pm.map tx).trans r.perm, r.nd, Nat.lt_of_le_of_lt (Nat.le_of_eq sz) r.few, relayAll_fits _ _ _, relayAll_ris _ _ _, r.led.imp (fun z => z) fun z => (relayAll_led _ _ _).trans z⟩
    refine wpAny_bind (hg _ _ _ (wpAny_bind (wpAny_storeSet_of o1 rfl ?_ (fits_of_scanBound r2.few))))
    exact wpAny_pure (hZ _ (first.trans (Heap.SameBut.update _ a _)) ⟨_, _, _, _, store_at o1 rfl, hx, rfl, r2⟩)
  · rw [if_neg full]
    exact wpAny_pure (hZ _ first ⟨_, _, _, _, o1, hx, rfl, r⟩)
theorem plain_off {w : World} {es : Array (Int × Value)} {t : SetTable} {ks : List Str} (r : Rows w es t ks) : Rows w es { t with plain := false } ks :=
  ⟨r.ent, r.perm, r.nd, r.few, SetTable.fits_plain_off r.fit, r.ris, r.led⟩
/-- a text whose hash is known is added -/
theorem add_at {k : Str} {tk : Tok} {Z : Bool → Shared → Prop} (R : SetS w s.heap a ks) (room : ks.length + 1 < scanBound)
    (hZ : ∀ b h', Heap.SameBut a s.heap h' → SetS w h' a (ins k ks) → Z b { s with heap := h' }) : wpAny (model P w) A (setAddHashed a (.str k tk) (hashStr w k)) Z E s := by
  obtain ⟨o, es, ep, t, ho, hx, hd, r⟩ := R
  have hel : ElemsOf (PySem.strKind P w) es.toList := r.elems
  have hscan : byScan (Value.str k tk) es = true := byScan_of rfl r.few hel
  unfold setAddHashed setAddHashedIn
  refine wpAny_holding (wpAny_bind (wpAny_setState_of ho hd r.fit ?_))
  dsimp only
  rw [hscan]
  simp only [↓reduceIte]
  unfold setAddByScan
  refine wpAny_bind (wpAny_bind (wpAny_rule (wpAny_bind (wpAny_setScan_of (knd := PySem.strKind P w) (k := k) (strKind_is P w k tk) ho hd r.fit hel ?_))))
  cases found : List.findIdx? (fun e => (PySem.strKind P w).is k e.2) es.toList with
  | some j =>
    obtain ⟨lt, hit, _⟩ := List.findIdx?_eq_some_iff_getElem.mp found
    have there : k ∈ ks := (r.mem (P := P) k).2 ⟨_, List.getElem_mem lt, hit⟩
    refine wpAny_pure (wpAny_pure (hZ _ s.heap (Heap.SameBut.refl a s.heap) ⟨o, es, ep, t, ho, hx, hd, ?_⟩))
    unfold ins
    rw [if_pos there]
    exact r
  | none =>
    have away : k ∉ ks := fun z => by
      obtain ⟨e, he, hit⟩ := (r.mem (P := P) k).1 z
      have no := List.findIdx?_eq_none_iff.mp found e he
      rw [hit] at no
      cases no
    have pm0 := layNew_perm t es (hashStr w k) (.str k tk)
    rw [Array.toList_push] at pm0
    have pm := pm0.trans (List.perm_append_singleton (hashStr w k, Value.str k tk) es.toList)
    have r1 : Rows w (layNew t es (hashStr w k) (.str k tk)).1 (layNew t es (hashStr w k) (.str k tk)).2.1 (ins k ks) := by
      have sz : (layNew t es (hashStr w k) (.str k tk)).1.size = ks.length + 1 := by
        have q := pm.length_eq
        rw [Array.length_toList, List.length_cons, Array.length_toList, r.size] at q
        exact q
      refine ⟨fun e he => ?_, ?_, ins_nodup r.nd, Nat.lt_of_le_of_lt (Nat.le_of_eq sz) room, layNew_fits _ _ _ _, layNew_ris _ _ _ _ r.ris, r.led.imp (fun z => z) fun z => (layNew_led _ _ _ _).trans z⟩
      · rcases List.mem_cons.mp (pm.mem_iff.mp he) with z | z
        · exact ⟨k, tk, z⟩
        · exact r.ent e z
      · unfold ins
        rw [if_neg away]
        exact (pm.map tx).trans (List.Perm.cons k r.perm)
    have gw : ∀ (b : Bool) (z : Shared) (Y : Unit → Shared → Prop), Y () z → wpAny (model P w) A (match b with | true => rule "set.scan.the-table-gave-way" | false => pure ()) Y E z := by
      intro b z Y q
      cases b with
      | true => exact wpAny_rule q
      | false => exact wpAny_pure q
    have goal2 : ∀ h', Heap.SameBut a s.heap h' → SetS w h' a (ins k ks) → Z true { s with heap := h' } := fun h' sb r' => hZ true h' sb r'
    dsimp only
    change wpAny _ _ _ _ _ _
    generalize layNew t es (hashStr w k) (.str k tk) = L at r1 ⊢
    obtain ⟨es1, t1, dummy, gave⟩ := L
    dsimp only at r1 ⊢
    refine wpAny_bind (gw _ _ _ ?_)
    by_cases pl : t1.plain = true
    · rw [if_pos pl]
      refine wpAny_bind ?_
      rw [hashByValue_scannable 8 (show (Value.str k tk).scannable = true from rfl)]
      refine wpAny_pure ?_
      refine stored gw ho hx hd (ks := ins k ks) ?_ fun h' sb r' => wpAny_pure (goal2 h' sb r')
      split
      · exact r1
      · exact plain_off r1
    · rw [if_neg pl]
      refine wpAny_bind (wpAny_pure ?_)
      simp only [↓reduceIte]
      exact stored gw ho hx hd (ks := ins k ks) r1 fun h' sb r' => wpAny_pure (goal2 h' sb r')
end
/-- the texts of the first i are put in, one by one -/
def insAll (ks : List Str) : List Str → List Str
  | [] => ks
  | x :: r => insAll (ins x ks) r
theorem insAll_mem {j : Str} : ∀ (xs ks : List Str), j ∈ insAll ks xs ↔ j ∈ xs ∨ j ∈ ks
  | [], ks => by simp [insAll]
  | x :: r, ks => by
    rw [insAll, insAll_mem r, ins_mem, List.mem_cons]
    constructor
    · rintro (h | h | h)
      · exact .inl (.inr h)
      · exact .inl (.inl h)
      · exact .inr h
    · rintro ((h | h) | h)
      · exact .inr (.inl h)
      · exact .inl h
      · exact .inr (.inr h)
theorem insAll_len : ∀ (xs ks : List Str), (insAll ks xs).length ≤ ks.length + xs.length
  | [], ks => Nat.le_refl _
  | x :: r, ks => by
    have h1 := insAll_len r (ins x ks)
    have h2 := ins_len (k := x) (ks := ks)
    rw [insAll, List.length_cons]
    omega
section
variable {P : Program} {w : World} {A : Around} {E : Value → Shared → Prop} {s : Shared}
/-- set.update's own loop over a walk that yields texts -/
theorem feed_loop {I : Addr} {fp wr : List Addr} {G : Array GenState → Array GenState → Prop} {n : Nat} {Y : Nat → Value → Prop} {St : Nat → Shared → Prop} {Z : Result → Shared → Prop}
    (W : WalksS P w A.in1 I fp wr G n Y St) (S : Addr) (out : S ∉ fp) (texts : List Str) (hn : texts.length = n) (hb : n + 1 < scanBound) (hY : ∀ i v, Y i v → ∃ k tk, texts[i]? = some k ∧ v = .str k tk) :
    ∀ (left : Nat) (i : Nat) (ks : List Str) (s : Shared), i + left = n → St i s → SetS w s.heap S ks → ks.length ≤ i →
      (∀ s', Moved (S :: wr) G s s' → SetS w s'.heap S (insAll ks (texts.drop i)) → Z (.ok (.ret .none)) s') → codeAny (model P w) A (.builtin "set.update.loop" ⟨[.ref S, .ref I], []⟩) Z s := by
  have quietS : S ∉ wr := fun z => out (W.sub _ z)
  have more : ∀ b ∈ wr, b ∈ S :: wr := fun b hb => List.mem_cons_of_mem _ hb
  intro left
  induction left with
  | zero =>
    intro i ks s hi hst hS _ hZ
    have e0 : texts.drop i = [] := List.drop_eq_nil_of_le (by omega)
    rw [e0] at hZ
    have e1 : i = n := by omega
    rw [e1] at hst
    refine codeAny_builtin F.entry_set_update_loop ?_
    rw [Around.under_plainId F.plain_set_update_loop _]
    show wpAny _ A.in1 (pyNext (.ref I) >>= _) _ _ s
    refine wpAny_bind (W.done s _ _ hst fun s' mv => wpAny_pure (hZ s' (mv.mono more) (hS.stay fun o e => mv.heap S o quietS e)))
  | succ left ih =>
    intro i ks s hi hst hS hk hZ
    have lt : i < n := by omega
    refine codeAny_builtin F.entry_set_update_loop ?_
    rw [Around.under_plainId F.plain_set_update_loop _]
    show wpAny _ A.in1 (pyNext (.ref I) >>= _) _ _ s
    refine wpAny_bind (W.item i s _ _ lt hst fun v s1 hv hst1 mv => ?_)
    obtain ⟨k, tk, hk1, rfl⟩ := hY i v hv
    have hS1 : SetS w s1.heap S ks := hS.stay fun o e => mv.heap S o quietS e
    have ed : texts.drop i = k :: texts.drop (i + 1) := by
      obtain ⟨lt2, e2⟩ := List.getElem?_eq_some_iff.mp hk1
      rw [← e2]
      exact List.drop_eq_getElem_cons lt2
    rw [ed] at hZ
    show wpAny _ A.in1 (holding [Value.str k tk] (setAdd S (.str k tk)) >>= _) _ _ s1
    unfold setAdd
    refine wpAny_bind (wpAny_holding (wpAny_holding (wpAny_bind ((PySem.strKind P w).pyHash (k := k) (strKind_is P w k tk) ?_))))
    refine add_at (s := { s1 with toks := s1.toks + 1 }) hS1 (by omega) fun b h' sb hS2 => ?_
    refine wpAny_pure ⟨plainId_quiet F.plain_set_update_loop _, ih (i + 1) (ins k ks) _ (by omega) (W.frame _ s1 _ _ hst1 (Nat.le_succ _) fun c hc o e => ?_) hS2 ?_ fun s2 mv2 hS3 => ?_⟩
    · have away : c ≠ S := fun z => out (z ▸ hc)
      rw [sb.2 c away]
      exact e
    · have := ins_len (k := k) (ks := ks)
      omega
    · refine hZ s2 (Moved.trans W.gtrans ((mv.mono more).then_heap (Nat.le_succ _) fun c o hc e => ?_) mv2) hS3
      have away : c ≠ S := fun z => hc (z ▸ List.mem_cons_self)
      rw [sb.2 c away]
      exact e
/-- the empty set, as it is made -/
abbrev bare (w : World) : Obj := { cls := .type "set", dict := none, data := .set #[] 0 (.fresh 0 0 (!w.params.followText "set-order")) }
theorem bare_holds {h : Heap} {a : Addr} (ho : h.get? a = some (bare w)) : SetS w h a [] := ⟨_, _, _, _, ho, ⟨rfl, rfl, rfl⟩, rfl, rows_new w⟩
set_option maxHeartbeats 8000000 in
theorem set_of_list {l : Addr} {items : Array Value} (texts : List Str) {Z : Value → Shared → Prop} (hh : A.handled = none) (hl : s.heap.IsList l items) (ht : StrsAre items.toList texts) (hb : texts.length + 1 < scanBound)
    (hZ : ∀ (h' : Heap) (tk : Nat), SetS w h' s.heap.objs.size (insAll [] texts) → (∀ b o, s.heap.get? b = some o → h'.get? b = some o) → Z (.ref s.heap.objs.size) { s with heap := h', toks := tk }) :
    wpAny (model P w) A (call (.type "set") [.ref l]) Z E s := by
  have count : texts.length = items.size := by
    have q := StrsAre.len_eq ht
    rw [Array.length_toList] at q
    exact q.symm
  obtain ⟨c, tl, hmro⟩ := F.called_set.mro
  have made := F.called_set.made
  have sub := F.called_set.sub
  have noType := F.called_set.notType
  have can := F.called_set.canCreate
  have tcall := F.typeCall_set_1 (.ref l)
  refine wpAny_call (codeAny_of_tree ?_)
  show wpAny _ _ (callAny (.type "set") _) _ _ _
  refine wpAny_pure ⟨Code.quiet_builtin _ (by decide +kernel), codeAny_builtin F.entry_type_call ?_⟩
  rw [Around.under_plain (weight_type_call_type "set" [.ref l] []) rfl]
  repeat (any_goals (first | assumption | wp_step))
  refine codeAny_mono (code_set_led1 (.ref l) (E := E) (Q₁ := fun v z => v = .ref s.heap.objs.size ∧ z = { s with heap := s.heap.push (bare w) }) ⟨rfl, rfl⟩) fun r z hr => ?_
  match r, hr with
  | .error _, hr => exact hr
  | .ok .next, hr => exact hr.elim
  | .ok .brk, hr => exact hr.elim
  | .ok .cont, hr => exact hr.elim
  | .ok (.ret _), hr =>
    obtain ⟨rfl, rfl⟩ := hr
    have hS : (s.heap.push (bare w)).get? s.heap.objs.size = some (bare w) := Heap.get?_push_size _ rfl
    have isSet : Shared.TypeIs { s with heap := s.heap.push (bare w) } (.ref s.heap.objs.size) "set" := ⟨_, hS, rfl⟩
    have initL := F.called_set.init.lookup
    have initB := F.called_set.init.bind (.ref s.heap.objs.size)
    repeat (any_goals (first | assumption | wp_step))
    refine codeAny_mono (codeAny_call_builtin (R := wants (fun v z => v = .none ∧ ∃ h' tk, z = { s with heap := h', toks := tk } ∧ SetS w h' s.heap.objs.size (insAll [] texts) ∧ ∀ b o, s.heap.get? b = some o → h'.get? b = some o) E)
      F.called_set.init.plain F.entry_set_init (check_set_init_1 isSet ?_)) fun r z hr => ?_
    · have hl1 : (s.heap.push (bare w)).IsList l items := hl.push _
      obtain ⟨⟨_, dd, _, sl⟩, hol, rfl, nl, rfl⟩ := id hl
      have hol1 : (s.heap.push (bare w)).get? l = some ⟨.type "list", dd, .seq items nl, sl⟩ := Heap.get?_push_of_some _ hol
      have sub1 := F.sub_list_set
      have sub2 := F.sub_list_frozenset
      have unlike : (Value.type "list" == Value.type "dict") = false := by decide
      unfold Builtin.«set.__init__» noKeywords Builtin.Frozenset.updateFrom
      generalize hPI : pyIter = PI
      wp_walk
      subst hPI
      refine wpAny_pyIter_list hl1 (wpAny_bind (wpAny_runValue ?_))
      have old : l < s.heap.objs.size := Heap.lt_size hol
      have sz1 : (s.heap.push (bare w)).objs.size = s.heap.objs.size + 1 := Heap.size_push ..
      have apart : l ≠ (s.heap.push (bare w)).objs.size := by
        rw [sz1]
        exact Nat.ne_of_lt (Nat.lt_succ_of_lt old)
      have out : s.heap.objs.size ∉ [(s.heap.push (bare w)).objs.size, l] := by
        intro z
        rcases List.mem_cons.mp z with z | z
        · rw [sz1] at z
          omega
        · exact absurd old (by rw [← List.mem_singleton.mp z]; exact Nat.lt_irrefl _)
      have texty : ∀ (i : Nat) (v : Value), items[i]? = some v → ∃ k tk, texts[i]? = some k ∧ v = .str k tk := fun i v hv => by
        have hi : i < texts.length := by
          rw [count]
          exact (Array.getElem?_eq_some_iff.mp hv).1
        obtain ⟨tk, e⟩ := SS.strs_at ht i v (by rw [Array.getElem?_toList]; exact hv)
        refine ⟨texts[i], tk, List.getElem?_eq_getElem hi, ?_⟩
        rw [e, List.getD_eq_getElem?_getD, List.getElem?_eq_getElem hi]
        rfl
      have hh3 : A.in1.in1.in1.handled = none := by simp [hh]
      refine feed_loop ((Walks.list hh3 _ l apart items).toS) s.heap.objs.size out texts count (by rw [← count]; exact hb) texty items.size 0 [] _ (Nat.zero_add _) ⟨⟨_, Heap.get?_push_size _ rfl, rfl, rfl⟩, hl1.push _⟩
        (bare_holds (Heap.get?_push_of_some _ hS)) (Nat.le_refl _) fun s' mv hS' => ?_
      obtain ⟨h', g', d', tk', os'⟩ := s'
      have eg : g' = s.gens := mv.gens
      have ed : d' = s.drawn := mv.drawn
      have eo : os' = s.os := mv.os
      subst eg ed eo
      show wpAny _ _ _ _ _ _
      refine wpAny_pure ?_
      show wpAny _ _ (ret Value.none) _ _ _
      refine wpAny_pure ⟨rfl, h', tk', rfl, hS', fun b o e => ?_⟩
      have lt := Heap.lt_size e
      refine mv.heap b o (fun z => ?_) (Heap.get?_push_of_some _ (Heap.get?_push_of_some _ e))
      rcases List.mem_cons.mp z with z | z
      · rw [z] at lt
        exact Nat.lt_irrefl _ lt
      · have z2 := List.mem_singleton.mp z
        have lt2 : b < (s.heap.push (bare w)).objs.size := by
          rw [sz1]
          exact Nat.lt_succ_of_lt lt
        rw [z2] at lt2
        exact Nat.lt_irrefl _ lt2
    · match r, hr with
      | .error _, hr => exact hr
      | .ok .next, hr => exact hr.elim
      | .ok .brk, hr => exact hr.elim
      | .ok .cont, hr => exact hr.elim
      | .ok (.ret _), hr =>
        obtain ⟨rfl, h', tk, rfl, hS', keep⟩ := hr
        repeat (any_goals (first | assumption | wp_step))
        exact hZ _ _ hS' keep
/-- the texts of values that are texts -/
theorem texts_of : ∀ (vs : List Value), (∀ v ∈ vs, ∃ k tk, v = Value.str k tk) → ∃ ks, StrsAre vs ks ∧ ks = vs.map fun v => tx (0, v)
  | [], _ => ⟨[], .nil, rfl⟩
  | v :: vs, h => by
    obtain ⟨k, tk, rfl⟩ := h v List.mem_cons_self
    obtain ⟨ks, h1, h2⟩ := texts_of vs fun u hu => h u (List.mem_cons_of_mem _ hu)
    exact ⟨k :: ks, .cons k tk h1, by rw [h2]; rfl⟩
theorem sorted_of_set {a : Addr} {ks : List Str} {Z : Value → Shared → Prop} (R : SetS w s.heap a ks) (hh : A.handled = none) (few : ks.length < 64)
    (hZ : ∀ s' p (out : Array Value) (c : Nat) (ys : List Str), (∀ b o, s.heap.get? b = some o → s'.heap.get? b = some o) → s'.gens = s.gens → s'.os = s.os → s.heap.objs.size ≤ p →
      s'.heap.get? p = some (seqObj "list" out c) → StrsAre out.toList ys → ys.Perm ks → sortedS ys = true → Z (.ref p) s') :
    wpAny (model P w) A (call (.builtin "sorted") [.ref a]) Z E s := by
  obtain ⟨o, es, ep, t, ho, hx, hd, r⟩ := R
  refine Calls.call_function_entry kind_sorted plain_sorted entry_sorted (args_sorted1 _) ?_
  unfold Builtin.«sorted»
  refine wpAny_bind (m := checkCount "sorted" 1 1 _) (wpAny_pure ?_)
  refine wpAny_bind (collect_set (A := A.in1) hh ⟨o, ho, hx.1, hd⟩ r.fit r.few r.ris r.led fun s1 vs keep more g1 o1 pm => ?_)
  obtain ⟨texts, isT, eT⟩ := texts_of vs fun v hv => by
    obtain ⟨e, he, q⟩ := List.mem_map.mp (pm.mem_iff.mp hv)
    obtain ⟨k, tk, ee⟩ := r.ent e he
    exact ⟨k, tk, by rw [← q, ee]⟩
  have pT : texts.Perm ks := by
    refine List.Perm.trans ?_ r.perm
    rw [eT]
    have q := pm.map fun v => tx (0, v)
    rw [List.map_map] at q
    exact q
  have len : vs.length = ks.length := by
    rw [StrsAre.len_eq isT]
    exact pT.length_eq
  have line : vs.length ≤ sizeLine := by
    rw [len, sizeLine_eq]
    omega
  have hL : (s1.heap.push (seqObj "list" vs.toArray 0)).get? s1.heap.objs.size = some (seqObj "list" vs.toArray 0) := Heap.get?_push_size _ rfl
  refine wpAny_bind (wpAny_newList ?_ line)
  refine wpAny_bind (wpAny_holding (wpAny_call_entry slot_list_sort ⟨_, hL, rfl⟩ entry_list_sort (list_sort_treeK strKind_oneLt hL isT.keysOf (fun v₁ v₂ rest e => keyKind_strs (by rw [← e]; exact isT)) (by rw [len]; exact few) fun st hp hs => ?_) (args_list_sort _)))
  obtain ⟨ys, y1, y2, y3⟩ := sorted_out_str isT hp hs
  obtain ⟨c, hc⟩ := sortedHeap_at (vs := vs) (out := (arrOf st).map (·.2)) hL
  refine ⟨_, rfl, wpAny_pure ⟨_, rfl, hZ _ s1.heap.objs.size _ c ys (fun b u e => ?_) g1 o1 more hc y1 (y2.trans pT) y3⟩⟩
  have q := keep b u e
  have lt := Heap.lt_size q
  show (sortedHeap (s1.heap.push (seqObj "list" vs.toArray 0)) s1.heap.objs.size vs _).get? b = some u
  rw [sortedHeap_old (Nat.ne_of_lt lt) (by rw [Heap.size_push]; exact Nat.lt_succ_of_lt lt)]
  exact Heap.get?_push_of_some _ q
end
end Sx
set_option Elab.async false
set_option linter.all false
set_option maxRecDepth 100000
set_option maxHeartbeats 4000000
/-! The rules over sets of texts. -/
namespace Sx
open PySem PySem.Spec PyProof.Rows L2
/-- a set of the texts ks stands at a -/
def SetX (w : World) (a : Addr) (ks : List Str) : HO := .ext fun h => SetS w h a ks
section
variable {X : Cx}
theorem setX_new {w : World} {P : Program} {H : Hp} {h : Heap} {a : Addr} {ks : List Str} (R : SetS w h a ks) : ObjOk P w H h a (SetX w a ks) := by
  have ⟨o, _, _, _, ho, _⟩ := R
  exact ⟨R, ⟨o, ho⟩, fun _ _ r k => SetS.stay r k⟩
theorem setX_get {pins : List (Addr × Obj)} {σ : L2.St} {H : Hp} {s : Shared} {a : Addr} {ks : List Str} (I : Inv X pins σ H s) (e : H a = some (SetX X.w a ks)) : SetS X.w s.heap a ks := (I.hok a _ e).1
/-- set() -/
def rNewX (w : World) : List V → Hp → VK → Prop := fun xs H Q => xs = [] ∧ ∀ p, H p = none → Q (.ref p) (upd H p (SetX w p []))
theorem cr_newX : CallR X (.type "set") (rNewX X.w) := by
  intro pins s σ H xs us Q I r ⟨e, q⟩
  subst e
  cases r
  refine setR_new fun _ => ⟨.ref _, upd H s.heap.objs.size (SetX X.w s.heap.objs.size []), ?_, rfl, q _ (I.hok.fresh (Nat.le_refl _))⟩
  exact I.laid (t' := s.toks) (fun b u e => Heap.get?_push_of_some _ e) (Nat.le_refl _) (setX_new (bare_holds (Heap.get?_push_size _ rfl)))
/-- set(a list of texts) -/
def rOfX (K : PySem.W.Frag) (w : World) : List V → Hp → VK → Prop := fun xs H Q => ∃ (l : Addr) (texts : List Str), xs = [.ref l] ∧ SqL K H l (texts.map V.str) ∧ texts.length + 1 < scanBound ∧
  ∀ p, H p = none → Q (.ref p) (upd H p (SetX w p (insAll [] texts)))
theorem cr_ofX (hc : X.calm = true) : CallR X (.type "set") (rOfX X.K X.w) := by
  intro pins s σ H xs us Q I r ⟨l, texts, e, hq, few, q⟩
  subst e
  rw [Vals.ref1 r]
  obtain ⟨its, rv, pl, _⟩ := I.list hq
  refine set_of_list texts (I.ok.hd hc) pl.isList (by simpa using strsAre_of rv) few fun h' tk hS keep => ?_
  exact ⟨.ref _, upd H s.heap.objs.size (SetX X.w s.heap.objs.size (insAll [] texts)), I.laid (t' := tk) keep (Nat.le_refl _) (setX_new hS), rfl, q _ (I.hok.fresh (Nat.le_refl _))⟩
/-- found.add(text) -/
def rAddX (w : World) : V → List V → Hp → VK → Prop := fun x xs H Q => ∃ (a : Addr) (k : Str) (ks : List Str), x = V.ref a ∧ xs = [V.str k] ∧ H a = some (SetX w a ks) ∧ ks.length + 1 < scanBound ∧ Q .non (upd H a (SetX w a (ins k ks)))
theorem mt_addX : MtR X "set.add" (rAddX X.w) := by
  intro pins s σ H x xs v us Q I rx rxs ⟨a, k, ks, e1, e2, ha, room, q⟩
  subst e1 e2
  cases rx
  obtain ⟨u, rfl, tk, rfl⟩ := vals1 rxs
  have R := setX_get I ha
  refine wpAny_call_entry F.slot_set_add (R.of (P := X.prog)).typeIs F.entry_set_add ?_ (F.args_set_add_2 _ _)
  unfold Builtin.«set.add» Builtin.Frozenset.oneOther
  simp only [List.isEmpty_nil, bind_assoc]
  unfold Builtin.Frozenset.addrOf setAdd
  refine wpAny_bind (wpAny_pure ?_)
  try dsimp only
  refine wpAny_bind (wpAny_pure ?_)
  try dsimp only
  refine wpAny_bind (wpAny_holding (wpAny_bind ((PySem.strKind X.prog X.w).pyHash (strKind_is X.prog X.w k tk) ?_)))
  refine add_at (s := { s with toks := s.toks + 1 }) R room fun b h' sb new => ?_
  show wpAny _ _ (ret Value.none) _ _ _
  have there : ∃ u, h'.get? a = some u := by
    obtain ⟨o, _, _, _, ho, _⟩ := new
    exact ⟨o, ho⟩
  exact wpAny_pure ⟨_, rfl, .non, upd H a (SetX X.w a (ins k ks)), I.write (e := a) (t' := s.toks + 1) (by rw [ha]; trivial) (.inl rfl) (fun c u hc hu => (sb.2 c hc).trans hu) there (setX_new new), rfl, q⟩
def tAddX (w : World) (to : TE) (t : TA) : TE := fun σ H Q => to σ H fun x H1 => (∃ a ks, x = V.ref a ∧ H1 a = some (SetX w a ks)) ∧ t σ H1 fun xs H2 => rAddX w x xs H2 Q
theorem pe_addX {o e : Expr} {to : TE} {t : TA} {apos cpos : Pos} (ho : PE X o to) (ha : PA X [e] t)
    (h1 : attributeBase o "add" X.env (eval o X.env) = eval o X.env := by rfl)
    (h2 : ((backTo cpos (starEach [e] X.env)).all (fun x => !x.1) && (backToKw cpos (keywordEach [] X.env)).all (fun x => x.1.isSome) && decide ([e].length + ([] : List Keyword).length + (if ([] : List Keyword).isEmpty then 0 else 1) < 30)) = true := by rfl)
    (h3 : (apos.endLine == cpos.line) = true := by rfl) (h4 : starEach [e] X.env = (false, eval e X.env) :: starEach [] X.env := by rfl) (h5 : (backTo cpos (starEach [] X.env)).any (·.1) = false := by rfl) :
    PE X (.Call (.Attribute o "add" apos) [e] [] cpos) (tAddX X.w to t) := by
  refine ⟨fun pins s σ H Q I h => wpAny_Call_method_late h1 h2 h3 rfl (thn (ho.run pins s σ H _ I h) fun v s1 ⟨x, H1, I1, r1, ⟨a, ks, ex, hka⟩, q1⟩ => ?_)⟩
  subst ex
  cases r1
  have R := (setX_get I1 hka).of (P := X.prog)
  have run := ha.run cpos pins s1 σ H1 _ I1 q1
  refine ⟨"set", "set.add", F.plainAttrs_set, F.slot_set_add, F.type_set_add, R.typeIs, R.noDict, ?_⟩
  rw [h4] at run ⊢
  refine Calls.callWith_builtin (by show (false || (backTo cpos (starEach [] X.env)).any (·.1)) = false; rw [h5]; rfl) (Calls.evalArgs_plain (thn run fun us s2 ⟨vs, H2, I2, r2, q2⟩ => ?_))
  exact mt_addX pins s2 σ H2 (.ref a) vs (.ref a) us Q I2 rfl r2 q2
/-- sorted(a set of texts) -/
def rSortX (w : World) : List V → Hp → VK → Prop := fun vs H Q => ∃ (a : Addr) (ks : List Str), vs = [V.ref a] ∧ H a = some (SetX w a ks) ∧ ks.length < 64 ∧
  ∀ (ys : List Str) (p : Addr), ys.Perm ks → ys.Nodup → sortedS ys = true → H p = none → Q (.ref p) (upd H p (.lst (ys.map V.str)))
theorem cr_sortX (hc : X.calm = true) : CallR X (.builtin "sorted") (rSortX X.w) := by
  intro pins s σ H vs us Q I r ⟨a, ks, e, ha, few, q⟩
  subst e
  rw [Vals.ref1 r]
  have R := setX_get I ha
  have nd : ks.Nodup := by
    obtain ⟨_, _, _, _, _, _, _, rows⟩ := R
    exact rows.nd
  refine sorted_of_set R (I.ok.hd hc) few fun s' p out c ys keep g1 o1 old hp y1 y2 y3 => ?_
  have line : (ys.map V.str).length ≤ sizeLine := by
    rw [List.length_map, y2.length_eq]
    exact small64 few
  have free : H p = none := I.hok.fresh old
  have J : Inv X pins σ (upd H p (.lst (ys.map V.str))) { s with heap := s'.heap, gens := s'.gens, drawn := s'.drawn, toks := s'.toks } :=
    I.call (ch := []) (Un.laid keep old free) (I.hok.laid keep old ⟨line, out.toList, c, vals_of_strs y1, hp⟩) (by rw [g1]; exact I.bare) (fun _ z => nomatch z)
  have back : s' = { s with heap := s'.heap, gens := s'.gens, drawn := s'.drawn, toks := s'.toks } := by
    cases s'
    cases s
    cases o1
    rfl
  rw [back]
  exact ⟨.ref p, _, J, rfl, q ys p y2 (y2.nodup_iff.mpr nd) y3 free⟩
end
end Sx
set_option Elab.async false
set_option linter.all false
set_option maxRecDepth 100000
set_option maxHeartbeats 4000000
/-! Trees, heaps: what the defs of these laws share. -/
namespace Kf
open PySem PySem.Spec PyProof.Rows L2 Sx
/-! ### lists, pair by pair -/
inductive All2 {α β : Type} (F : α → β → Prop) : List α → List β → Prop
  | nil : All2 F [] []
  | cons {a : α} {b : β} {l : List α} {m : List β} : F a b → All2 F l m → All2 F (a :: l) (b :: m)
section
variable {α β : Type} {F G : α → β → Prop}
theorem All2.len : ∀ {l : List α} {m : List β}, All2 F l m → l.length = m.length
  | _, _, .nil => rfl
  | _, _, .cons _ t => congrArg Nat.succ t.len
theorem All2.app : ∀ {l l2 : List α} {m m2 : List β}, All2 F l m → All2 F l2 m2 → All2 F (l ++ l2) (m ++ m2)
  | _, _, _, _, .nil, h => h
  | _, _, _, _, .cons r t, h => .cons r (t.app h)
theorem All2.mono (f : ∀ a b, F a b → G a b) : ∀ {l : List α} {m : List β}, All2 F l m → All2 G l m
  | _, _, .nil => .nil
  | _, _, .cons r t => .cons (f _ _ r) (t.mono f)
theorem All2.one {a : α} {b : β} (h : F a b) : All2 F [a] [b] := .cons h .nil
theorem All2.rev : ∀ {l : List α} {m : List β}, All2 F l m → All2 F l.reverse m.reverse
  | _, _, .nil => .nil
  | _, _, .cons r t => by
    rw [List.reverse_cons, List.reverse_cons]
    exact t.rev.app (.one r)
theorem All2.last {l : List α} {m : List β} {y : β} (h : All2 F l (m ++ [y])) : ∃ k x, l = k ++ [x] ∧ All2 F k m ∧ F x y := by
  have q := h.rev
  rw [List.reverse_append, List.reverse_singleton, List.singleton_append] at q
  generalize hr : l.reverse = r at q
  cases q with
  | @cons x _ k _ r t =>
    have t2 := t.rev
    rw [List.reverse_reverse] at t2
    refine ⟨k.reverse, x, ?_, t2, r⟩
    have e := congrArg List.reverse hr
    rw [List.reverse_reverse, List.reverse_cons] at e
    exact e
theorem All2.get : ∀ {l : List α} {m : List β} {i : Nat} {y : β}, All2 F l m → m[i]? = some y → ∃ x, l[i]? = some x ∧ F x y
  | _, _, _, _, .nil, h => by simp at h
  | _, _, 0, _, .cons r _, h => ⟨_, rfl, (Option.some.inj h) ▸ r⟩
  | _, _, i + 1, _, .cons _ t, h => t.get (i := i) (by simpa using h)
end
/-! ### heaps -/
/-- all but what stands at f is as it was -/
def But (f : Addr) (H H' : Hp) : Prop := ∀ b o, b ≠ f → H b = some o → H' b = some o
/-- all tuples stand -/
def Tups (H H' : Hp) : Prop := ∀ b xs, H b = some (.tup xs) → H' b = some (.tup xs)
section
variable {f : Addr} {H H1 H2 : Hp} {p : Addr} {o : HO}
theorem But.refl (f : Addr) (H : Hp) : But f H H := fun _ _ _ e => e
theorem But.trans (a : But f H H1) (b : But f H1 H2) : But f H H2 := fun c u n e => b c u n (a c u n e)
theorem but_same (a : Same H H1) : But f H H1 := fun c u _ e => a c u e
theorem But.new (a : But f H H1) (h : H1 p = none) : But f H (upd H1 p o) := fun c u n e => by
  have q := a c u n e
  rw [upd_ne (ne_of_none q h)]
  exact q
theorem But.own (a : But f H H1) : But f H (upd H1 f o) := fun c u n e => by
  rw [upd_ne n]
  exact a c u n e
theorem same_new (h : H p = none) : Same H (upd H p o) := fun b u q => by
  rw [upd_ne (ne_of_none q h)]
  exact q
theorem same_put (s : Same H H1) (h : H1 p = none) : Same H (upd H1 p o) := fun b u q => by
  rw [upd_ne (ne_of_none (s b u q) h)]
  exact s b u q
theorem Tups.refl (H : Hp) : Tups H H := fun _ _ e => e
theorem Tups.trans (a : Tups H H1) (b : Tups H1 H2) : Tups H H2 := fun c u e => b c u (a c u e)
theorem tups_same (a : Same H H1) : Tups H H1 := fun c u e => a c _ e
theorem But.tups {xs : List V} (a : But f H H1) (h : H f = some (.lst xs)) : Tups H H1 := fun c u e => a c _ (fun z => by
  rw [z, h] at e
  cases e) e
theorem tups_put (h : ∀ xs, H p ≠ some (.tup xs)) : Tups H (upd H p o) := fun c u e => by
  rw [upd_ne (fun z => h u (by rw [← z]; exact e))]
  exact e
end
/-! ### trees -/
inductive Tr where
  | leaf (w : Str) (x : V)
  | n0 (w : Str)
  | n1 (w : Str) (a : Tr)
  | n2 (w : Str) (a b : Tr)
abbrev leafVs : List V := [.str "num", .str "name", .str "bound"]
abbrev bindVs : List V := [.str "all", .str "some"]
def leafy (w : Str) : Bool := inV (.str w) leafVs
def binds (w : Str) : Bool := inV (.str w) bindVs
/-- how many stand around the parts -/
def inner (w : Str) (r : Nat) : Nat := if binds w = true then r + 1 else r
def Tr.word : Tr → Str
  | .leaf w _ => w
  | .n0 w => w
  | .n1 w _ => w
  | .n2 w _ _ => w
def Tr.kids : Tr → List Tr
  | .leaf _ _ => []
  | .n0 _ => []
  | .n1 _ a => [a]
  | .n2 _ a b => [a, b]
/-- the tree t is the value v -/
def At (H : Hp) : Tr → V → Prop
  | .leaf w x, v => ∃ p, v = .ref p ∧ H p = some (.tup [.str w, x])
  | .n0 w, v => ∃ p, v = .ref p ∧ H p = some (.tup [.str w])
  | .n1 w a, v => ∃ p y, v = .ref p ∧ H p = some (.tup [.str w, y]) ∧ At H a y
  | .n2 w a b, v => ∃ p y z, v = .ref p ∧ H p = some (.tup [.str w, y, z]) ∧ At H a y ∧ At H b z
theorem At.keep {H H' : Hp} (k : Tups H H') : ∀ {t : Tr} {v : V}, At H t v → At H' t v
  | .leaf _ _, _, ⟨p, e, h⟩ => ⟨p, e, k _ _ h⟩
  | .n0 _, _, ⟨p, e, h⟩ => ⟨p, e, k _ _ h⟩
  | .n1 _ _, _, ⟨p, y, e, h, a⟩ => ⟨p, y, e, k _ _ h, a.keep k⟩
  | .n2 _ _ _, _, ⟨p, y, z, e, h, a, b⟩ => ⟨p, y, z, e, k _ _ h, a.keep k, b.keep k⟩
/-- leaves by their words -/
def Tr.Ok : Tr → Prop
  | .leaf w x => leafy w = true ∧ ((∃ i, x = .int i) ∧ w ≠ "name" ∨ (∃ z, x = .str z) ∧ w = "name")
  | .n0 w => leafy w = false
  | .n1 w a => leafy w = false ∧ a.Ok
  | .n2 w a b => leafy w = false ∧ a.Ok ∧ b.Ok
/-- how far within one another -/
def Tr.deep : Tr → Nat
  | .leaf _ _ => 1
  | .n0 _ => 1
  | .n1 _ a => a.deep + 1
  | .n2 _ a b => max a.deep b.deep + 1
def Tr.size : Tr → Nat
  | .leaf _ _ => 1
  | .n0 _ => 1
  | .n1 _ a => a.size + 1
  | .n2 _ a b => a.size + b.size + 1
theorem size_deep : ∀ t : Tr, t.size + 1 ≤ 2 ^ t.deep
  | .leaf _ _ => Nat.le_refl _
  | .n0 _ => Nat.le_refl _
  | .n1 _ a => by
    have h := size_deep a
    have p : 2 ^ (a.deep + 1) = 2 ^ a.deep * 2 := Nat.pow_succ _ _
    show a.size + 1 + 1 ≤ 2 ^ (a.deep + 1)
    omega
  | .n2 _ a b => by
    have h := size_deep a
    have h2 := size_deep b
    have p : 2 ^ (max a.deep b.deep + 1) = 2 ^ (max a.deep b.deep) * 2 := Nat.pow_succ _ _
    have q1 : 2 ^ a.deep ≤ 2 ^ (max a.deep b.deep) := Nat.pow_le_pow_right (by decide) (Nat.le_max_left _ _)
    have q2 : 2 ^ b.deep ≤ 2 ^ (max a.deep b.deep) := Nat.pow_le_pow_right (by decide) (Nat.le_max_right _ _)
    show a.size + b.size + 1 + 1 ≤ 2 ^ (max a.deep b.deep + 1)
    omega
def Tr.names : Tr → List Str
  | .leaf w x => if w = "name" then (match x with | .str z => [z] | _ => []) else []
  | .n0 _ => []
  | .n1 _ a => a.names
  | .n2 _ a b => a.names ++ b.names
theorem names_size : ∀ t : Tr, t.names.length ≤ t.size
  | .leaf w x => by
    show (if w = "name" then (match x with | .str z => [z] | _ => []) else ([] : List Str)).length ≤ 1
    split
    · cases x <;> simp
    · simp
  | .n0 _ => Nat.zero_le _
  | .n1 _ a => Nat.le_succ_of_le (names_size a)
  | .n2 _ a b => by
    have h1 := names_size a
    have h2 := names_size b
    show (a.names ++ b.names).length ≤ a.size + b.size + 1
    rw [List.length_append]
    omega
/-! ### the pieces, parts ahead of the whole, from the left; each with how many all and some stand around it -/
def Tr.post : Tr → Nat → List (Tr × Nat)
  | .leaf w x, r => [(.leaf w x, r)]
  | .n0 w, r => [(.n0 w, r)]
  | .n1 w a, r => a.post (inner w r) ++ [(.n1 w a, r)]
  | .n2 w a b, r => a.post (inner w r) ++ b.post (inner w r) ++ [(.n2 w a b, r)]
theorem post_len : ∀ (t : Tr) (r : Nat), (t.post r).length = t.size
  | .leaf _ _, _ => rfl
  | .n0 _, _ => rfl
  | .n1 w a, r => by
    show (a.post _ ++ [_]).length = a.size + 1
    rw [List.length_append, post_len a]
    rfl
  | .n2 w a b, r => by
    show (a.post _ ++ b.post _ ++ [_]).length = a.size + b.size + 1
    rw [List.length_append, List.length_append, post_len a, post_len b]
    rfl
theorem post_kids (t : Tr) (r : Nat) : t.post r = (t.kids.flatMap fun a => a.post (inner t.word r)) ++ [(t, r)] := by
  cases t with
  | leaf w x => rfl
  | n0 w => rfl
  | n1 w a => simp [Tr.post, Tr.kids, Tr.word]
  | n2 w a b => simp [Tr.post, Tr.kids, Tr.word]
/-- what a whole list of pieces has for names -/
def leafName : Tr → List Str
  | .leaf w x => Tr.names (.leaf w x)
  | _ => []
theorem post_names : ∀ (t : Tr) (r : Nat), ((t.post r).flatMap fun (e : Tr × Nat) => leafName e.1) = t.names
  | .leaf w x, r => by simp [Tr.post, leafName]
  | .n0 w, r => by simp [Tr.post, leafName, Tr.names]
  | .n1 w a, r => by
    show ((a.post _ ++ [_]).flatMap fun (e : Tr × Nat) => leafName e.1) = a.names
    rw [List.flatMap_append, post_names a]
    simp [leafName]
  | .n2 w a b, r => by
    show ((a.post _ ++ b.post _ ++ [_]).flatMap fun (e : Tr × Nat) => leafName e.1) = a.names ++ b.names
    rw [List.flatMap_append, List.flatMap_append, post_names a, post_names b]
    simp [leafName]
theorem post_ok : ∀ (t : Tr) (r : Nat), t.Ok → ∀ e ∈ t.post r, e.1.Ok
  | .leaf w x, r, h, e, he => by
    rw [List.mem_singleton.mp he]
    exact h
  | .n0 w, r, h, e, he => by
    rw [List.mem_singleton.mp he]
    exact h
  | .n1 w a, r, h, e, he => by
    rcases List.mem_append.mp he with z | z
    · exact post_ok a _ h.2 e z
    · rw [List.mem_singleton.mp z]
      exact h
  | .n2 w a b, r, h, e, he => by
    rcases List.mem_append.mp he with z | z
    · rcases List.mem_append.mp z with z | z
      · exact post_ok a _ h.2.1 e z
      · exact post_ok b _ h.2.2 e z
    · rw [List.mem_singleton.mp z]
      exact h
theorem no_leaf {w : Str} (h : leafy w = false) (z : leafy w = true) : False := by
  rw [h] at z
  cases z
/-- a tree's own tuple -/
theorem At.view {H : Hp} {t : Tr} {v : V} (h : At H t v) (ok : t.Ok) : ∃ p vs, v = .ref p ∧ H p = some (.tup (.str t.word :: vs)) ∧ vs.length ≤ 2 ∧ (leafy t.word = false → All2 (At H) t.kids vs) ∧ (leafy t.word = true → ∃ x, t = .leaf t.word x ∧ vs = [x]) := by
  cases t with
  | leaf w x =>
    obtain ⟨p, e, h⟩ := h
    exact ⟨p, [x], e, h, Nat.le_succ 1, fun z => (no_leaf z ok.1).elim, fun _ => ⟨x, rfl, rfl⟩⟩
  | n0 w =>
    obtain ⟨p, e, h⟩ := h
    exact ⟨p, [], e, h, Nat.zero_le 2, fun _ => .nil, fun z => (no_leaf ok z).elim⟩
  | n1 w a =>
    obtain ⟨p, y, e, h, ha⟩ := h
    exact ⟨p, [y], e, h, Nat.le_succ 1, fun _ => .one ha, fun z => (no_leaf ok.1 z).elim⟩
  | n2 w a b =>
    obtain ⟨p, y, z, e, h, ha, hb⟩ := h
    exact ⟨p, [y, z], e, h, Nat.le_refl 2, fun _ => .cons ha (.one hb), fun q => (no_leaf ok.1 q).elim⟩
theorem kids_ok {t : Tr} (ok : t.Ok) : ∀ a ∈ t.kids, a.Ok := by
  cases t with
  | leaf w x => intro a h; cases h
  | n0 w => intro a h; cases h
  | n1 w a =>
    intro c h
    rw [List.mem_singleton.mp h]
    exact ok.2
  | n2 w a b =>
    intro c h
    rcases List.mem_cons.mp h with z | z
    · rw [z]
      exact ok.2.1
    · rw [List.mem_singleton.mp z]
      exact ok.2.2
/-! ### sorted lists of texts -/
theorem nodup_le : ∀ (ks ms : List Str), ks.Nodup → (∀ k ∈ ks, k ∈ ms) → ks.length ≤ ms.length
  | [], _, _, _ => Nat.zero_le _
  | k :: r, ms, nd, h => by
    obtain ⟨n1, n2⟩ := List.nodup_cons.mp nd
    have hk : k ∈ ms := h k List.mem_cons_self
    have q := nodup_le r (ms.erase k) n2 fun j hj => (List.mem_erase_of_ne (fun z : j = k => n1 (z ▸ hj))).mpr (h j (List.mem_cons_of_mem _ hj))
    rw [List.length_erase_of_mem hk] at q
    have pos : 0 < ms.length := List.length_pos_of_mem hk
    rw [List.length_cons]
    omega
def Le (a b : Str) : Prop := ltCps b.cps.toList a.cps.toList = false
theorem rising_pairs : ∀ (p : Str) (l : List Str), risingS p l = true → (∀ (a b c : Str), Le a b → Le b c → Le a c) → (p :: l).Pairwise Le
  | p, [], _, _ => List.pairwise_singleton _ _
  | p, x :: r, h, tr => by
    have h' : (!ltCps x.cps.toList p.cps.toList && risingS x r) = true := h
    rw [Bool.and_eq_true] at h'
    have q := rising_pairs x r h'.2 tr
    have px : Le p x := by
      unfold Le
      simpa using h'.1
    refine List.pairwise_cons.mpr ⟨fun y hy => ?_, q⟩
    rcases List.mem_cons.mp hy with z | z
    · rw [z]
      exact px
    · exact tr _ _ _ px (List.rel_of_pairwise_cons q z)
theorem le_iff (a b : Str) : Le a b ↔ a.cps.toList ≤ b.cps.toList := by
  unfold Le
  rw [ltCps_eq]
  simp
theorem le_trans3 (a b c : Str) (h1 : Le a b) (h2 : Le b c) : Le a c := by
  rw [le_iff] at *
  exact List.le_trans h1 h2
theorem le_anti (a b : Str) (h1 : Le a b) (h2 : Le b a) : a = b := by
  rw [le_iff] at *
  have q := List.le_antisymm h1 h2
  cases a with
  | mk x =>
    cases b with
    | mk y =>
      have q' : x.toList = y.toList := q
      rw [Array.toList_inj.mp q']
theorem one_order : ∀ (l m : List Str), l.Pairwise Le → m.Pairwise Le → l.Nodup → m.Nodup → (∀ x, x ∈ l ↔ x ∈ m) → l = m
  | [], [], _, _, _, _, _ => rfl
  | [], y :: m, _, _, _, _, h => by
    have := (h y).2 List.mem_cons_self
    cases this
  | x :: l, [], _, _, _, _, h => by
    have := (h x).1 List.mem_cons_self
    cases this
  | x :: l, y :: m, pl, pm, nl, nm, h => by
    obtain ⟨l1, l2⟩ := List.pairwise_cons.mp pl
    obtain ⟨m1, m2⟩ := List.pairwise_cons.mp pm
    obtain ⟨k1, k2⟩ := List.nodup_cons.mp nl
    obtain ⟨j1, j2⟩ := List.nodup_cons.mp nm
    have exy : x = y := by
      rcases List.mem_cons.mp ((h x).1 List.mem_cons_self) with z | z
      · exact z
      · rcases List.mem_cons.mp ((h y).2 List.mem_cons_self) with q | q
        · exact q.symm
        · exact le_anti _ _ (l1 y q) (m1 x z)
    subst exy
    rw [one_order l m l2 m2 k2 j2 fun z => ?_]
    constructor
    · intro hz
      rcases List.mem_cons.mp ((h z).1 (List.mem_cons_of_mem _ hz)) with e | e
      · exact absurd (e ▸ hz) k1
      · exact e
    · intro hz
      rcases List.mem_cons.mp ((h z).2 (List.mem_cons_of_mem _ hz)) with e | e
      · exact absurd (e ▸ hz) j1
      · exact e
theorem sorted_pairs : ∀ l : List Str, sortedS l = true → l.Pairwise Le
  | [], _ => List.Pairwise.nil
  | x :: r, h => rising_pairs x r h le_trans3
end Kf
set_option Elab.async false
set_option linter.all false
set_option maxRecDepth 100000
set_option maxHeartbeats 4000000
/-! The defs by which the law makes its inputs. -/
namespace Kf
open PySem PySem.Spec PyProof.Rows L2 Sx
def top (i : Nat) : Stmt := PySem.Challenge.pw_prooffruit_k41_truth_of_flat_sayings.main.body.getD i (.Pass ⟨0, 0, 0, 0⟩)
abbrev sFeed : Stmt := top 16
abbrev sTake : Stmt := top 17
abbrev sPick : Stmt := top 18
theorem scFeed : FnScope ["script", "k", "seed", "digits"] ["script", "k"] (defScope sFeed) := ⟨rfl, rfl, rfl, by decide +kernel, rfl, by decide +kernel, by decide +kernel⟩
theorem scTake : FnScope ["feed", "many", "found"] ["feed", "many"] (defScope sTake) := ⟨rfl, rfl, rfl, by decide +kernel, rfl, by decide +kernel, by decide +kernel⟩
theorem scPick : FnScope ["feed", "some"] ["feed", "some"] (defScope sPick) := ⟨rfl, rfl, rfl, by decide +kernel, rfl, by decide +kernel, by decide +kernel⟩
/-- the feed at f: two numbers, the second below 2 ^ 61 - 1 -/
def FeedAt (H : Hp) (f : Addr) : Prop := ∃ a b : Int, H f = some (.lst [.int a, .int b]) ∧ 0 ≤ b ∧ b < 2305843009213693951
theorem FeedAt.keep {H H' : Hp} {f g : Addr} (h : FeedAt H f) (n : f ≠ g) (b : But g H H') : FeedAt H' f := by
  obtain ⟨x, y, e, q⟩ := h
  exact ⟨x, y, b _ _ n e, q⟩
theorem FeedAt.same {H H' : Hp} {f : Addr} (h : FeedAt H f) (b : Same H H') : FeedAt H' f := by
  obtain ⟨x, y, e, q⟩ := h
  exact ⟨x, y, b _ _ e, q⟩
theorem FeedAt.tups {H H' : Hp} {f : Addr} (h : FeedAt H f) (b : But f H H') : Tups H H' := by
  obtain ⟨x, y, e, q⟩ := h
  exact b.tups e
/-- a list of the call's own -/
theorem FeedAt.ne {H : Hp} {f p : Addr} (h : FeedAt H f) (e : H p = none) : p ≠ f := fun z => by
  obtain ⟨x, y, e2, q⟩ := h
  rw [z, e2] at e
  cases e
section
variable {P : Program} {w : World} {K : PySem.W.Frag} {mg : Str → Option Value} {base : Heap}
/-! ### _law_feed -/
def spFeed (K : PySem.W.Frag) : Sp := fun vs H Q _ => ∃ (a : Addr) (ns : List Int) (k : Nat), vs = [.ref a, .int (k : Int)] ∧ SqL K H a (ns.map V.int) ∧ (∀ z ∈ ns, Builtin.Int.intBits z ≤ 1048576) ∧ k ≤ 100 ∧
  ∀ p H', Same H H' → H p = none → FeedAt H' p → Q (.ref p) H'
theorem notM : (2305843009213693951 : Int) ≠ 0 := by decide
theorem modM (i : Int) : 0 ≤ i.fmod 2305843009213693951 ∧ i.fmod 2305843009213693951 < 2305843009213693951 := by
  rw [Int.fmod_eq_emod_of_nonneg _ (by decide)]
  exact ⟨Int.emod_nonneg _ (by decide), Int.emod_lt_of_pos _ (by decide)⟩
theorem seed_ok {z : Int} (h : Builtin.Int.intBits z ≤ 1048576) : CMulX z 6364136223846793005 := by
  unfold CMulX
  have e : Builtin.Int.intBits 6364136223846793005 = 63 := by decide +kernel
  rw [e]
  omega
theorem ok_feed {f : Addr} {fd : FuncData} {j : Nat} (F : Fun K "_law_feed" "_law_feed" sFeed f fd) (ml : mg "len" = none) (ma : mg "abs" = none) : FnOk P w K mg base CX0 (j + 1) f fd ["script", "k"] (spFeed K) := by
  refine F.ok scFeed (fun vs H Q E h => ?_) (fun cdv A outer s H vs Q E hr h => ?_)
  · obtain ⟨a, ns, k, rfl, _⟩ := h
    rfl
  obtain ⟨a, ns, k, rfl, hS, hb, hk, q⟩ := h
  refine ⟨_, pss_cons (ps_set (i := 2) scFeed.nd rfl (.inl rfl) (pe_op op_add (pe_op op_mul pe_int (pv 1)) pe_int))
    (pss_cons (ps_if (pt_cmpR op_lt (pv 1) (pe_callB call_len_seq (by rfl) ml PySem.boot_len (pa_cons (pv 0) pa_nil)) (nomark _)) (pss_one (ps_set (i := 2) scFeed.nd rfl (.inl rfl) (pe_ix ix_list (pv 0) (pv 1) (fun _ _ => rfl)))) pss_nil)
    (pss_cons (ps_set (i := 3) scFeed.nd rfl (.inl rfl) pe_int)
    (pss_cons (ps_if (pt_cmpR op_ge (pe_callB call_abs (by rfl) ma (by decide +kernel) (pa_cons (pv 2) pa_nil)) (pe_op op_pow pe_int pe_int) (nomark _)) (pss_one (ps_set (i := 3) scFeed.nd rfl (.inl rfl) (pe_op op_sub (pe_callB call_abs (by rfl) ma (by decide +kernel) (pa_cons (pv 2) pa_nil)) (pe_op op_pow pe_int pe_int)))) pss_nil)
    (pss_one (ps_ret (pe_lst (pa_cons (pv 3) (pa_cons (pe_op op_modN (pe_op op_add (pe_op op_add (pe_op op_mulX (pv 2) pe_int) (pe_op op_mul pe_int (pv 1))) pe_int) pe_int) pa_nil)))))))), ?_⟩
  refine ⟨_, rfl, _, _, rfl, rfl, .inl ⟨by decide, by decide⟩, _, _, rfl, rfl, ?_⟩
  refine ⟨_, rfl, _, rfl, a, _, rfl, .inl hS, _, _, rfl, rfl, _, rfl, ?_⟩
  have fin : ∀ (z d : Int), Builtin.Int.intBits z ≤ 1048576 → ∀ p, H p = none → Q (.ref p) (upd H p (.lst [.int d, .int ((z * 6364136223846793005 + 7919 * (k : Int) + 1442695040888963407).fmod 2305843009213693951)])) := fun z d _ p hp => by
    refine q p _ (same_new hp) hp ⟨_, _, upd_same, (modM _).1, (modM _).2⟩
  have two : ∀ (z : Int), Builtin.Int.intBits z ≤ 1048576 → CMulX z 6364136223846793005 ∧ CMul 7919 (k : Int) := fun z hz => ⟨seed_ok hz, .inl ⟨by decide, by decide⟩⟩
  refine ite2 (fun c => ?_) (fun c => ?_)
  · have c' : (k : Int) < (((ns.map V.int).length : Nat) : Int) := of_decide_eq_true c
    have lt : k < ns.length := by
      rw [List.length_map] at c'
      omega
    have item : atI (ns.map V.int) (k : Int) = some (.int ns[k]) := atI_nat (by rw [List.getElem?_map, List.getElem?_eq_getElem lt]; rfl)
    have hz := hb ns[k] (List.getElem_mem lt)
    refine ⟨_, rfl, _, rfl, a, _, _, _, rfl, rfl, hS, item, ?_⟩
    refine ⟨_, rfl, _, rfl, _, _, rfl, rfl, ⟨by decide, by decide, by decide⟩, _, _, rfl, rfl, _, rfl, ?_⟩
    refine ite2 (fun _ => ?_) (fun _ => ?_)
    · refine ⟨_, rfl, _, rfl, _, _, rfl, rfl, ⟨by decide, by decide, by decide⟩, _, _, rfl, rfl, ?_⟩
      exact ⟨_, rfl, _, rfl, _, _, rfl, rfl, (two _ hz).1, _, rfl, _, _, rfl, rfl, (two _ hz).2, _, _, rfl, rfl, _, _, rfl, rfl, _, _, rfl, rfl, notM, (by show 2 ≤ sizeLine; decide), fin _ _ hz⟩
    · exact ⟨_, rfl, _, rfl, _, _, rfl, rfl, (two _ hz).1, _, rfl, _, _, rfl, rfl, (two _ hz).2, _, _, rfl, rfl, _, _, rfl, rfl, _, _, rfl, rfl, notM, (by show 2 ≤ sizeLine; decide), fin _ _ hz⟩
  · have hz : Builtin.Int.intBits (67 * (k : Int) + 19) ≤ 1048576 := by
      refine Nat.le_trans (PyProof.Rows.intBits_le (k := 20) ?_) (by decide)
      have : (67 * (k : Int) + 19).natAbs ≤ 6719 := by omega
      exact Nat.lt_of_le_of_lt this (by decide)
    refine ⟨_, rfl, _, rfl, _, _, rfl, rfl, ⟨by decide, by decide, by decide⟩, _, _, rfl, rfl, _, rfl, ?_⟩
    refine ite2 (fun _ => ?_) (fun _ => ?_)
    · refine ⟨_, rfl, _, rfl, _, _, rfl, rfl, ⟨by decide, by decide, by decide⟩, _, _, rfl, rfl, ?_⟩
      exact ⟨_, rfl, _, rfl, _, _, rfl, rfl, (two _ hz).1, _, rfl, _, _, rfl, rfl, (two _ hz).2, _, _, rfl, rfl, _, _, rfl, rfl, _, _, rfl, rfl, notM, (by show 2 ≤ sizeLine; decide), fin _ _ hz⟩
    · exact ⟨_, rfl, _, rfl, _, _, rfl, rfl, (two _ hz).1, _, rfl, _, _, rfl, rfl, (two _ hz).2, _, _, rfl, rfl, _, _, rfl, rfl, _, _, rfl, rfl, notM, (by show 2 ≤ sizeLine; decide), fin _ _ hz⟩
/-! ### _law_take -/
def spTake : Sp := fun vs H Q _ => ∃ (f : Addr) (many : Int), vs = [.ref f, .int many] ∧ 0 < many ∧ many.natAbs < 2 ^ 200 ∧ FeedAt H f ∧
  ∀ (r : Int) H', 0 ≤ r → r < many → But f H H' → FeedAt H' f → Q (.int r) H'
theorem mod_in {i m : Int} (h : 0 < m) : 0 ≤ i.fmod m ∧ i.fmod m < m := by
  rw [Int.fmod_eq_emod_of_nonneg _ (Int.le_of_lt h)]
  exact ⟨Int.emod_nonneg _ (Int.ne_of_gt h), Int.emod_lt_of_pos _ h⟩
theorem ok_take {f : Addr} {fd : FuncData} {j : Nat} (F : Fun K "_law_take" "_law_take" sTake f fd) : FnOk P w K mg base CX0 (j + 1) f fd ["feed", "many"] spTake := by
  refine F.ok scTake (fun vs H Q E h => ?_) (fun cdv A outer s H vs Q E hr h => ?_)
  · obtain ⟨a, m, rfl, _⟩ := h
    rfl
  obtain ⟨f, m, rfl, pos, small, ⟨x, y, hf, y0, y1⟩, q⟩ := h
  refine ⟨_, pss_cons (ps_if (pt_cmpR op_gt (pe_ix ix_list (pv 0) pe_int (fun _ _ => rfl)) pe_int (nomark _))
      (pss_cons (ps_set (i := 2) scTake.nd rfl (.inl rfl) (pe_op op_modN (pe_ix ix_list (pv 0) pe_int (fun _ _ => rfl)) (pv 1)))
      (pss_cons (ps_asg (pe_op op_fdivW (pe_ix ix_list (pv 0) pe_int (fun _ _ => rfl)) (pv 1)) (pg_sub (pv 0) pe_int set_list)) (pss_one (ps_ret (pv 2))))) pss_nil)
    (pss_cons (ps_asg (pe_op op_modN (pe_op op_add (pe_op op_mul (pe_ix ix_list (pv 0) pe_int (fun _ _ => rfl)) pe_int) pe_int) pe_int) (pg_sub (pv 0) pe_int set_list))
    (pss_one (ps_ret (pe_op op_modN (pe_op op_fdiv (pe_ix ix_list (pv 0) pe_int (fun _ _ => rfl)) pe_int) (pv 1))))), ?_⟩
  have s0 : SqL K H f [.int x, .int y] := .inl (.inl hf)
  refine ⟨_, rfl, f, _, 0, .int x, rfl, rfl, s0, rfl, _, _, rfl, rfl, _, rfl, ?_⟩
  refine ite2 (fun c => ?_) (fun c => ?_)
  · refine ⟨_, rfl, f, _, 0, .int x, rfl, rfl, s0, rfl, _, rfl, _, _, rfl, rfl, Int.ne_of_gt pos, ?_⟩
    refine ⟨_, rfl, f, _, 0, .int x, rfl, rfl, s0, rfl, _, rfl, _, _, rfl, rfl, wide_div pos small (by decide) (by decide), ?_⟩
    refine ⟨_, rfl, f, _, 0, 0, rfl, rfl, hf, rfl, _, rfl, ?_⟩
    exact q _ _ (mod_in pos).1 (mod_in pos).2 ((But.refl f H).own) ⟨_, _, upd_same, y0, y1⟩
  · refine ⟨_, rfl, f, _, 1, .int y, rfl, rfl, s0, rfl, _, _, rfl, rfl, .inr ⟨by decide, by decide⟩, _, _, rfl, rfl, _, _, rfl, rfl, notM, ?_⟩
    refine ⟨_, rfl, f, _, 1, 1, rfl, rfl, hf, rfl, ?_⟩
    refine ⟨_, rfl, f, _, 1, _, rfl, rfl, .inl (.inl upd_same), rfl, _, _, rfl, rfl, ⟨by decide, by decide⟩, _, rfl, _, _, rfl, rfl, Int.ne_of_gt pos, ?_⟩
    exact q _ _ (mod_in pos).1 (mod_in pos).2 ((But.refl f H).own) ⟨_, _, upd_same, (modM _).1, (modM _).2⟩
/-! ### _law_pick -/
theorem atI_in {α : Type} {xs : List α} {r : Int} (h0 : 0 ≤ r) (h1 : r < (xs.length : Int)) : ∃ x ∈ xs, atI xs r = some x := by
  have lt : r.toNat < xs.length := by omega
  have er : ((r.toNat : Nat) : Int) = r := by omega
  have q : atI xs ((r.toNat : Nat) : Int) = some xs[r.toNat] := atI_nat (List.getElem?_eq_getElem lt)
  rw [er] at q
  exact ⟨_, List.getElem_mem lt, q⟩
/-- from a list -/
def spPick (K : PySem.W.Frag) : Sp := fun vs H Q _ => ∃ (f l : Addr) (xs : List V), vs = [.ref f, .ref l] ∧ l ≠ f ∧ SqL K H l xs ∧ 0 < xs.length ∧ xs.length ≤ 1000 ∧ FeedAt H f ∧
  ∀ x ∈ xs, ∀ H', But f H H' → FeedAt H' f → Q x H'
theorem seq_but {K : PySem.W.Frag} {f l : Addr} {H H' : Hp} {xs : List V} (n : l ≠ f) (b : But f H H') (h : SqL K H l xs) : SqL K H' l xs := by
  rcases h with (h | ⟨o, h⟩) | h
  · exact .inl (.inl (b _ _ n h))
  · exact .inl (.inr ⟨o, b _ _ n h⟩)
  · exact .inr h
theorem len200 {n : Nat} (h : n ≤ 1000) : ((n : Nat) : Int).natAbs < 2 ^ 200 := Nat.lt_of_le_of_lt (by rw [Int.natAbs_natCast]; exact h) (by decide)
theorem ok_pick {f g : Addr} {fd gd : FuncData} {j : Nat} (F : Fun K "_law_pick" "_law_pick" sPick f fd) (G : FnOk P w K mg base CX0 (j + 1) g gd ["feed", "many"] spTake) (bG : Binds K gd ["feed", "many"] []) (kG : PySem.W.keepIn K (.ref g) = true) (mG : mg "_law_take" = some (.ref g)) (ml : mg "len" = none) :
    FnOk P w K mg base CX0 (j + 2) f fd ["feed", "some"] (spPick K) := by
  refine F.ok scPick (fun vs H Q E h => ?_) (fun cdv A outer s H vs Q E hr h => ?_)
  · obtain ⟨a, l, xs, rfl, _⟩ := h
    rfl
  obtain ⟨f, l, xs, rfl, apart, hS, pos, few, hF, q⟩ := h
  refine ⟨_, pss_one (ps_ret (pe_ix ix_list (pv 1) (pe_call G hr (by rfl) mG kG bG .nil pass0 (pa_cons (pv 0) (pa_cons (pe_callB call_len_seq (by rfl) ml PySem.boot_len (pa_cons (pv 1) pa_nil)) pa_nil))) (fun _ _ => rfl))), ?_⟩
  refine ⟨_, rfl, _, rfl, _, rfl, l, xs, rfl, .inl hS, f, _, rfl, (by omega), len200 few, hF, fun r H' r0 r1 b hF' => ?_⟩
  obtain ⟨x, hx, item⟩ := atI_in r0 r1
  exact ⟨l, xs, r, _, rfl, rfl, seq_but apart b hS, item, q _ hx H' b hF'⟩
/-- from a text -/
def spPickS : Sp := fun vs H Q _ => ∃ (f : Addr) (z : Str), vs = [.ref f, .str z] ∧ 0 < z.length ∧ z.length ≤ 1000 ∧ FeedAt H f ∧ ∀ c ∈ z.cps.toList, ∀ H', But f H H' → FeedAt H' f → Q (.str ⟨#[c]⟩) H'
theorem ok_pickS {f g : Addr} {fd gd : FuncData} {j : Nat} (F : Fun K "_law_pick" "_law_pick" sPick f fd) (G : FnOk P w K mg base CX0 (j + 1) g gd ["feed", "many"] spTake) (bG : Binds K gd ["feed", "many"] []) (kG : PySem.W.keepIn K (.ref g) = true) (mG : mg "_law_take" = some (.ref g)) (ml : mg "len" = none) :
    FnOk P w K mg base CX0 (j + 2) f fd ["feed", "some"] spPickS := by
  refine F.ok scPick (fun vs H Q E h => ?_) (fun cdv A outer s H vs Q E hr h => ?_)
  · obtain ⟨a, z, rfl, _⟩ := h
    rfl
  obtain ⟨f, z, rfl, pos, few, hF, q⟩ := h
  refine ⟨_, pss_one (ps_ret (pe_ix ix_str (pv 1) (pe_call G hr (by rfl) mG kG bG .nil pass0 (pa_cons (pv 0) (pa_cons (pe_callB call_len_str (by rfl) ml PySem.boot_len (pa_cons (pv 1) pa_nil)) pa_nil))) (fun _ _ => rfl))), ?_⟩
  have line : z.length ≤ sizeLine := Nat.le_trans few (by decide)
  refine ⟨_, rfl, _, rfl, _, rfl, z, rfl, line, f, _, rfl, (by omega), len200 few, hF, fun r H' r0 r1 b hF' => ?_⟩
  have ln : z.cps.toList.length = z.length := Array.length_toList
  obtain ⟨x, hx, item⟩ := atI_in (xs := z.cps.toList) r0 (by omega)
  exact ⟨z, r, _, rfl, rfl, line, item, q _ hx H' b hF'⟩
end
end Kf
set_option Elab.async false
set_option linter.all false
set_option maxRecDepth 100000
set_option maxHeartbeats 4000000
/-! The program's own defs: beneath, pieces_of, names_in; the law's walk _law_names. -/
namespace Kf
open PySem PySem.Spec PyProof.Rows L2 Sx
abbrev sBeneath : Stmt := top 3
abbrev sPieces : Stmt := top 4
theorem scBeneath : FnScope ["piece", "around"] ["piece", "around"] (defScope sBeneath) := ⟨rfl, rfl, rfl, by decide +kernel, rfl, by decide +kernel, by decide +kernel⟩
theorem scPieces : FnScope ["thing", "found", "todo", "piece", "around", "inner", "part"] ["thing"] (defScope sPieces) := ⟨rfl, rfl, rfl, by decide +kernel, rfl, by decide +kernel, by decide +kernel⟩
/-! ### rows: a tree and how many stand around it -/
def Row (H : Hp) (e : Tr × Nat) (v : V) : Prop := ∃ q x, v = .ref q ∧ H q = some (.tup [x, .int (e.2 : Int)]) ∧ At H e.1 x
theorem Row.keep {H H' : Hp} (k : Tups H H') (e : Tr × Nat) (v : V) (h : Row H e v) : Row H' e v := by
  obtain ⟨q, x, e1, e2, a⟩ := h
  exact ⟨q, x, e1, k _ _ e2, a.keep k⟩
def visits (es : List (Tr × Nat)) : List (Tr × Nat) := es.reverse.flatMap fun e => (e.1.post e.2).reverse
theorem visits_last (es : List (Tr × Nat)) (e : Tr × Nat) : visits (es ++ [e]) = (e.1.post e.2).reverse ++ visits es := by
  unfold visits
  rw [List.reverse_append, List.reverse_singleton, List.singleton_append, List.flatMap_cons]
theorem visits_kids (r : Nat) : ∀ (ks : List Tr) (es : List (Tr × Nat)), visits (es ++ ks.map fun k => (k, r)) = (ks.flatMap fun a => a.post r).reverse ++ visits es
  | [], es => by simp
  | k :: ks, es => by
    rw [List.map_cons, show es ++ (k, r) :: ks.map (fun k => (k, r)) = (es ++ [(k, r)]) ++ ks.map (fun k => (k, r)) by simp, visits_kids r ks, visits_last, List.flatMap_cons, List.reverse_append, List.append_assoc]
theorem visits_step (es : List (Tr × Nat)) (t : Tr) (r : Nat) : visits (es ++ [(t, r)]) = (t, r) :: visits (es ++ t.kids.map fun k => (k, inner t.word r)) := by
  rw [visits_last, visits_kids]
  show (t.post r).reverse ++ visits es = _
  rw [post_kids, List.reverse_append, List.reverse_singleton]
  rfl
theorem post_pos (t : Tr) (r : Nat) : 1 ≤ (t.post r).length := by
  rw [post_kids, List.length_append]
  exact Nat.le_add_left _ _
theorem flat_len {α β : Type} (g : α → List β) (h : ∀ a, 1 ≤ (g a).length) : ∀ l : List α, l.length ≤ (l.flatMap g).length
  | [] => Nat.zero_le _
  | a :: l => by
    have h1 := flat_len g h l
    have h2 := h a
    rw [List.flatMap_cons, List.length_append, List.length_cons]
    omega
theorem visits_len (es : List (Tr × Nat)) : es.length ≤ (visits es).length := by
  have h := flat_len (fun (e : Tr × Nat) => (e.1.post e.2).reverse) (fun e => by rw [List.length_reverse]; exact post_pos e.1 e.2) es.reverse
  rw [List.length_reverse] at h
  exact h
theorem cut_one (x : V) (r : List V) : cutV (x :: r) (some 1) none = r := by
  unfold cutV
  have e1 : HT.sIx (x :: r).length 0 (some 1) = 1 := by
    rw [show HT.sIx (x :: r).length 0 (some 1) = min 1 (x :: r).length from HT.sIx_nat _ 0 1, List.length_cons]
    omega
  rw [e1, HT.sIx_none]
  show List.take ((x :: r).length - 1) r = r
  rw [List.length_cons, Nat.add_sub_cancel]
  exact List.take_length
theorem cut_not (x : V) (r : List V) : ¬ (HT.sIx (x :: r).length 0 (some 1) = 0 ∧ HT.sIx (x :: r).length (x :: r).length none = (x :: r).length) := by
  intro h
  have e1 : HT.sIx (x :: r).length 0 (some 1) = 1 := by
    rw [show HT.sIx (x :: r).length 0 (some 1) = min 1 (x :: r).length from HT.sIx_nat _ 0 1, List.length_cons]
    omega
  rw [e1] at h
  exact absurd h.1 (by decide)
/-! ### the top's names -/
structure Txt (K : PySem.W.Frag) (mg : Str → Option Value) (L B : Addr) : Prop where
  mL : mg "LEAVES" = some (.ref L)
  mB : mg "BINDERS" = some (.ref B)
  leaf : ∀ H, SqT K H L leafVs
  bind : ∀ H, SqT K H B bindVs
section
variable {P : Program} {w : World} {K : PySem.W.Frag} {mg : Str → Option Value} {base : Heap} {L B : Addr}
def spBeneath : Sp := fun vs H Q _ => ∃ (p : Addr) (wd : Str) (us : List V) (r : Nat), vs = [.ref p, .int (r : Int)] ∧ H p = some (.tup (.str wd :: us)) ∧ Q (.int (inner wd r : Nat)) H
theorem head_at (x : V) (us : List V) : atI (x :: us) 0 = some x := atI_nat (j := 0) rfl
theorem ok_beneath {f : Addr} {fd : FuncData} {j : Nat} (F : Fun K "beneath" "beneath" sBeneath f fd) (T : Txt K mg L B) : FnOk P w K mg base CX0 (j + 1) f fd ["piece", "around"] spBeneath := by
  refine F.ok scBeneath (fun vs H Q E h => ?_) (fun cdv A outer s H vs Q E hr h => ?_)
  · obtain ⟨p, wd, us, r, rfl, _⟩ := h
    rfl
  obtain ⟨p, wd, us, r, rfl, hp, q⟩ := h
  refine ⟨_, pss_one (ps_ret (pe_ifExp (pt_cmpR op_in_seq (pe_ix ix_tup (pv 0) pe_int (fun _ _ => rfl)) (pe_glob (v := .ref B) (by rfl) T.mB rfl) (by rfl)) (pe_op op_add (pv 1) pe_int) (pv 1))), ?_⟩
  refine ⟨_, rfl, p, _, 0, _, rfl, rfl, .inl (.inl hp), head_at _ _, B, bindVs, rfl, .inr (T.bind H), rfl, rfl, _, rfl, ?_⟩
  show if binds wd = true then _ else _
  unfold inner at q
  by_cases c : binds wd = true
  · rw [if_pos c] at q ⊢
    exact ⟨_, rfl, _, _, rfl, rfl, q⟩
  · rw [if_neg c] at q ⊢
    exact ⟨_, rfl, q⟩
/-! ### pieces_of -/
def spPieces : Sp := fun vs H Q _ => ∃ (v : V) (t : Tr), vs = [v] ∧ At H t v ∧ t.Ok ∧ t.deep ≤ 12 ∧
  ∀ (p : Addr) (H' : Hp) (vf : List V), Same H H' → H p = none → H' p = some (.lst vf) → All2 (Row H') (t.post 0) vf → Q (.ref p) H'
theorem line_of {n : Nat} (h : n ≤ 4096) : n < sizeLine := Nat.lt_of_le_of_lt h (by decide)
/-- between two turns -/
structure Turn (H H' : Hp) (pf pt : Addr) (all : List (Tr × Nat)) (m : Nat) (ef es : List (Tr × Nat)) (vf vt : List V) : Prop where
  same : Same H H'
  lf : H' pf = some (.lst vf)
  lt : H' pt = some (.lst vt)
  rf : All2 (Row H') ef vf
  rt : All2 (Row H') es vt
  sum : ef ++ visits es = all
  ok : ∀ e ∈ es, e.1.Ok
  m : m = (visits es).length
theorem ok_pieces {f g : Addr} {fd gd : FuncData} (F : Fun K "pieces_of" "pieces_of" sPieces f fd) (T : Txt K mg L B) (G : FnOk P w K mg base CX0 1 g gd ["piece", "around"] spBeneath) (bG : Binds K gd ["piece", "around"] []) (kG : PySem.W.keepIn K (.ref g) = true) (mG : mg "beneath" = some (.ref g)) :
    FnOk P w K mg base CX0 2 f fd ["thing"] spPieces := by
  refine F.ok scPieces (fun vs H Q E h => ?_) (fun cdv A outer s H vs Q E hr h => ?_)
  · obtain ⟨v, t, rfl, _⟩ := h
    rfl
  obtain ⟨v, t, rfl, hA, hO, hd, q⟩ := h
  refine ⟨_, pss_cons (ps_set (i := 1) scPieces.nd rfl (.inl rfl) (pe_lst pa_nil))
    (pss_cons (ps_set (i := 2) scPieces.nd rfl (.inl rfl) (pe_lst (pa_cons (pe_tup (pa_cons (pv 0) (pa_cons pe_int pa_nil))) pa_nil)))
    (pss_cons (ps_while PassesOwn.never (pt_truth (pv 2) (by intro _; rfl))
      (pss_cons (ps_asg (pe_bm0 PySem.F.plainAttrs_list PySem.F.slot_list_pop PySem.F.type_list_pop mt_pop (pv 2)) (pg_tup (by rfl) (pgs_cons (pg_name (i := 3) scPieces.nd rfl (.inl rfl)) (pgs_cons (pg_name (i := 4) scPieces.nd rfl (.inl rfl)) pgs_nil))))
      (pss_cons (ps_expr (pe_bm PySem.F.plainAttrs_list PySem.F.slot_list_append PySem.F.type_list_append mt_append (pv 1) (pa_cons (pe_tup (pa_cons (pv 3) (pa_cons (pv 4) pa_nil))) pa_nil)))
      (pss_one (ps_if (pt_cmpR op_notIn_seq (pe_ix ix_tup (pv 3) pe_int (fun _ _ => rfl)) (pe_glob (v := .ref L) (by rfl) T.mL rfl) (by rfl))
        (pss_cons (ps_set (i := 5) scPieces.nd rfl (.inl rfl) (pe_call G hr (by rfl) mG kG bG .nil pass0 (pa_cons (pv 3) (pa_cons (pv 4) pa_nil))))
        (pss_one (ps_for PassesOwn.never rfl (pi_tup (pe_slice sl_tup (pv 3) (po_some pe_int) po_none)) (pg_name (i := 6) scPieces.nd rfl (.inl rfl))
          (pss_one (ps_expr (pe_bm PySem.F.plainAttrs_list PySem.F.slot_list_append PySem.F.type_list_append mt_append (pv 2) (pa_cons (pe_tup (pa_cons (pv 6) (pa_cons (pv 5) pa_nil))) pa_nil)))))))
        pss_nil)))))
    (pss_cons (ps_expr (pe_bm0 PySem.F.plainAttrs_list PySem.F.slot_list_reverse PySem.F.type_list_reverse mt_reverse (pv 1)))
    (pss_one (ps_ret (pv 1)))))), ?_⟩
  refine ⟨Nat.zero_le _, fun pf nf => ?_⟩
  refine ⟨_, rfl, (by show 2 ≤ sizeLine; decide), fun q0 nq => ?_⟩
  refine ⟨(by show 1 ≤ sizeLine; decide), fun pt nt => ?_⟩
  have s1 : Same H (upd H pf (.lst [])) := same_new nf
  have s2 := same_put (o := .tup [v, .int 0]) s1 nq
  have s3 := same_put (o := .lst [.ref q0]) s2 nt
  have nft : pf ≠ pt := fun z => by
    rw [← z, upd_ne (fun z2 => by rw [z2, upd_same] at nq; cases nq), upd_same] at nt
    cases nt
  have nfq : pf ≠ q0 := fun z => by
    rw [← z, upd_same] at nq
    cases nq
  have nqt : q0 ≠ pt := fun z => by
    rw [← z, upd_same] at nt
    cases nt
  have big : ∀ (ef es : List (Tr × Nat)), ef ++ visits es = (t.post 0).reverse → ef.length + es.length ≤ 4096 := fun ef es e => by
    have l1 := congrArg List.length e
    rw [List.length_append, List.length_reverse, post_len] at l1
    have l2 := visits_len es
    have l3 := size_deep t
    have l4 : 2 ^ t.deep ≤ 2 ^ 12 := Nat.pow_le_pow_right (by decide) hd
    omega
  refine ⟨fun m σ H' => ∃ (ef es : List (Tr × Nat)) (vf vt : List V) (y3 y4 y5 y6 : Option V), σ = [some v, some (.ref pf), some (.ref pt), y3, y4, y5, y6] ∧ Turn H H' pf pt (t.post 0).reverse m ef es vf vt,
    ⟨_, [], [(t, 0)], [], [.ref q0], none, none, none, none, rfl, ⟨s3, ?_, upd_same, .nil, .one ⟨q0, v, rfl, ?_, hA.keep (tups_same s3)⟩, ?_, fun e he => by rw [List.mem_singleton.mp he]; exact hO, rfl⟩⟩, fun m σ H1 hW => ?_⟩
  · rw [upd_ne nft, upd_ne nfq, upd_same]
  · rw [upd_ne nqt, upd_same]
    rfl
  · show visits [(t, 0)] = _
    unfold visits
    simp
  obtain ⟨ef, es, vf, vt, y3, y4, y5, y6, rfl, W⟩ := hW
  refine ⟨_, rfl, !vt.isEmpty, .inl ⟨vt, .inl (.inl W.lt), rfl⟩, ?_⟩
  rcases List.eq_nil_or_concat vt with en | ⟨vt0, y, en⟩
  · subst en
    refine iteF ?_
    have ee : es = [] := by
      have l := W.rt.len
      exact List.length_eq_zero_iff.mp l
    subst ee
    have e2 : ef = (t.post 0).reverse := by
      have e3 := W.sum
      rw [show visits [] = [] from rfl, List.append_nil] at e3
      exact e3
    refine ⟨_, rfl, .inl ⟨rfl, _, .inl (.inl W.lf)⟩, pf, vf, rfl, rfl, W.lf, ?_⟩
    refine ⟨_, rfl, q pf _ vf.reverse (fun b u e => ?_) nf upd_same ?_⟩
    · rw [upd_ne (ne_of_none e nf)]
      exact W.same _ _ e
    · have r1 := W.rf.rev
      rw [e2, List.reverse_reverse] at r1
      exact r1.mono fun e v h => Row.keep (tups_put fun xs z => by rw [W.lf] at z; cases z) e v h
  · rw [List.concat_eq_append] at en
    subst en
    rw [show (!(vt0 ++ [y]).isEmpty) = true by simp]
    refine iteT ?_
    obtain ⟨es0, ⟨t1, r1⟩, rfl, rt0, ⟨q1, x1, rfl, h1, a1⟩⟩ := W.rt.last
    have ok1 : t1.Ok := W.ok _ (List.mem_append.mpr (.inr (List.mem_singleton.mpr rfl)))
    refine ⟨fun σ' H' => ∃ m', m' < m ∧ ∃ (ef es : List (Tr × Nat)) (vf vt : List V) (y3 y4 y5 y6 : Option V), σ' = [some v, some (.ref pf), some (.ref pt), y3, y4, y5, y6] ∧ Turn H H' pf pt (t.post 0).reverse m' ef es vf vt,
      fun σ' H' h => h, ?_⟩
    -- piece, around = todo.pop()
    refine ⟨_, rfl, .inl ⟨rfl, _, .inl (.inl W.lt)⟩, pt, _, .ref q1, rfl, rfl, W.lt, by simp, ?_⟩
    rw [List.dropLast_concat]
    have nqt1 : q1 ≠ pt := ne_of h1 W.lt (by intro z; cases z)
    have k2 : Tups H1 (upd H1 pt (.lst vt0)) := tups_put fun xs z => by
      rw [W.lt] at z
      cases z
    refine ⟨q1, [x1, .int (r1 : Int)], rfl, .inl (.inl (k2 _ _ h1)), rfl, x1, [.int (r1 : Int)], rfl, .int (r1 : Int), [], rfl, rfl, ?_⟩
    -- found.append((piece, around))
    have lf2 : (upd H1 pt (.lst vt0)) pf = some (.lst vf) := by
      rw [upd_ne nft]
      exact W.lf
    have bigN := big ef (es0 ++ [(t1, r1)]) W.sum
    rw [List.length_append, List.length_singleton] at bigN
    refine ⟨_, rfl, .inl ⟨rfl, _, .inl (.inl lf2)⟩, _, rfl, _, rfl, (by show 2 ≤ sizeLine; decide), fun q2 nq2 => ?_⟩
    have nfq2 : pf ≠ q2 := ne_of_none lf2 nq2
    have ntq2 : pt ≠ q2 := ne_of_none (show (upd H1 pt (.lst vt0)) pt = _ from upd_same) nq2
    refine ⟨pf, vf, .ref q2, rfl, rfl, (by rw [upd_ne nfq2]; exact lf2), line_of (by have := W.rf.len; omega), ?_⟩
    generalize hH2 : upd (upd (upd H1 pt (.lst vt0)) q2 (.tup [x1, .int (r1 : Int)])) pf (.lst (vf ++ [.ref q2])) = H2
    have k3 : Tups H1 H2 := by
      rw [← hH2]
      refine k2.trans ((tups_same (same_new nq2)).trans (tups_put fun xs z => ?_))
      rw [upd_ne nfq2, lf2] at z
      cases z
    have same2 : Same H H2 := fun b u e => by
      rw [← hH2, upd_ne (ne_of_none e nf)]
      have nbt : b ≠ pt := fun z => by
        have z2 := s2.free nt
        rw [← z, e] at z2
        cases z2
      have e2 : (upd H1 pt (.lst vt0)) b = some u := by
        rw [upd_ne nbt]
        exact W.same _ _ e
      rw [upd_ne (ne_of_none e2 nq2)]
      exact e2
    have lf3 : H2 pf = some (.lst (vf ++ [.ref q2])) := by
      rw [← hH2, upd_same]
    have lt3 : H2 pt = some (.lst vt0) := by
      rw [← hH2, upd_ne nft.symm, upd_ne ntq2, upd_same]
    have hq2 : H2 q2 = some (.tup [x1, .int (r1 : Int)]) := by
      rw [← hH2, upd_ne nfq2.symm, upd_same]
    have a3 : At H2 t1 x1 := At.keep k3 a1
    have rf3 : All2 (Row H2) (ef ++ [(t1, r1)]) (vf ++ [.ref q2]) := (W.rf.mono (Row.keep k3)).app (.one ⟨q2, x1, rfl, hq2, a3⟩)
    have rt3 : All2 (Row H2) es0 vt0 := rt0.mono (Row.keep k3)
    obtain ⟨p1, us, rfl, hp1, lus, kids, leafs⟩ := a3.view ok1
    have e0 := W.sum
    rw [visits_step] at e0
    have em := W.m
    rw [visits_step, List.length_cons] at em
    -- if piece[0] not in LEAVES
    refine ⟨_, rfl, p1, _, 0, _, rfl, rfl, .inl (.inl hp1), head_at _ _, L, leafVs, rfl, .inr (T.leaf H2), rfl, rfl, _, rfl, ?_⟩
    show if (!leafy t1.word) = true then _ else _
    cases hl : leafy t1.word with
    | true =>
      refine iteF ?_
      obtain ⟨x, et, _⟩ := leafs hl
      have noK : t1.kids = [] := by
        rw [et]
        rfl
      rw [noK] at e0 em
      rw [show es0 ++ ([] : List Tr).map (fun k => (k, inner t1.word r1)) = es0 by simp] at e0 em
      refine ⟨(visits es0).length, by omega, ef ++ [(t1, r1)], es0, _, vt0, _, _, y5, y6, rfl, ⟨same2, lf3, lt3, rf3, rt3, ?_, fun e he => W.ok e (List.mem_append.mpr (.inl he)), rfl⟩⟩
      rw [List.append_assoc]
      exact e0
    | false =>
      refine iteT ?_
      have kd := kids hl
      -- inner = beneath(piece, around)
      refine ⟨_, rfl, _, rfl, p1, t1.word, us, r1, rfl, hp1, ?_⟩
      -- piece[1:]
      refine ⟨_, rfl, 1, rfl, p1, _, rfl, .inl (.inl hp1), cut_not _ _, fun c nc => ?_⟩
      rw [cut_one]
      have k4 : Tups H2 (upd H2 c (.tup us)) := tups_same (same_new nc)
      have ncf : c ≠ pf := fun z => by
        rw [z, lf3] at nc
        cases nc
      have nct : c ≠ pt := fun z => by
        rw [z, lt3] at nc
        cases nc
      have len1 := kd.len
      refine ⟨c, rfl, ⟨_, .inl (.inl upd_same)⟩, for_tup (K := K) (a := c) (xs := us) (fun i σ' H' => ∃ (vt : List V) (y6 : Option V), σ' = [some v, some (.ref pf), some (.ref pt), some (.ref p1), some (.int (r1 : Int)), some (.int (inner t1.word r1 : Nat)), y6] ∧
          Same H H' ∧ Tups (upd H2 c (.tup us)) H' ∧ H' pf = some (.lst (vf ++ [.ref q2])) ∧ H' pt = some (.lst vt) ∧ All2 (Row H') (es0 ++ (t1.kids.take i).map fun k => (k, inner t1.word r1)) vt)
        ⟨vt0, y6, rfl, same_put same2 nc, Tups.refl _, (by rw [upd_ne ncf.symm]; exact lf3), (by rw [upd_ne nct.symm]; exact lt3), ?_⟩ (fun i σ' H' _ ⟨_, _, _, _, kt, _⟩ => .inl (.inl (kt _ _ upd_same))) ?_ ?_⟩
      · rw [show (t1.kids.take 0).map (fun k => (k, inner t1.word r1)) = [] by simp, List.append_nil]
        exact rt3.mono (Row.keep k4)
      · rintro i x σ' H' hx ⟨vt, y6', rfl, sm, kt, gf, gt, rr⟩
        obtain ⟨tk, htk, hax⟩ := kd.get hx
        have hax' : At H' tk x := hax.keep (k4.trans kt)
        have bnd : vt.length ≤ 4096 := by
          have l1 := rr.len
          have l2 : ((t1.kids.take i).map fun k => (k, inner t1.word r1)).length ≤ 2 := by
            rw [List.length_map, List.length_take]
            omega
          have l3 := big (ef ++ [(t1, r1)]) (es0 ++ t1.kids.map fun k => (k, inner t1.word r1)) (by rw [List.append_assoc]; exact e0)
          rw [List.length_append, List.length_append, List.length_map] at l3
          rw [List.length_append, List.length_map, List.length_take] at l1
          omega
        -- todo.append((part, inner))
        refine ⟨_, rfl, .inl ⟨rfl, _, .inl (.inl gt)⟩, _, rfl, _, rfl, (by show 2 ≤ sizeLine; decide), fun q3 nq3 => ?_⟩
        have ntq3 : pt ≠ q3 := ne_of_none gt nq3
        have nfq3 : pf ≠ q3 := ne_of_none gf nq3
        refine ⟨pt, vt, .ref q3, rfl, rfl, (by rw [upd_ne ntq3]; exact gt), line_of bnd, ?_⟩
        have k5 : Tups H' (upd (upd H' q3 (.tup [x, .int (inner t1.word r1 : Nat)])) pt (.lst (vt ++ [.ref q3]))) := (tups_same (same_new nq3)).trans (tups_put fun xs z => by
          rw [upd_ne ntq3, gt] at z
          cases z)
        refine ⟨vt ++ [.ref q3], some x, rfl, fun b u e => ?_, kt.trans k5, ?_, upd_same, ?_⟩
        · have nbt : b ≠ pt := fun z => by
            have z2 := s2.free nt
            rw [← z, e] at z2
            cases z2
          rw [upd_ne nbt, upd_ne (ne_of_none (sm _ _ e) nq3)]
          exact sm _ _ e
        · rw [upd_ne nft, upd_ne nfq3]
          exact gf
        · have et : t1.kids.take (i + 1) = t1.kids.take i ++ [tk] := by
            rw [List.take_add_one, htk]
            rfl
          rw [et, List.map_append, ← List.append_assoc]
          refine (rr.mono (Row.keep k5)).app (.one ⟨q3, x, rfl, ?_, hax'.keep k5⟩)
          rw [upd_ne ntq3.symm, upd_same]
      · rintro σ' H' ⟨vt, y6', rfl, sm, kt, gf, gt, rr⟩
        rw [← len1, List.take_length] at rr
        refine ⟨_, ?_, ef ++ [(t1, r1)], es0 ++ t1.kids.map (fun k => (k, inner t1.word r1)), _, vt, _, _, _, y6', rfl, ⟨sm, gf, gt, rf3.mono (Row.keep (k4.trans kt)), rr, by rw [List.append_assoc]; exact e0, fun e he => ?_, rfl⟩⟩
        · omega
        · rcases List.mem_append.mp he with z | z
          · exact W.ok e (List.mem_append.mpr (.inl z))
          · obtain ⟨k, hk, rfl⟩ := List.mem_map.mp z
            exact kids_ok ok1 k hk
end
end Kf
set_option Elab.async false
set_option linter.all false
set_option maxRecDepth 100000
set_option maxHeartbeats 4000000
/-! An exception that its suite keeps under another name: it is tracked behind the suite. -/
namespace Xk
open PySem PySem.Spec PyProof.Rows L2
/-- an exception of the class c, with the own dict d, at a -/
def ExK (c : Value) (d : Option Addr) (a : Addr) : HO := .ext fun h => ∃ (ob : Obj) (us : Array Value), h.get? a = some ob ∧ Zc c d ob ∧ ob.data = .fields us
theorem exK_ok {P : Program} {w : World} {H : Hp} {h : Heap} {a : Addr} {c : Value} {d : Option Addr} {ob : Obj} {us : Array Value} (e : h.get? a = some ob) (z : Zc c d ob) (dat : ob.data = .fields us) : ObjOk P w H h a (ExK c d a) :=
  ⟨⟨ob, us, e, z, dat⟩, ⟨ob, e⟩, fun _ _ ⟨o2, u2, q1, q2⟩ keep => ⟨o2, u2, keep o2 q1, q2⟩⟩
section
variable {X : Cx} {pins : List (Addr × Obj)} {σ : L2.St} {H : Hp} {s : Shared}
/-- an object that no one speaks of comes to be tracked -/
theorem inv_track {a : Addr} {o : HO} (I : Inv X pins σ H s) (away : X.s_0.heap.get? a = none) (free : H a = none) (nL : a ≠ X.env.locals) (nC : ∀ x c, X.env.cells.lookup x = some c → c ≠ a) (nP : ∀ p ∈ X.pn ++ pins, p.1 ≠ a) (new : ObjOk X.prog X.w (upd H a o) s.heap a o) :
    Inv X pins σ (upd H a o) s := by
  have far : ∀ {b : Addr} {u : HO}, H b = some u → b ≠ a := fun e z => by
    rw [z, free] at e
    cases e
  have un : Un X.fs X.ex X.H_0 (upd H a o) X.s_0.heap s.heap := {
    keep := I.base.keep
    slot := I.base.slot
    free := fun b ob e n m => by
      rw [upd_ne (fun z => by rw [z, away] at e; cases e)]
      exact I.base.free b ob e n m
    there := I.base.there
    tups := fun b xs e => by
      have q := I.base.tups b xs e
      rw [upd_ne (far q)]
      exact q
    frzs := fun b ob u e => by
      have q := I.base.frzs b ob u e
      rw [upd_ne (far q)]
      exact q
    tbls := fun b ps e => by
      obtain ⟨more, q⟩ := I.base.tbls b ps e
      exact ⟨more, by rw [upd_ne (far q)]; exact q⟩ }
  refine ⟨I.ok, I.os, I.bare, un, I.loc, I.cell, ?_, fun x c e => ?_, fun p hp => ?_, I.hok.laidN (fun _ _ e => e) free new, I.len⟩
  · rw [upd_ne nL.symm]
    exact I.free
  · rw [upd_ne (nC x c e)]
    exact I.freeC x c e
  · obtain ⟨q1, q2, q3⟩ := I.pin p hp
    exact ⟨q1, by rw [upd_ne (nP p hp)]; exact q2, q3⟩
end
/-- what the clause wishes, where its suite falls through with the exception kept -/
def wHold (K : PySem.W.Frag) (c : Value) (i : Nat) (ts : Addr → Value → Option Addr → TS) (Wout : WX) (D : Ends) : WX := fun cls d σ H =>
  ∃ yes, PySem.W.exmOne K cls c = some yes ∧
    (yes = true → ∀ a, H a = none → ts a cls d { nx := fun τ G => G a = none → D.nx (τ.set i none) (upd G a (ExK cls d a)), rt := fun _ _ => False, bk := fun _ _ => False, ct := fun _ _ => False } (σ.set i (some (.ref a))) H) ∧ (yes = false → Wout cls d σ H)
section
variable {X : Cx} {x n : Str} {c : Value} {i : Nat} {body suite : List Stmt} {one : Stmt} {np pos pos' : Pos} {tb : WX → TS} {ts : Addr → Value → Option Addr → TS} {Wout : WX}
/-- try: body / except x as n: suite; behind the suite the exception's object is tracked -/
theorem ps_try_hold (stk : X.stack = X.env :: X.outer) (fr : X.env.frame = some X.env.locals) (nd : X.N.Nodup) (at_ : X.N[i]? = some n) (loc : X.env.kindOf n = some .local) (cls_ : Names X x c) (tk : Takes X Wout) (noEx : X.ex = [])
    (doBody : ∀ (W : WX) (pn : List (Addr × Obj)) (xe : Value → Shared → Prop), Takes (X.tr pn xe) W → PassesOwn (model X.prog X.w) X.A X.env xe → PSs (X.tr pn xe) body (tb W))
    (doSuite : ∀ (a : Addr) (ob : Obj) (cls : Value) (d : Option Addr) (pn : List (Addr × Obj)), Zc cls d ob → (∃ us, ob.data = .fields us) → PSs (X.suite a ((a, ob) :: pn)) (one :: suite) (ts a cls d)) :
    PS X (.Try body [.ExceptHandler (some (.Name x np)) (some n) (one :: suite) pos'] [] [] pos) (fun D σ H => tb (wHold X.K c i ts Wout D) D σ H) := by
  refine ⟨fun pins s σ H D I reading => wpAny_Try_except ?_⟩
  have good := I.ok
  have frames : X.A.frames = some (X.env :: X.outer) := good.frames.trans (congrArg some stk)
  have ran := (doBody (wHold X.K c i ts Wout D) (X.pn ++ pins)
    (fun e z1 => wpAny (model X.prog X.w) X.A (noteFrame e X.env)
      (fun _ z2 => wpAny (model X.prog X.w) X.A (setFlight e none)
        (fun _ z3 => wpAny (model X.prog X.w) X.A (handleBy e X.env [.ExceptHandler (some (.Name x np)) (some n) (one :: suite) pos']) (SP X pins D) X.xe z3) X.xe z2) X.xe z1)
    (fun u z thrown => ?caught) PassesOwn.looking).run [] s σ H D (I.toTry _) reading
  refine wpAny_mono ran (fun f z over => ?through) fun e z q => q
  case caught =>
    obtain ⟨a, ground, before, pins2, τ, G, cls, d, rfl, J0, kept, grown, sky, free, os, bare, yes, match_, onYes, onNo⟩ := thrown
    have J : Inv X pins τ G before := J0.ofTry good
    rw [stk] at sky
    show wpAny (model X.prog X.w) X.A (noteFrame (.ref a) X.env) _ _ _
    refine Sky.land Zc.steady frames fr sky fun h1 fly1 up1 => ?_
    have J1 : Inv X pins τ G { z with heap := h1 } := J.landed kept fly1.1 (grown.trans up1) os bare
    obtain ⟨ob1, us1, at1, z1, dat1⟩ := fly1.there
    have offFrames : a ∉ frs (X.env :: X.outer) := fun hm => by
      obtain ⟨_, o2, at2, not2⟩ := fly1.2.2.1.mem hm
      cases at1.symm.trans at2
      exact not2 _ dat1
    have nL : a ≠ X.env.locals := fun q => offFrames (List.mem_filterMap.mpr ⟨X.env, List.mem_cons_self, by rw [fr, q]⟩)
    have nF : a ∉ X.fs := fun hm => by
      obtain ⟨e, he, q⟩ := List.mem_filterMap.mp hm
      exact offFrames (List.mem_filterMap.mpr ⟨e, List.mem_cons_of_mem _ he, q⟩)
    -- it is new since the try began
    have newHere : before.heap.get? a = none := by
      cases q : before.heap.get? a with
      | none => rfl
      | some o =>
        have q2 := kept a o q (show a ∉ frs X.stack by rw [stk]; exact offFrames)
        rw [fly1.2.1] at q2
        cases q2
    have away : X.s_0.heap.get? a = none := by
      cases q : X.s_0.heap.get? a with
      | none => rfl
      | some o =>
        obtain ⟨o2, q2⟩ := J.base.there a o q (by rw [noEx]; exact List.not_mem_nil)
        rw [newHere] at q2
        cases q2
    have nC : ∀ y k, X.env.cells.lookup y = some k → k ≠ a := fun y k e q => by
      obtain ⟨v, o, ho, _⟩ := J.cell y k e
      rw [q, newHere] at ho
      cases ho
    have nP : ∀ p ∈ X.pn ++ pins, p.1 ≠ a := fun p hp q => by
      have e := (J.pin p hp).1
      rw [q, newHere] at e
      cases e
    have S1 := J1.suite at1 dat1 free nL nF
    refine wpAny_handleBy_cons (codeAny_handlers_test ?_) fun q => by cases q
    have typed : PySem.W.Looks (model X.prog X.w) h1 (typeOf (.ref a)) cls := fun A Q E s k q => wpAny_typeOf_ref (k _ _ at1) (by rw [z1.1]; exact q)
    have matched := PySem.W.exm_one (M := model X.prog X.w) J1.kIn typed match_
    have named : ∀ {Q : Value → Shared → Prop} {E : Value → Shared → Prop}, Q c { z with heap := h1 } → wpAny (model X.prog X.w) (X.A.mark (some (.ref a))) (eval (.Name x np) X.env) Q E { z with heap := h1 } := fun {Q E} q => by
      obtain ⟨gl, dbg, here | ⟨none_, boot, nm⟩⟩ := cls_
      · exact ld_glob (X := X.suite a ((a, ob1) :: (X.pn ++ pins))) S1 gl here q dbg
      · exact ld_blt (X := X.suite a ((a, ob1) :: (X.pn ++ pins))) S1 gl none_ boot q nm dbg
    refine named (matched.here ?_)
    cases yes with
    | true =>
      refine codeAny_handlers_suite_as (HandSPX.lands_againZ fly1 fun h2 fly2 up2 => ?_)
      have J2 : Inv X pins τ G { z with heap := h2 } := J.landed kept fly2.1 ((grown.trans up1).trans up2) os bare
      obtain ⟨ob2, us2, at2, z2, dat2⟩ := fly2.there
      have S2 := J2.suite at2 dat2 free nL nF
      refine store_ok (X := X.suite a ((a, ob2) :: (X.pn ++ pins))) (v := .ref a) S2 nd at_ (.inl loc) rfl (fun z5 S5 => ?_) (.inr loc)
      refine wpAny_mono ((doSuite a ob2 cls d (X.pn ++ pins) z2 ⟨_, dat2⟩).run [] z5 _ G _ S5 (onYes rfl a free)) (fun f z6 over => ?_) fun _ _ q => q.elim
      match f, over with
      | .next, ⟨τ6, G6, S6, q6⟩ =>
        obtain ⟨at6, free6, _⟩ := S6.pin (a, ob2) (List.mem_append.mpr (.inl List.mem_cons_self))
        have K6 := inv_track (o := ExK cls d a) (S6.unsuite good) away free6 nL nC nP (exK_ok at6 z2 dat2)
        exact gone_ok K6 nd at_ loc fun z7 J7 => ⟨_, _, J7, q6 free6⟩
      | .brk, ⟨_, _, _, q6⟩ => exact q6.elim
      | .cont, ⟨_, _, _, q6⟩ => exact q6.elim
      | .ret _, ⟨_, _, _, _, _, q6⟩ => exact q6.elim
    | false =>
      show wpAny _ X.A (handleBy (.ref a) X.env []) _ _ _
      refine wpAny_handleBy_nil ?_
      obtain ⟨w1, w2, w3, ob, us, tb_, oT, rows, hb, zb, db, f1, more⟩ := id fly1
      unfold PySem.passOn
      refine wpAny_bind (wpAny_field hb db f1 ?_)
      rw [if_neg (show ¬ ((Value.ref tb_ == Value.none) = true) from by simp)]
      have last : wpAny (model X.prog X.w) X.A (setFlight (.ref a) X.env.frame) (fun _ z4 => wpAny (model X.prog X.w) X.A (throw (.ref a) : Sem Flow) (SP X pins D) X.xe z4) X.xe { z with heap := h1 } := by
        rw [fr]
        refine HandSPX.setFlight_upZ fly1 fun h4 held4 up4 => wpAny_throw (tk _ _ ?_)
        exact ⟨a, ground, before, pins, τ, G, cls, d, rfl, J, kept, (grown.trans up1).trans up4, .inr (.inr (by rw [stk]; exact held4)), free, os, bare, onNo rfl⟩
      first
        | exact wpAny_bind (wpAny_pure (wpAny_bind last))
        | exact wpAny_bind last
  case through =>
    match f, over with
    | .next, ⟨τ, G, J, q⟩ => exact wpAny_execs_nil ⟨τ, G, J.ofTry good, q⟩
    | .brk, ⟨τ, G, J, q⟩ => exact ⟨τ, G, J.ofTry good, q⟩
    | .cont, ⟨τ, G, J, q⟩ => exact ⟨τ, G, J.ofTry good, q⟩
    | .ret _, ⟨v, τ, G, J, r, q⟩ => exact ⟨v, τ, G, J.ofTry good, r, q⟩
end
section
variable {X : Cx}
theorem inst_of {a D : Addr} {h : Heap} {ob : Obj} {us : Array Value} (e : h.get? a = some ob) (z : Zc (.ref D) none ob) (dat : ob.data = .fields us) : PySem.W.InstAt h a ob D none := by
  obtain ⟨oc, od, da, sl⟩ := ob
  obtain ⟨e1, e2⟩ := z
  dsimp only at e1 e2 dat
  subst e1 e2 dat
  exact ⟨e, rfl, rfl, trivial⟩
/-- isinstance(e, c), e a tracked exception of the class D, without a dict -/
def rIsH (K : PySem.W.Frag) : List V → Hp → VK → Prop := fun xs H Q => ∃ (a D : Addr) (c : V) (u : Value) (b : Bool), xs = [.ref a, c] ∧ H a = some (ExK (.ref D) none a) ∧ ExcC K D ∧ ClsV c u ∧ PySem.W.kitOne K (.ref D) u = some b ∧ Q (.bl b) H
theorem call_isH : CallR X (.builtin "isinstance") (rIsH X.K) := by
  intro pins s σ H xs us Q I r h
  obtain ⟨a, D, c, u, b, rfl, at_, C, k, e, q⟩ := h
  obtain ⟨u1, u2, rfl, r1, r2⟩ := vals2 r
  have e2 := k.eq r2
  subst e2
  cases (show u1 = Value.ref a from r1)
  obtain ⟨⟨ob, fs, o1, o2, o3⟩, _⟩ := I.hok a _ at_
  exact PySem.W.kia_one (PySem.W.handS_kitx_exc C.hg C.hk C.hs C.hd C.ha C.hn C.ht C.hm) I.kIn (inst_of o1 o2 o3) e (fun z => nomatch z) fun tk => ⟨.bl b, H, I.tok tk, rfl, q⟩
/-- isinstance(e, (c1, ..)) -/
def rIsHT (K : PySem.W.Frag) : List V → Hp → VK → Prop := fun xs H Q => ∃ (a D tp : Addr) (cs : List V) (us : List Value) (b : Bool), xs = [.ref a, .ref tp] ∧ H a = some (ExK (.ref D) none a) ∧ ExcC K D ∧ H tp = some (.tup cs) ∧ Paired ClsV cs us ∧ PySem.W.kitAny K (.ref D) us = some b ∧ Q (.bl b) H
theorem call_isHT : CallR X (.builtin "isinstance") (rIsHT X.K) := by
  intro pins s σ H xs us Q I r h
  obtain ⟨a, D, tp, cs, ws, b, rfl, at_, C, hT, k, e, q⟩ := h
  obtain ⟨u1, u2, rfl, r1, r2⟩ := vals2 r
  cases (show u1 = Value.ref a from r1)
  cases (show u2 = Value.ref tp from r2)
  obtain ⟨⟨ob, fs, o1, o2, o3⟩, _⟩ := I.hok a _ at_
  obtain ⟨_, its, rv, ot, h1, h2, n, h3⟩ := (show ObjOk X.prog X.w H s.heap tp (.tup cs) from I.hok tp _ hT)
  have e3 := ClsV.all k rv
  subst e3
  obtain ⟨oc, od, dt, sl⟩ := ot
  simp only at h2 h3
  subst h2 h3
  exact PySem.W.kia_tup (PySem.W.handS_kitx_exc C.hg C.hk C.hs C.hd C.ha C.hn C.ht C.hm) I.kIn (inst_of o1 o2 o3) h1 e (fun z => nomatch z) fun tk => ⟨.bl b, H, I.tok tk, rfl, q⟩
end
end Xk
set_option Elab.async false
set_option linter.all false
set_option maxRecDepth 100000
set_option maxHeartbeats 4000000
set_option pp.maxSteps 400
/-! worth: a refusal made without parts, the worths of terms. -/
namespace Kf
open PySem PySem.Spec PyProof.Rows L2 Sx
/-- X(), X an own exception class without own __init__ -/
theorem pmk_own0 {X : Cx} {C : Addr} {bmB : List Value} {B newId initId : String} {x : Str} {p pos : Pos} (F : ExcBaseFacts B newId initId bmB) (isC : PySem.W.excIn X.K C bmB newId = true) (at_ : X.mg x = some (.ref C)) (kept : PySem.W.keepIn X.K (.ref C) = true) (can : Raises X (.ref C)) (gl : Gl X x)
    (nd : (x == ("__debug__" : Str)) = false := by decide) : PMk X (.Call (.Name x p) [] [] pos) (fun _ H Q => Q (.ref C) none H) := by
  intro pins s σ H Q I told
  refine wpAny_Call_Name_kw (ld_glob I gl at_ (PySem.W.callWith_K0 (first := []) I.kIn kept ?_) nd)
  obtain ⟨bm, N, nm, qn, bs, hdct, sn, sub, ab, col, dd, k0, k1, k2, k3, k5, mN, hC, hN, hni, T⟩ := exc_obj I.kIn isC
  exact wpAny_call_exc_subT F T hC hN hni (fun h' e made => mk_of I made can told (I.hok.gone made.new)) (by decide)
/-! ### worths -/
abbrev TG : Int := 10 ^ 60
def cap (n : Int) : Option Int := if n < TG then some n else none
def wt (v : Str → Int) : Tr → Option Int
  | .leaf _ x => match x with
    | .int n => cap n
    | .str z => cap (v z)
    | _ => none
  | .n0 _ => none
  | .n1 _ a => (wt v a).bind fun m => cap (m + 1)
  | .n2 w a b => (wt v a).bind fun m => (wt v b).bind fun n => cap (if w = "plus" then m + n else m * n)
/-- a term without bounds -/
def Tr.Tm : Tr → Prop
  | .leaf w x => (w = "num" ∧ ∃ n : Int, x = .int n ∧ 0 ≤ n) ∨ (w = "name" ∧ ∃ z, x = .str z)
  | .n0 _ => False
  | .n1 w a => w = "next" ∧ a.Tm
  | .n2 w a b => (w = "plus" ∨ w = "times") ∧ a.Tm ∧ b.Tm
/-- what comes of the pieces es behind the stack st -/
def RunsW (v : Str → Int) (res : Option Int) : List (Tr × Nat) → List Int → Prop
  | [], st => ∃ n, res = some n ∧ st = [n]
  | (.leaf _ x, _) :: es, st => ∃ n, ((x = .int n) ∨ ∃ z, x = .str z ∧ n = v z) ∧ (n < TG → RunsW v res es (st ++ [n])) ∧ (¬ n < TG → res = none)
  | (.n0 _, _) :: _, _ => False
  | (.n1 _ _, _) :: es, st => ∃ s0 a, st = s0 ++ [a] ∧ 0 ≤ a ∧ a < TG ∧ (a + 1 < TG → RunsW v res es (s0 ++ [a + 1])) ∧ (¬ a + 1 < TG → res = none)
  | (.n2 w _ _, _) :: es, st => ∃ s0 a b, st = s0 ++ [a] ++ [b] ∧ 0 ≤ a ∧ a < TG ∧ 0 ≤ b ∧ b < TG ∧ ∀ c, c = (if w = "plus" then a + b else a * b) → (c < TG → RunsW v res es (s0 ++ [c])) ∧ (¬ c < TG → res = none)
theorem cap_some {n m : Int} (h : cap n = some m) : n = m ∧ n < TG := by
  unfold cap at h
  split at h
  · rename_i c
    exact ⟨Option.some.inj h, c⟩
  · cases h
theorem wt_pos {v : Str → Int} (hv : ∀ z, 0 ≤ v z) : ∀ t : Tr, t.Tm → ∀ n, wt v t = some n → 0 ≤ n ∧ n < TG
  | .leaf w x, tm, n, h => by
    rcases tm with ⟨_, m, e, p⟩ | ⟨_, z, e⟩
    · subst e
      obtain ⟨e2, lt⟩ := cap_some (show cap m = some n from h)
      subst e2
      exact ⟨p, lt⟩
    · subst e
      obtain ⟨e2, lt⟩ := cap_some (show cap (v z) = some n from h)
      rw [← e2]
      exact ⟨hv z, lt⟩
  | .n1 w a, tm, n, h => by
    obtain ⟨m, e1, e2⟩ := Option.bind_eq_some_iff.mp (show (wt v a).bind _ = some n from h)
    obtain ⟨e3, lt⟩ := cap_some e2
    have p := (wt_pos hv a tm.2 m e1).1
    rw [← e3]
    exact ⟨by omega, lt⟩
  | .n2 w a b, tm, n, h => by
    obtain ⟨m, e1, e2⟩ := Option.bind_eq_some_iff.mp (show (wt v a).bind _ = some n from h)
    obtain ⟨k, e4, e5⟩ := Option.bind_eq_some_iff.mp e2
    obtain ⟨e3, lt⟩ := cap_some e5
    have p := (wt_pos hv a tm.2.1 m e1).1
    have q := (wt_pos hv b tm.2.2 k e4).1
    rw [← e3]
    refine ⟨?_, lt⟩
    split
    · omega
    · exact Int.mul_nonneg p q
theorem runsW_post {v : Str → Int} (hv : ∀ z, 0 ≤ v z) {res : Option Int} : ∀ (t : Tr) (r : Nat) (es : List (Tr × Nat)) (st : List Int), t.Tm → (∀ n, wt v t = some n → RunsW v res es (st ++ [n])) → (wt v t = none → res = none) → RunsW v res (t.post r ++ es) st
  | .leaf w x, r, es, st, tm, yes, no => by
    have fin : ∀ n, wt v (.leaf w x) = cap n → (n < TG → RunsW v res es (st ++ [n])) ∧ (¬ n < TG → res = none) := fun n e =>
      ⟨fun c => yes n (by rw [e]; exact if_pos c), fun c => no (by rw [e]; exact if_neg c)⟩
    rcases tm with ⟨_, m, e, p⟩ | ⟨_, z, e⟩
    · subst e
      exact ⟨m, .inl rfl, fin m rfl⟩
    · subst e
      exact ⟨v z, .inr ⟨z, rfl, rfl⟩, fin (v z) rfl⟩
  | .n1 w a, r, es, st, tm, yes, no => by
    show RunsW v res (a.post _ ++ [(.n1 w a, r)] ++ es) st
    rw [List.append_assoc]
    refine runsW_post hv a _ _ _ tm.2 (fun m em => ?_) fun em => no (by show (wt v a).bind _ = none; rw [em]; rfl)
    obtain ⟨p, lt⟩ := wt_pos hv a tm.2 m em
    have e : wt v (.n1 w a) = cap (m + 1) := by
      show (wt v a).bind _ = _
      rw [em]
      rfl
    exact ⟨st, m, rfl, p, lt, fun c => yes _ (by rw [e]; exact if_pos c), fun c => no (by rw [e]; exact if_neg c)⟩
  | .n2 w a b, r, es, st, tm, yes, no => by
    show RunsW v res (a.post _ ++ b.post _ ++ [(.n2 w a b, r)] ++ es) st
    rw [List.append_assoc, List.append_assoc]
    refine runsW_post hv a _ _ _ tm.2.1 (fun m em => runsW_post hv b _ _ _ tm.2.2 (fun k ek => ?_) fun ek => no (by show (wt v a).bind _ = none; rw [em]; show (wt v b).bind _ = none; rw [ek]; rfl)) fun em => no (by show (wt v a).bind _ = none; rw [em]; rfl)
    obtain ⟨p, lt⟩ := wt_pos hv a tm.2.1 m em
    obtain ⟨p2, lt2⟩ := wt_pos hv b tm.2.2 k ek
    refine ⟨st, m, k, rfl, p, lt, p2, lt2, fun c ec => ?_⟩
    have e : wt v (.n2 w a b) = cap c := by
      show (wt v a).bind _ = _
      rw [em]
      show (wt v b).bind _ = _
      rw [ek, ec]
      rfl
    exact ⟨fun c => yes _ (by rw [e]; exact if_pos c), fun c => no (by rw [e]; exact if_neg c)⟩
/-! ### worth -/
abbrev sWorth : Stmt := top 12
abbrev wN : List Str := ["term", "numbers", "done", "piece", "_", "word", "number", "right", "left"]
theorem scWorth : FnScope wN ["term", "numbers"] (defScope sWorth) := ⟨rfl, rfl, rfl, by decide +kernel, rfl, by decide +kernel, by decide +kernel⟩
theorem post_tm : ∀ (t : Tr) (r : Nat), t.Tm → ∀ e ∈ t.post r, e.1.Tm
  | .leaf w x, r, h, e, he => by rw [List.mem_singleton.mp he]; exact h
  | .n1 w a, r, h, e, he => by
    rcases List.mem_append.mp he with z | z
    · exact post_tm a _ h.2 e z
    · rw [List.mem_singleton.mp z]
      exact h
  | .n2 w a b, r, h, e, he => by
    rcases List.mem_append.mp he with z | z
    · rcases List.mem_append.mp z with z | z
      · exact post_tm a _ h.2.1 e z
      · exact post_tm b _ h.2.2 e z
    · rw [List.mem_singleton.mp z]
      exact h
theorem post_sub : ∀ (t : Tr) (r : Nat), ∀ e ∈ t.post r, ∀ z ∈ e.1.names, z ∈ t.names
  | .leaf w x, r, e, he, z, hz => by rw [List.mem_singleton.mp he] at hz; exact hz
  | .n0 w, r, e, he, z, hz => by rw [List.mem_singleton.mp he] at hz; exact hz
  | .n1 w a, r, e, he, z, hz => by
    rcases List.mem_append.mp he with y | y
    · exact post_sub a _ e y z hz
    · rw [List.mem_singleton.mp y] at hz
      exact hz
  | .n2 w a b, r, e, he, z, hz => by
    rcases List.mem_append.mp he with y | y
    · rcases List.mem_append.mp y with y | y
      · exact List.mem_append.mpr (.inl (post_sub a _ e y z hz))
      · exact List.mem_append.mpr (.inr (post_sub b _ e y z hz))
    · rw [List.mem_singleton.mp y] at hz
      exact hz
/-- the module's TooMany -/
structure Many (K : PySem.W.Frag) (mg : Str → Option Value) (TM : Addr) : Prop where
  isC : ∃ bm nw ini, PySem.W.excIn K TM bm nw = true ∧ ExcBaseFacts "ValueError" nw ini bm
  at_ : mg "TooMany" = some (.ref TM)
  kept : PySem.W.keepIn K (.ref TM) = true
  sub : PySem.W.subIn K (.ref TM) (.type "BaseException") = some true
  ty : PySem.W.typeIn K (.ref TM) = some (.type "type")
  own : PySem.W.exmOne K (.ref TM) (.ref TM) = some true
def spWorth (TM : Addr) : Sp := fun vs H Q E => ∃ (v1 : V) (d : Addr) (t : Tr) (v : Str → Int) (kvs : List (Key × V)), vs = [v1, .ref d] ∧ At H t v1 ∧ t.Ok ∧ t.Tm ∧ t.deep ≤ 12 ∧ H d = some (.dK kvs) ∧ (∀ z ∈ t.names, valV kvs (.inr z) = some (.int (v z))) ∧ (∀ z, 0 ≤ v z) ∧
  (∀ n H', wt v t = some n → Same H H' → Q (.int n) H') ∧ ∀ H', wt v t = none → Same H H' → E (.ref TM) none H'
theorem joinS {C G : L2.St → Hp → Prop} {M : Prop} (main : (∀ σ H, C σ H → G σ H) → M) (rest : ∀ σ H, C σ H → G σ H) : M := main rest
theorem same_wd {k : Str} {A B : Prop} (h : A) : if decide (V.str k = V.str k) = true then A else B := by
  rw [if_pos (decide_eq_true rfl)]
  exact h
theorem other_wd {k l : Str} {A B : Prop} (ne : k ≠ l) (h : B) : if decide (V.str k = V.str l) = true then A else B := by
  rw [if_neg fun z => ne (by have q := of_decide_eq_true z; injection q)]
  exact h
section
variable {P : Program} {w : World} {K : PySem.W.Frag} {mg : Str → Option Value} {base : Heap}
theorem ok_worth {f gp TM : Addr} {fd dp : FuncData} {tk : Tok} (F : Fun K "worth" "worth" sWorth f fd) (G : FnOk P w K mg base CX0 2 gp dp ["thing"] spPieces) (bG : Binds K dp ["thing"] []) (kG : PySem.W.keepIn K (.ref gp) = true) (mG : mg "pieces_of" = some (.ref gp))
    (M : Many K mg TM) (mT : mg "TOO_GREAT" = some (.int TG tk)) : FnOk P w K mg base (L2.CX P w) 3 f fd ["term", "numbers"] (spWorth TM) := by
  obtain ⟨bm, nw, ini, isC, FB⟩ := M.isC
  refine F.okX scWorth (fun vs H Q E h => ?_) (fun cdv A outer s H vs Q E hr h => ?_)
  · obtain ⟨v1, d, t, v, kvs, rfl, _⟩ := h
    rfl
  obtain ⟨v1, d, t, v, kvs, rfl, hA, hO, hM, hd, hK, hv, pos, qy, qn⟩ := h
  have u1 : (A.deeper (envOfC "worth" (defScope sWorth) s.heap.objs.size f cdv)).units + 1 < cLine := by
    have := hr.units
    omega
  refine ⟨_, pss_cons (ps_set (i := 2) scWorth.nd rfl (.inl rfl) (pe_lst pa_nil))
    (pss_cons (ps_for (passes_of rfl) rfl (pi_list (pe_call G hr (by rfl) mG kG bG .nil pass0 (pa_cons (pv 0) pa_nil))) (pg_tup (by rfl) (pgs_cons (pg_name (i := 3) scWorth.nd rfl (.inl rfl)) (pgs_cons (pg_name (i := 4) scWorth.nd rfl (.inl rfl)) pgs_nil)))
      (pss_cons (ps_set (i := 5) scWorth.nd rfl (.inl rfl) (pe_ix ix_tup (pv 3) pe_int (fun _ _ => rfl)))
      (pss_cons (ps_if (pt_cmpR op_eq (pv 5) pe_str (nomark _)) (pss_one (ps_set (i := 6) scWorth.nd rfl (.inl rfl) (pe_ix ix_tup (pv 3) pe_int (fun _ _ => rfl))))
        (pss_one (ps_if (pt_cmpR op_eq (pv 5) pe_str (nomark _))
          (pss_cons (ps_if (pt_cmp (pc_dnotin u1 (pe_ix ix_tup (pv 3) pe_int (fun _ _ => rfl)) (pv 1))) (pss_one ps_never) pss_nil) (pss_one (ps_set (i := 6) scWorth.nd rfl (.inl rfl) (pe_dget u1 (pv 1) (pe_ix ix_tup (pv 3) pe_int (fun _ _ => rfl)) (fun _ _ => rfl)))))
          (pss_one (ps_if (pt_cmpR op_eq (pv 5) pe_str (nomark _)) (pss_one (ps_set (i := 6) scWorth.nd rfl (.inl rfl) (pe_op op_add (pe_bm0 PySem.F.plainAttrs_list PySem.F.slot_list_pop PySem.F.type_list_pop mt_pop (pv 2)) pe_int)))
            (pss_cons (ps_set (i := 7) scWorth.nd rfl (.inl rfl) (pe_bm0 PySem.F.plainAttrs_list PySem.F.slot_list_pop PySem.F.type_list_pop mt_pop (pv 2)))
            (pss_cons (ps_set (i := 8) scWorth.nd rfl (.inl rfl) (pe_bm0 PySem.F.plainAttrs_list PySem.F.slot_list_pop PySem.F.type_list_pop mt_pop (pv 2)))
            (pss_one (ps_set (i := 6) scWorth.nd rfl (.inl rfl) (pe_ifExp (pt_cmpR op_eq (pv 5) pe_str (nomark _)) (pe_op op_add (pv 8) (pv 7)) (pe_op op_mulX (pv 8) (pv 7))))))))))))
      (pss_cons (ps_if (pt_cmpR op_ge (pv 6) (pe_glob (v := .int TG) (by rfl) mT ⟨_, rfl⟩) (nomark _)) (pss_one (ps_raise rfl (takes_of rfl rfl rfl rfl) (pmk_own0 FB isC M.at_ M.kept (raises_own M.sub M.ty) (by rfl)))) pss_nil)
      (pss_one (ps_expr (pe_bm PySem.F.plainAttrs_list PySem.F.slot_list_append PySem.F.type_list_append mt_append (pv 2) (pa_cons (pv 6) pa_nil))))))))
    (pss_one (ps_ret (pe_ix ix_list (pv 2) pe_int (fun _ _ => rfl))))), ?_⟩
  refine ⟨Nat.zero_le _, fun pd nd => ?_⟩
  have s1 : Same H (upd H pd (.lst [])) := same_new nd
  refine ⟨_, rfl, v1, t, rfl, hA.keep (tups_same s1), hO, hd, fun p H1 vf sm np hp rows => ?_⟩
  have hD1 : H1 pd = some (.lst []) := sm _ _ upd_same
  have npd : p ≠ pd := fun z => by
    rw [z, upd_same] at np
    cases np
  have ndd : d ≠ pd := ne_of_none hK nd
  have hK1 : H1 d = some (.dK kvs) := sm _ _ (s1 _ _ hK)
  have lenP : vf.length ≤ 4096 := by
    have l1 := rows.len
    rw [post_len] at l1
    have l3 := size_deep t
    have l4 : 2 ^ t.deep ≤ 2 ^ 12 := Nat.pow_le_pow_right (by decide) hd
    omega
  have sH : ∀ {H' : Hp}, But pd H1 H' → Same H H' := fun b c u e => b c u (ne_of_none e nd) (sm _ _ (s1 _ _ e))
  refine ⟨p, rfl, ⟨_, .inl (.inl hp)⟩, for_list (K := K) (a := p) (xs := vf) (fun i σ H' => ∃ (st : List Int) (y3 y4 y5 y6 y7 y8 : Option V), σ = [some v1, some (.ref d), some (.ref pd), y3, y4, y5, y6, y7, y8] ∧ But pd H1 H' ∧ H' pd = some (.lst (st.map V.int)) ∧ RunsW v (wt v t) ((t.post 0).drop i) st ∧ st.length ≤ i)
    ⟨[], none, none, none, none, none, none, rfl, But.refl _ _, hD1, ?_, Nat.le_refl _⟩ (fun i σ H' _ ⟨_, _, _, _, _, _, _, _, b, _⟩ => .inl (.inl (b _ _ npd hp))) ?_ ?_⟩
  · have z := runsW_post (v := v) pos (res := wt v t) t 0 [] [] hM (fun n e => ⟨n, e, rfl⟩) id
    rw [List.append_nil] at z
    exact z
  · rintro i y σ H' hy ⟨st, y3, y4, y5, y6, y7, y8, rfl, b, hD, runs, lst⟩
    obtain ⟨⟨t1, r1⟩, he, ⟨q1, x1, rfl, h1, a1⟩⟩ := rows.get hy
    have k1 : Tups H1 H' := b.tups hD1
    have a2 : At H' t1 x1 := At.keep k1 a1
    have mem1 := List.mem_of_getElem? he
    have ok1 : t1.Ok := post_ok t 0 hO (t1, r1) mem1
    have tm1 : t1.Tm := post_tm t 0 hM (t1, r1) mem1
    have il : i < (t.post 0).length := (List.getElem?_eq_some_iff.mp he).1
    have ed : (t.post 0).drop i = (t1, r1) :: (t.post 0).drop (i + 1) := by
      rw [List.drop_eq_getElem_cons il, (List.getElem?_eq_some_iff.mp he).2]
    rw [ed] at runs
    have lenI : i < vf.length := by rw [← rows.len]; exact il
    obtain ⟨p1, us, rfl, hp1, lus, kids, leafs⟩ := a2.view ok1
    refine ⟨q1, [.ref p1, .int (r1 : Int)], rfl, .inl (.inl (k1 _ _ h1)), rfl, .ref p1, [.int (r1 : Int)], rfl, .int (r1 : Int), [], rfl, rfl, ?_⟩
    refine ⟨_, rfl, p1, _, 0, _, rfl, rfl, .inl (.inl hp1), head_at _ _, ?_⟩
    apply joinS (C := fun σ X => ∃ (n : Int) (st2 : List Int) (y3 y4 y5 y7 y8 : Option V), σ = [some v1, some (.ref d), some (.ref pd), y3, y4, y5, some (.int n), y7, y8] ∧ But pd H1 X ∧ X pd = some (.lst (st2.map V.int)) ∧ st2.length ≤ i ∧ (n < TG → RunsW v (wt v t) ((t.post 0).drop (i + 1)) (st2 ++ [n])) ∧ (¬ n < TG → wt v t = none))
    · intro rest
      cases t1 with
      | leaf wd x =>
        obtain ⟨n, en, r1', r2'⟩ := runs
        obtain ⟨x2, ex, eu⟩ := leafs ok1.1
        have ex2 : x = x2 := by injection ex
        subst ex2
        subst eu
        rcases tm1 with ⟨rfl, m, em, _⟩ | ⟨rfl, z, ez⟩
        · subst em
          have e : n = m := by
            rcases en with e | ⟨z, e, _⟩
            · injection e with e
              exact e.symm
            · cases e
          subst e
          refine ⟨_, rfl, rfl, _, rfl, same_wd ?_⟩
          refine ⟨_, rfl, p1, _, 1, _, rfl, rfl, .inl (.inl hp1), atI_nat (j := 1) rfl, ?_⟩
          dsimp only [gName, List.set]
          exact rest _ H' ⟨n, st, _, _, _, _, _, rfl, b, hD, lst, r1', r2'⟩
        · subst ez
          have hz0 : z ∈ (Tr.leaf "name" (.str z)).names := by
            rw [show (Tr.leaf "name" (.str z)).names = [z] from if_pos rfl]
            exact List.mem_singleton.mpr rfl
          have hkz : valV kvs (.inr z) = some (.int (v z)) := hv z (post_sub t 0 _ mem1 z hz0)
          have e : n = v z := by
            rcases en with e | ⟨z2, e, e3⟩
            · cases e
            · injection e with e
              rw [e3, e]
          subst e
          have hKd : H' d = some (.dK kvs) := b _ _ ndd hK1
          refine ⟨_, rfl, rfl, _, rfl, other_wd (show Str.ofString "name" ≠ "num" by decide +kernel) ⟨_, rfl, rfl, _, rfl, same_wd ?_⟩⟩
          refine ⟨_, rfl, p1, _, 1, _, rfl, rfl, .inl (.inl hp1), atI_nat (j := 1) rfl, _, rfl, d, _, rfl, DGet.k (k := .inr z) hKd, ?_⟩
          have got : DGet H' d (.str z) (some (.int (v z))) := by
            have g0 := DGet.k (k := .inr z) hKd
            rw [hkz] at g0
            exact g0
          refine ⟨_, rfl, ?_⟩
          rw [hkz]
          refine iteF ?_
          refine ⟨_, rfl, _, rfl, p1, _, 1, _, rfl, rfl, .inl (.inl hp1), atI_nat (j := 1) rfl, d, _, rfl, got, ?_⟩
          dsimp only [gName, List.set]
          exact rest _ H' ⟨v z, st, _, _, _, _, _, rfl, b, hD, lst, r1', r2'⟩
      | n0 wd => exact tm1.elim
      | n1 wd a =>
        obtain ⟨rfl, _⟩ := tm1
        obtain ⟨s0, m, es, m0, m1, r1', r2'⟩ := runs
        subst es
        have hpop : ((s0 ++ [m]).map V.int)[((s0 ++ [m]).map V.int).length - 1]? = some (.int m) := by simp
        refine ⟨_, rfl, rfl, _, rfl, other_wd (show Str.ofString "next" ≠ "num" by decide +kernel) ⟨_, rfl, rfl, _, rfl, other_wd (show Str.ofString "next" ≠ "name" by decide +kernel) ⟨_, rfl, rfl, _, rfl, same_wd ?_⟩⟩⟩
        refine ⟨_, rfl, .inl ⟨rfl, _, .inl (.inl hD)⟩, pd, _, .int m, rfl, rfl, hD, hpop, ?_⟩
        refine ⟨_, _, rfl, rfl, ?_⟩
        dsimp only [gName, List.set]
        have k2 : But pd H1 (upd H' pd (.lst ((s0 ++ [m]).map V.int).dropLast)) := b.own
        refine rest _ _ ⟨m + 1, s0, _, _, _, _, _, rfl, k2, by rw [upd_same, List.map_append]; simp, by rw [List.length_append, List.length_singleton] at lst; omega, r1', r2'⟩
      | n2 wd a c =>
        obtain ⟨s0, m, k, es, m0, m1, n0, n1, fin⟩ := runs
        subst es
        have hpop : ((s0 ++ [m] ++ [k]).map V.int)[((s0 ++ [m] ++ [k]).map V.int).length - 1]? = some (.int k) := by simp
        have hpop2 : ((s0 ++ [m]).map V.int)[((s0 ++ [m]).map V.int).length - 1]? = some (.int m) := by simp
        have hw : wd ≠ "num" ∧ wd ≠ "name" ∧ wd ≠ "next" := by
          rcases tm1.1 with e | e <;> rw [e] <;> decide +kernel
        refine ⟨_, rfl, rfl, _, rfl, other_wd hw.1 ⟨_, rfl, rfl, _, rfl, other_wd hw.2.1 ⟨_, rfl, rfl, _, rfl, other_wd hw.2.2 ?_⟩⟩⟩
        refine ⟨_, rfl, .inl ⟨rfl, _, .inl (.inl hD)⟩, pd, _, .int k, rfl, rfl, hD, hpop, ?_⟩
        rw [show ((s0 ++ [m] ++ [k]).map V.int).dropLast = (s0 ++ [m]).map V.int by simp]
        refine ⟨_, rfl, .inl ⟨rfl, _, .inl (.inl upd_same)⟩, pd, _, .int m, rfl, rfl, upd_same, hpop2, ?_⟩
        rw [show ((s0 ++ [m]).map V.int).dropLast = s0.map V.int by simp]
        have k2 : But pd H1 (upd (upd H' pd (.lst ((s0 ++ [m]).map V.int))) pd (.lst (s0.map V.int))) := b.own.own
        have ls : s0.length ≤ i := by
          rw [List.length_append, List.length_append, List.length_singleton, List.length_singleton] at lst
          omega
        refine ⟨_, rfl, rfl, _, rfl, ?_⟩
        by_cases cw : wd = "plus"
        · subst cw
          have f := fin (m + k) (if_pos rfl).symm
          refine same_wd ⟨_, rfl, _, rfl, _, _, rfl, rfl, ?_⟩
          dsimp only [gName, List.set]
          exact rest _ _ ⟨m + k, s0, _, _, _, _, _, rfl, k2, upd_same, ls, f.1, f.2⟩
        · have f := fin (m * k) (if_neg cw).symm
          refine other_wd cw ⟨_, rfl, _, rfl, _, _, rfl, rfl, ?_, ?_⟩
          · have bits : ∀ x : Int, 0 ≤ x → x < TG → Builtin.Int.intBits x ≤ 200 := fun x p q => PyProof.Rows.intBits_le (k := 200) (by
              have q2 : x < 10 ^ 60 := q
              have q3 : x.natAbs < 10 ^ 60 := by omega
              exact Nat.lt_of_lt_of_le q3 (by decide))
            have e1 := bits m m0 m1
            have e2 := bits k n0 n1
            unfold CMulX
            omega
          dsimp only [gName, List.set]
          exact rest _ _ ⟨m * k, s0, _, _, _, _, _, rfl, k2, upd_same, ls, f.1, f.2⟩
    · rintro σ X ⟨n, st2, y3, y4, y5, y7, y8, rfl, bX, hX, l2, f1, f2⟩
      refine ⟨_, rfl, _, _, rfl, rfl, _, rfl, ?_⟩
      refine ite2 (fun c => ?_) (fun c => ?_)
      · exact qn _ (f2 (by have := of_decide_eq_true c; omega)) (sH bX)
      · have lt : n < TG := by
          have q : ¬ TG ≤ n := fun z => c (decide_eq_true z)
          omega
        refine ⟨_, rfl, .inl ⟨rfl, _, .inl (.inl hX)⟩, _, rfl, pd, _, .int n, rfl, rfl, hX, line_of (by rw [List.length_map]; omega), ?_⟩
        refine ⟨st2 ++ [n], _, _, _, _, _, _, rfl, bX.own, by rw [upd_same, List.map_append]; rfl, f1 lt, ?_⟩
        rw [List.length_append, List.length_singleton]
        omega
  · rintro σ H' ⟨st, y3, y4, y5, y6, y7, y8, rfl, b, hD, runs, lst⟩
    rw [← rows.len, List.drop_length] at runs
    obtain ⟨n, en, rfl⟩ := runs
    refine ⟨_, rfl, pd, _, 0, _, rfl, rfl, .inl (.inl hD), atI_nat (j := 0) rfl, ?_⟩
    exact qy n _ en (sH b)
end
end Kf
set_option Elab.async false
set_option linter.all false
set_option maxRecDepth 100000
set_option maxHeartbeats 4000000
set_option pp.maxSteps 400
/-! k41: the closed terms and flat sayings that the law makes. -/
namespace Kf
open PySem PySem.Spec PyProof.Rows L2 Sx
abbrev sGreat : Stmt := top 19
abbrev sFlat : Stmt := top 21
theorem scGreat : FnScope ["feed", "deep", "way", "great", "word", "one"] ["feed", "deep"] (defScope sGreat) := ⟨rfl, rfl, rfl, by decide +kernel, rfl, by decide +kernel, by decide +kernel⟩
theorem scFlat : FnScope ["feed", "deep", "great", "way", "one", "other", "word"] ["feed", "deep", "great"] (defScope sFlat) := ⟨rfl, rfl, rfl, by decide +kernel, rfl, by decide +kernel, by decide +kernel⟩
/-- a closed term -/
def Tr.Cl : Tr → Prop
  | .leaf w x => w = "num" ∧ ∃ n : Int, x = .int n ∧ 0 ≤ n ∧ n < 10 ^ 60
  | .n0 _ => False
  | .n1 w a => w = "next" ∧ a.Cl
  | .n2 w a b => (w = "plus" ∨ w = "times") ∧ a.Cl ∧ b.Cl
/-- a closed flat saying -/
def Tr.Fl : Tr → Prop
  | .leaf _ _ => False
  | .n0 w => w = "no"
  | .n1 _ _ => False
  | .n2 w a b => (w = "same" ∧ a.Cl ∧ b.Cl) ∨ ((w = "and" ∨ w = "if") ∧ a.Fl ∧ b.Fl)
theorem cl_ok : ∀ {t : Tr}, t.Cl → t.Ok
  | .leaf w x, ⟨e, n, ex, _⟩ => by
    subst e ex
    exact ⟨by decide +kernel, .inl ⟨⟨n, rfl⟩, by decide +kernel⟩⟩
  | .n0 _, h => h.elim
  | .n1 w a, ⟨e, h⟩ => ⟨by rw [e]; decide +kernel, cl_ok h⟩
  | .n2 w a b, ⟨e, h, g⟩ => ⟨by rcases e with e | e <;> rw [e] <;> decide +kernel, cl_ok h, cl_ok g⟩
theorem cl_tm : ∀ {t : Tr}, t.Cl → t.Tm
  | .leaf w x, ⟨e, n, ex, p, _⟩ => .inl ⟨e, n, ex, p⟩
  | .n0 _, h => h.elim
  | .n1 w a, ⟨e, h⟩ => ⟨e, cl_tm h⟩
  | .n2 w a b, ⟨e, h, g⟩ => ⟨e, cl_tm h, cl_tm g⟩
theorem cl_names : ∀ {t : Tr}, t.Cl → t.names = []
  | .leaf w x, ⟨e, _⟩ => by
    subst e
    exact if_neg (by decide +kernel)
  | .n0 _, h => h.elim
  | .n1 w a, ⟨e, h⟩ => cl_names (t := a) h
  | .n2 w a b, ⟨e, h, g⟩ => by
    show a.names ++ b.names = []
    rw [cl_names h, cl_names g]
    rfl
theorem fl_ok : ∀ {t : Tr}, t.Fl → t.Ok
  | .leaf _ _, h => h.elim
  | .n0 w, h => by
    have e : w = "no" := h
    show leafy w = false
    rw [e]
    decide +kernel
  | .n1 _ _, h => h.elim
  | .n2 w a b, .inl ⟨e, h, g⟩ => ⟨by rw [e]; decide +kernel, cl_ok h, cl_ok g⟩
  | .n2 w a b, .inr ⟨e, h, g⟩ => ⟨by rcases e with e | e <;> rw [e] <;> decide +kernel, fl_ok h, fl_ok g⟩
def OutC (f : Addr) (H : Hp) (d : Nat) (Q : VK) : Prop := ∀ t v H', t.Cl → t.deep ≤ d → At H' t v → But f H H' → FeedAt H' f → Q v H'
def OutF (f : Addr) (H : Hp) (d : Nat) (Q : VK) : Prop := ∀ t v H', t.Fl → t.deep ≤ d → At H' t v → But f H H' → FeedAt H' f → Q v H'
/-- what stands behind several ways, shown once -/
theorem join {C G : Hp → Prop} {M : Prop} (main : (∀ H, C H → G H) → M) (rest : ∀ H, C H → G H) : M := main rest
theorem eqW {wd k : Str} {A B : Prop} (y : wd = k → A) (n : wd ≠ k → B) : if decide (V.str wd = V.str k) = true then A else B :=
  ite2 (fun c => y (by have q := of_decide_eq_true c; injection q)) (fun c => n (fun e => c (by rw [e]; exact decide_eq_true rfl)))
section
variable {P : Program} {w : World} {K : PySem.W.Frag} {mg : Str → Option Value} {base : Heap}
structure Draw (P : Program) (w : World) (K : PySem.W.Frag) (mg : Str → Option Value) (base : Heap) (ft fp : Addr) (dt dp : FuncData) : Prop where
  T : FnOk P w K mg base CX0 1 ft dt ["feed", "many"] spTake
  bT : Binds K dt ["feed", "many"] []
  kT : PySem.W.keepIn K (.ref ft) = true
  mT : mg "_law_take" = some (.ref ft)
  Pk : FnOk P w K mg base CX0 2 fp dp ["feed", "some"] (spPick K)
  bP : Binds K dp ["feed", "some"] []
  kP : PySem.W.keepIn K (.ref fp) = true
  mP : mg "_law_pick" = some (.ref fp)
theorem few1000 {n : Int} (h0 : 0 < n) (h : n ≤ 1000) : n.natAbs < 2 ^ 200 := Nat.lt_of_le_of_lt (show n.natAbs ≤ 1000 by omega) (by decide)
theorem no_calls {f : Addr} {fd : FuncData} {k : Nat} {ps : List Str} {sp : Sp} (no : ∀ vs H Q E, ¬ sp vs H Q E) : FnOk P w K mg base CX0 k f fd ps sp :=
  ⟨fun vs H Q E h => absurd h (no vs H Q E), fun A outer s H args us vs Q E _ _ _ _ h => absurd h (no vs H Q E)⟩
theorem words3 : ∀ x ∈ ([.str "next", .str "plus", .str "times"] : List V), ∃ wd : Str, x = .str wd ∧ (wd ≠ "next" → wd = "plus" ∨ wd = "times") := by
  intro x hx
  rcases List.mem_cons.mp hx with e | hx
  · exact ⟨_, e, by decide +kernel⟩
  rcases List.mem_cons.mp hx with e | hx
  · exact ⟨_, e, by decide +kernel⟩
  · exact ⟨_, List.mem_singleton.mp hx, by decide +kernel⟩
theorem wordsC : ∀ x ∈ ([.str "and", .str "if", .str "if"] : List V), ∃ wd : Str, x = .str wd ∧ (wd = "and" ∨ wd = "if") := by
  intro x hx
  rcases List.mem_cons.mp hx with e | hx
  · exact ⟨_, e, by decide +kernel⟩
  rcases List.mem_cons.mp hx with e | hx
  · exact ⟨_, e, by decide +kernel⟩
  · exact ⟨_, List.mem_singleton.mp hx, by decide +kernel⟩
/-! ### _law_great -/
def spGreat (n : Nat) : Sp := fun vs H Q _ => ∃ (f : Addr) (d : Nat), vs = [.ref f, .int (d : Int)] ∧ d + 1 ≤ n ∧ FeedAt H f ∧ OutC f H (d + 1) Q
theorem ok_great {f ft fp : Addr} {fd dt dp : FuncData} {n : Nat} (F : Fun K "_law_great" "_law_great" sGreat f fd) (D : Draw P w K mg base ft fp dt dp)
    (S : FnOk P w K mg base CX0 (2 + n) f fd ["feed", "deep"] (spGreat n)) (bS : Binds K fd ["feed", "deep"] []) (mS : mg "_law_great" = some (.ref f)) : FnOk P w K mg base CX0 (2 + n + 1) f fd ["feed", "deep"] (spGreat (n + 1)) := by
  refine F.ok scGreat (fun vs H Q E h => ?_) (fun cdv A outer s H vs Q E hr h => ?_)
  · obtain ⟨a, d, rfl, _⟩ := h
    rfl
  obtain ⟨f, d, rfl, dn, hF, q⟩ := h
  have h1 : Room 1 _ := hr.mono (by omega)
  have h2 : Room 2 _ := hr.mono (by omega)
  refine ⟨_, pss_cons (ps_set (i := 2) scGreat.nd rfl (.inl rfl) (pe_call D.T h1 (by rfl) D.mT D.kT D.bT .nil pass0 (pa_cons (pv 0) (pa_cons pe_int pa_nil))))
    (pss_cons (ps_if (PW.pt (pw_or (pt_cmpR op_eq (pv 1) pe_int (nomark _)) (pw_or1 (pt_cmpR op_lt (pv 2) pe_int (nomark _)))))
      (pss_cons (ps_set (i := 3) scGreat.nd rfl (.inl rfl) (pe_lst (pa_cons (pe_op op_add (pe_op op_pow pe_int pe_int) (pe_call D.T h1 (by rfl) D.mT D.kT D.bT .nil pass0 (pa_cons (pv 0) (pa_cons pe_int pa_nil))))
        (pa_cons (pe_op op_sub (pe_op op_pow pe_int pe_int) pe_int) (pa_cons (pe_call D.T h1 (by rfl) D.mT D.kT D.bT .nil pass0 (pa_cons (pv 0) (pa_cons (pe_op op_pow pe_int pe_int) pa_nil))) pa_nil)))))
      (pss_one (ps_ret (pe_tup (pa_cons pe_str (pa_cons (pe_call D.Pk h2 (by rfl) D.mP D.kP D.bP .nil pass0 (pa_cons (pv 0) (pa_cons (pe_op op_cat (pe_lst (pa_cons pe_int (pa_cons pe_int (pa_cons (pe_call D.T h1 (by rfl) D.mT D.kT D.bT .nil pass0 (pa_cons (pv 0) (pa_cons pe_int pa_nil)))
        (pa_cons (pe_call D.T h1 (by rfl) D.mT D.kT D.bT .nil pass0 (pa_cons (pv 0) (pa_cons pe_int pa_nil))) pa_nil))))) (pv 3)) pa_nil))) pa_nil)))))) pss_nil)
    (pss_cons (ps_set (i := 4) scGreat.nd rfl (.inl rfl) (pe_call D.Pk h2 (by rfl) D.mP D.kP D.bP .nil pass0 (pa_cons (pv 0) (pa_cons (pe_lst (pa_cons pe_str (pa_cons pe_str (pa_cons pe_str pa_nil)))) pa_nil))))
    (pss_cons (ps_set (i := 5) scGreat.nd rfl (.inl rfl) (pe_call S hr (by rfl) mS F.kp bS .nil pass0 (pa_cons (pv 0) (pa_cons (pe_op op_sub (pv 1) pe_int) pa_nil))))
    (pss_cons (ps_if (pt_cmpR op_eq (pv 4) pe_str (nomark _)) (pss_one (ps_ret (pe_tup (pa_cons (pv 4) (pa_cons (pv 5) pa_nil))))) pss_nil)
    (pss_one (ps_ret (pe_tup (pa_cons (pv 4) (pa_cons (pv 5) (pa_cons (pe_call S hr (by rfl) mS F.kp bS .nil pass0 (pa_cons (pv 0) (pa_cons (pe_op op_sub (pv 1) pe_int) pa_nil))) pa_nil)))))))))), ?_⟩
  refine ⟨_, rfl, f, 7, rfl, by decide, by decide, hF, fun way H1 _ _ b1 hF1 => ?_⟩
  apply join (C := fun H2 => H2 = H1)
  · intro low
    refine ⟨_, rfl, rfl, _, rfl, ?_⟩
    refine ite2 (fun c => iteT (low H1 rfl)) (fun c => ?_)
    have dpos : 0 < d := by
      rcases Nat.eq_zero_or_pos d with e | e
      · exact absurd (show decide (V.int (d : Int) = V.int 0) = true from decide_eq_true (by rw [e]; rfl)) c
      · exact e
    refine ⟨_, rfl, _, _, rfl, rfl, _, rfl, ?_⟩
    refine ite2 (fun _ => low H1 rfl) (fun _ => ?_)
    have ed : (d : Int) - 1 = ((d - 1 : Nat) : Int) := by omega
    refine ⟨_, rfl, (by show 3 ≤ sizeLine; decide), fun g hg => ?_⟩
    refine ⟨f, g, _, rfl, hF1.ne hg, .inl (.inl upd_same), by decide, by decide, hF1.same (same_new hg), fun x hx H2 b2 hF2 => ?_⟩
    obtain ⟨wd, rfl, nw⟩ := words3 x hx
    have bb2 : But f H H2 := (b1.new hg).trans b2
    refine ⟨_, rfl, _, rfl, _, _, rfl, rfl, f, d - 1, (by show [V.ref f, V.int ((d : Int) - 1)] = _; rw [ed]), by omega, hF2, fun t1 v1 H3 m1 d1 a1 b3 hF3 => ?_⟩
    have bb3 := bb2.trans b3
    refine ⟨_, rfl, rfl, _, rfl, ?_⟩
    refine eqW (fun e => ?_) (fun ne => ?_)
    · subst e
      refine ⟨_, rfl, _, rfl, (by show 2 ≤ sizeLine; decide), fun p hp => ?_⟩
      exact q (.n1 "next" t1) _ _ ⟨rfl, m1⟩ (by show t1.deep + 1 ≤ d + 1; omega) ⟨p, v1, rfl, upd_same, a1.keep (tups_same (same_new hp))⟩ (bb3.new hp) (hF3.same (same_new hp))
    · refine ⟨_, rfl, _, rfl, _, rfl, _, rfl, _, _, rfl, rfl, f, d - 1, (by show [V.ref f, V.int ((d : Int) - 1)] = _; rw [ed]), by omega, hF3, fun t2 v2 H4 m2 d2 a2 b4 hF4 => ?_⟩
      refine ⟨(by show 3 ≤ sizeLine; decide), fun p hp => ?_⟩
      have k1 : At H4 t1 v1 := a1.keep (hF3.tups b4)
      exact q (.n2 wd t1 t2) _ _ ⟨nw ne, m1, m2⟩ (by show max t1.deep t2.deep + 1 ≤ d + 1; omega) ⟨p, v1, v2, rfl, upd_same, k1.keep (tups_same (same_new hp)), a2.keep (tups_same (same_new hp))⟩ ((bb3.trans b4).new hp) (hF4.same (same_new hp))
  · intro Hx e
    have e2 := e.symm
    subst e2
    refine ⟨_, _, rfl, rfl, ⟨by decide, by decide, by decide⟩, _, rfl, f, 9, rfl, by decide, by decide, hF1, fun k H2 k0 k1 b2 hF2 => ?_⟩
    refine ⟨_, _, rfl, rfl, _, _, rfl, rfl, ⟨by decide, by decide, by decide⟩, _, _, rfl, rfl, _, rfl, _, _, rfl, rfl, ⟨by decide, by decide, by decide⟩, f, _, rfl, by decide, by decide +kernel, hF2, fun k2 H3 k20 k21 b3 hF3 => ?_⟩
    refine ⟨(by show 3 ≤ sizeLine; decide), fun g ng => ?_⟩
    have ngf := hF3.ne ng
    have hF3' : FeedAt (upd H3 g (.lst [.int (10 ^ (59 : Int).toNat + k), .int (10 ^ (60 : Int).toNat - 1), .int k2])) f := hF3.same (same_new ng)
    refine ⟨_, rfl, _, rfl, f, 4, rfl, by decide, by decide, hF3', fun j1 H4 j10 j11 b4 hF4 => ?_⟩
    refine ⟨_, rfl, f, 4, rfl, by decide, by decide, hF4, fun j2 H5 j20 j21 b5 hF5 => ?_⟩
    refine ⟨(by show 4 ≤ sizeLine; decide), fun g2 ng2 => ?_⟩
    have hg5 : H5 g = some (.lst [.int (10 ^ (59 : Int).toNat + k), .int (10 ^ (60 : Int).toNat - 1), .int k2]) := b5 _ _ ngf (b4 _ _ ngf upd_same)
    have hg6 : (upd H5 g2 (.lst [.int 0, .int 1, .int j1, .int j2])) g = some (.lst [.int (10 ^ (59 : Int).toNat + k), .int (10 ^ (60 : Int).toNat - 1), .int k2]) := (same_new ng2) _ _ hg5
    refine ⟨_, rfl, g2, g, _, _, rfl, rfl, upd_same, hg6, (by show 4 + 3 ≤ sizeLine; decide), fun p np => ?_⟩
    have hF6 : FeedAt (upd H5 g2 (.lst [.int 0, .int 1, .int j1, .int j2])) f := hF5.same (same_new ng2)
    have bb : But f H (upd H5 g2 (.lst [.int 0, .int 1, .int j1, .int j2])) := ((((b1.trans b2).trans b3).new ng).trans b4 |>.trans b5).new ng2
    refine ⟨f, p, _, rfl, hF6.ne np, .inl (.inl upd_same), (by show 0 < 7; decide), (by show 7 ≤ 1000; decide), hF6.same (same_new np), fun x hx H7 b7 hF7 => ?_⟩
    have nm : ∃ n : Int, x = .int n ∧ 0 ≤ n ∧ n < 10 ^ 60 := by
      have kk : k < 9 := k1
      have kk2 : k2 < 10 ^ 30 := k21
      have jj1 : j1 < 4 := j11
      have jj2 : j2 < 4 := j21
      have hx : x ∈ ([.int 0, .int 1, .int j1, .int j2, .int (10 ^ (59 : Int).toNat + k), .int (10 ^ (60 : Int).toNat - 1), .int k2] : List V) := hx
      rcases List.mem_cons.mp hx with e | hx
      · exact ⟨0, e, by decide, by decide⟩
      rcases List.mem_cons.mp hx with e | hx
      · exact ⟨1, e, by decide, by decide⟩
      rcases List.mem_cons.mp hx with e | hx
      · exact ⟨j1, e, j10, by omega⟩
      rcases List.mem_cons.mp hx with e | hx
      · exact ⟨j2, e, j20, by omega⟩
      rcases List.mem_cons.mp hx with e | hx
      · refine ⟨_, e, ?_, ?_⟩
        · show (0 : Int) ≤ 10 ^ 59 + k
          omega
        · show (10 : Int) ^ 59 + k < 10 ^ 60
          omega
      rcases List.mem_cons.mp hx with e | hx
      · exact ⟨_, e, by decide, by decide⟩
      · exact ⟨k2, List.mem_singleton.mp hx, k20, by omega⟩
    obtain ⟨n, rfl, n0, n1⟩ := nm
    refine ⟨(by show 2 ≤ sizeLine; decide), fun p2 hp2 => ?_⟩
    exact q (.leaf "num" (.int n)) _ _ ⟨rfl, n, rfl, n0, n1⟩ (by show 1 ≤ d + 1; omega) ⟨p2, rfl, upd_same⟩ (((bb.new np).trans b7).new hp2) (hF7.same (same_new hp2))
theorem ok_greats {f ft fp : Addr} {fd dt dp : FuncData} (F : Fun K "_law_great" "_law_great" sGreat f fd) (D : Draw P w K mg base ft fp dt dp) (bS : Binds K fd ["feed", "deep"] []) (mS : mg "_law_great" = some (.ref f)) : ∀ n : Nat, FnOk P w K mg base CX0 (2 + n) f fd ["feed", "deep"] (spGreat n)
  | 0 => no_calls fun vs H Q E h => by
    obtain ⟨a, d, _, dn, _⟩ := h
    omega
  | n + 1 => ok_great F D (ok_greats F D bS mS n) bS mS
/-! ### _law_flat -/
def spFlat (n : Nat) : Sp := fun vs H Q _ => ∃ (f : Addr) (d : Nat) (g : Int), vs = [.ref f, .int (d : Int), .int g] ∧ d + 1 ≤ n ∧ 0 < g ∧ g ≤ 1000 ∧ FeedAt H f ∧ OutF f H (d + 4) Q
theorem ok_flat {f ft fp fg : Addr} {fd dt dp dg : FuncData} {n : Nat} (F : Fun K "_law_flat" "_law_flat" sFlat f fd) (D : Draw P w K mg base ft fp dt dp)
    (M : FnOk P w K mg base CX0 5 fg dg ["feed", "deep"] (spGreat 3)) (bM : Binds K dg ["feed", "deep"] []) (kM : PySem.W.keepIn K (.ref fg) = true) (mM : mg "_law_great" = some (.ref fg))
    (S : FnOk P w K mg base CX0 (5 + n) f fd ["feed", "deep", "great"] (spFlat n)) (bS : Binds K fd ["feed", "deep", "great"] []) (mS : mg "_law_flat" = some (.ref f)) : FnOk P w K mg base CX0 (5 + n + 1) f fd ["feed", "deep", "great"] (spFlat (n + 1)) := by
  refine F.ok scFlat (fun vs H Q E h => ?_) (fun cdv A outer s H vs Q E hr h => ?_)
  · obtain ⟨a, d, g, rfl, _⟩ := h
    rfl
  obtain ⟨f, d, gr, rfl, dn, g0, g1, hF, q⟩ := h
  have h1 : Room 1 _ := hr.mono (by omega)
  have h2 : Room 2 _ := hr.mono (by omega)
  have h5 : Room 5 _ := hr.mono (by omega)
  refine ⟨_, pss_cons (ps_set (i := 3) scFlat.nd rfl (.inl rfl) (pe_call D.T h1 (by rfl) D.mT D.kT D.bT .nil pass0 (pa_cons (pv 0) (pa_cons pe_int pa_nil))))
    (pss_cons (ps_if (PW.pt (pw_or (pt_cmpR op_eq (pv 1) pe_int (nomark _)) (pw_or1 (pt_cmpR op_lt (pv 3) pe_int (nomark _)))))
      (pss_cons (ps_if (pt_cmpR op_eq (pv 3) pe_int (nomark _)) (pss_one (ps_ret (pe_tup (pa_cons pe_str pa_nil)))) pss_nil)
      (pss_cons (ps_set (i := 4) scFlat.nd rfl (.inl rfl) (pe_tup (pa_cons pe_str (pa_cons (pe_tup (pa_cons pe_str (pa_cons (pe_call D.T h1 (by rfl) D.mT D.kT D.bT .nil pass0 (pa_cons (pv 0) (pa_cons pe_int pa_nil))) pa_nil))) (pa_cons (pe_tup (pa_cons pe_str (pa_cons pe_int pa_nil))) pa_nil)))))
      (pss_cons (ps_if (pt_cmpR op_eq (pe_call D.T h1 (by rfl) D.mT D.kT D.bT .nil pass0 (pa_cons (pv 0) (pa_cons (pv 2) pa_nil))) pe_int (nomark _)) (pss_one (ps_set (i := 4) scFlat.nd rfl (.inl rfl) (pe_call M h5 (by rfl) mM kM bM .nil pass0 (pa_cons (pv 0) (pa_cons pe_int pa_nil))))) pss_nil)
      (pss_cons (ps_set (i := 5) scFlat.nd rfl (.inl rfl) (pe_tup (pa_cons pe_str (pa_cons (pe_call D.T h1 (by rfl) D.mT D.kT D.bT .nil pass0 (pa_cons (pv 0) (pa_cons pe_int pa_nil))) pa_nil))))
      (pss_one (ps_ret (pe_tup (pa_cons pe_str (pa_cons (pv 4) (pa_cons (pe_call D.Pk h2 (by rfl) D.mP D.kP D.bP .nil pass0 (pa_cons (pv 0) (pa_cons (pe_lst (pa_cons (pv 4) (pa_cons (pv 5) (pa_cons (pe_tup (pa_cons pe_str (pa_cons (pv 5) pa_nil))) pa_nil)))) pa_nil))) pa_nil)))))))))) pss_nil)
    (pss_cons (ps_set (i := 6) scFlat.nd rfl (.inl rfl) (pe_call D.Pk h2 (by rfl) D.mP D.kP D.bP .nil pass0 (pa_cons (pv 0) (pa_cons (pe_lst (pa_cons pe_str (pa_cons pe_str (pa_cons pe_str pa_nil)))) pa_nil))))
    (pss_one (ps_ret (pe_tup (pa_cons (pv 6) (pa_cons (pe_call S hr (by rfl) mS F.kp bS .nil pass0 (pa_cons (pv 0) (pa_cons (pe_op op_sub (pv 1) pe_int) (pa_cons (pv 2) pa_nil))))
      (pa_cons (pe_call S hr (by rfl) mS F.kp bS .nil pass0 (pa_cons (pv 0) (pa_cons (pe_op op_sub (pv 1) pe_int) (pa_cons (pv 2) pa_nil)))) pa_nil)))))))), ?_⟩
  refine ⟨_, rfl, f, 7, rfl, by decide, by decide, hF, fun way H1 _ _ b1 hF1 => ?_⟩
  apply join (C := fun H2 => H2 = H1)
  · intro low
    refine ⟨_, rfl, rfl, _, rfl, ?_⟩
    refine ite2 (fun c => iteT (low H1 rfl)) (fun c => ?_)
    have dpos : 0 < d := by
      rcases Nat.eq_zero_or_pos d with e | e
      · exact absurd (show decide (V.int (d : Int) = V.int 0) = true from decide_eq_true (by rw [e]; rfl)) c
      · exact e
    refine ⟨_, rfl, _, _, rfl, rfl, _, rfl, ?_⟩
    refine ite2 (fun _ => low H1 rfl) (fun _ => ?_)
    have ed : (d : Int) - 1 = ((d - 1 : Nat) : Int) := by omega
    refine ⟨_, rfl, (by show 3 ≤ sizeLine; decide), fun g hg => ?_⟩
    refine ⟨f, g, _, rfl, hF1.ne hg, .inl (.inl upd_same), by decide, by decide, hF1.same (same_new hg), fun x hx H3 b3 hF3 => ?_⟩
    obtain ⟨wd, rfl, nw⟩ := wordsC x hx
    have bb3 := (b1.new hg).trans b3
    refine ⟨_, rfl, _, rfl, _, rfl, _, _, rfl, rfl, _, rfl, f, d - 1, gr, (by show [V.ref f, V.int ((d : Int) - 1), V.int gr] = _; rw [ed]), by omega, g0, g1, hF3, fun t1 v1 H4 m1 d1 a1 b4 hF4 => ?_⟩
    have bb4 := bb3.trans b4
    refine ⟨_, rfl, _, rfl, _, _, rfl, rfl, _, rfl, f, d - 1, gr, (by show [V.ref f, V.int ((d : Int) - 1), V.int gr] = _; rw [ed]), by omega, g0, g1, hF4, fun t2 v2 H5 m2 d2 a2 b5 hF5 => ?_⟩
    refine ⟨(by show 3 ≤ sizeLine; decide), fun p hp => ?_⟩
    have k1 : At H5 t1 v1 := a1.keep (hF4.tups b5)
    exact q (.n2 wd t1 t2) _ _ (.inr ⟨nw, m1, m2⟩) (by show max t1.deep t2.deep + 1 ≤ d + 4; omega) ⟨p, v1, v2, rfl, upd_same, k1.keep (tups_same (same_new hp)), a2.keep (tups_same (same_new hp))⟩ ((bb4.trans b5).new hp) (hF5.same (same_new hp))
  · intro Hx e
    have e2 := e.symm
    subst e2
    refine ⟨_, rfl, rfl, _, rfl, ?_⟩
    refine ite2 (fun _ => ?_) (fun _ => ?_)
    · refine ⟨(by show 1 ≤ sizeLine; decide), fun p hp => ?_⟩
      exact q (.n0 "no") _ _ rfl (by show 1 ≤ d + 4; omega) ⟨p, rfl, upd_same⟩ (b1.new hp) (hF1.same (same_new hp))
    refine ⟨_, rfl, f, 3, rfl, by decide, by decide, hF1, fun k H2 k0 k1 b2 hF2 => ⟨(by show 2 ≤ sizeLine; decide), fun p1 n1 => ⟨(by show 2 ≤ sizeLine; decide), fun p2 n2 => ⟨(by show 3 ≤ sizeLine; decide), fun p3 n3 => ?_⟩⟩⟩⟩
    have s1 : Same H2 (upd H2 p1 (.tup [.str "num", .int k])) := same_new n1
    have s2 := same_put (o := .tup [.str "num", .int 1]) s1 n2
    have s3 := same_put (o := .tup [.str "plus", .ref p1, .ref p2]) s2 n3
    have hp1 := (same_new (o := .tup [.str "plus", .ref p1, .ref p2]) n3) _ _ ((same_new (o := .tup [.str "num", .int 1]) n2) _ _ (show (upd H2 p1 (.tup [.str "num", .int k])) p1 = _ from upd_same))
    have hp2 := (same_new (o := .tup [.str "plus", .ref p1, .ref p2]) n3) _ _ (show (upd (upd H2 p1 (.tup [.str "num", .int k])) p2 (.tup [.str "num", .int 1])) p2 = _ from upd_same)
    have kk : k < 3 := k1
    have clA : (Tr.n2 "plus" (.leaf "num" (.int k)) (.leaf "num" (.int 1))).Cl := ⟨.inl rfl, ⟨rfl, k, rfl, k0, by omega⟩, ⟨rfl, 1, rfl, by decide, by decide⟩⟩
    have atA : At (upd (upd (upd H2 p1 (.tup [.str "num", .int k])) p2 (.tup [.str "num", .int 1])) p3 (.tup [.str "plus", .ref p1, .ref p2])) (.n2 "plus" (.leaf "num" (.int k)) (.leaf "num" (.int 1))) (.ref p3) := ⟨p3, _, _, rfl, upd_same, ⟨p1, rfl, hp1⟩, ⟨p2, rfl, hp2⟩⟩
    have b12 : But f H (upd (upd (upd H2 p1 (.tup [.str "num", .int k])) p2 (.tup [.str "num", .int 1])) p3 (.tup [.str "plus", .ref p1, .ref p2])) := (b1.trans b2).trans (but_same s3)
    have hF3 := hF2.same s3
    generalize upd (upd (upd H2 p1 (.tup [.str "num", .int k])) p2 (.tup [.str "num", .int 1])) p3 (.tup [.str "plus", .ref p1, .ref p2]) = X at hp1 hp2 atA b12 hF3 s3
    clear hp1 hp2 s1 s2 s3
    refine ⟨_, rfl, _, rfl, f, gr, rfl, g0, few1000 g0 g1, hF3, fun k2 Y _ _ bY hFY => ?_⟩
    apply joinS (C := fun σ Z => ∃ (t : Tr) (v : V) (y5 y6 : Option V), σ = [some (.ref f), some (.int (d : Int)), some (.int gr), some (.int way), some v, y5, y6] ∧ t.Cl ∧ t.deep ≤ 3 ∧ At Z t v ∧ But f H Z ∧ FeedAt Z f)
    · intro rest
      refine ⟨rfl, _, rfl, ?_⟩
      refine ite2 (fun _ => ?_) (fun _ => ?_)
      · refine ⟨_, rfl, f, 2, rfl, by decide, hFY, fun t v Z cl dp a bZ hFZ => ?_⟩
        dsimp only [gName, List.set]
        exact rest _ Z ⟨t, v, _, _, rfl, cl, dp, a, (b12.trans bY).trans bZ, hFZ⟩
      · dsimp only [gName, List.set]
        exact rest _ Y ⟨_, _, _, _, rfl, clA, (by show 2 ≤ 3; decide), atA.keep (hF3.tups bY), b12.trans bY, hFY⟩
    · rintro σ Z ⟨t, v, y5, y6, rfl, cl, dp, aZ, bZ, hFZ⟩
      refine ⟨_, rfl, f, 4, rfl, by decide, by decide, hFZ, fun j H4 j0 j1 b4 hF4 => ⟨(by show 2 ≤ sizeLine; decide), fun p4 n4 => ?_⟩⟩
      have s4 : Same H4 (upd H4 p4 (.tup [.str "num", .int j])) := same_new n4
      have a4 := (aZ.keep (hFZ.tups b4)).keep (tups_same s4)
      have jj : j < 4 := j1
      have clJ : (Tr.leaf "num" (.int j)).Cl := ⟨rfl, j, rfl, j0, by omega⟩
      have atJ : At (upd H4 p4 (.tup [.str "num", .int j])) (.leaf "num" (.int j)) (.ref p4) := ⟨p4, rfl, upd_same⟩
      have bb4 : But f H (upd H4 p4 (.tup [.str "num", .int j])) := (bZ.trans b4).trans (but_same s4)
      have hF5 := hF4.same s4
      generalize upd H4 p4 (.tup [.str "num", .int j]) = X5 at a4 atJ bb4 hF5
      refine ⟨_, rfl, _, rfl, _, rfl, _, rfl, _, rfl, (by show 2 ≤ sizeLine; decide), fun p5 n5 => ⟨(by show 3 ≤ sizeLine; decide), fun g hg => ?_⟩⟩
      have s5 : Same X5 (upd X5 p5 (.tup [.str "next", .ref p4])) := same_new n5
      have s6 := same_put (o := .lst [v, .ref p4, .ref p5]) s5 hg
      have hp5 := (same_new (o := .lst [v, .ref p4, .ref p5]) hg) _ _ (show (upd X5 p5 (.tup [.str "next", .ref p4])) p5 = _ from upd_same)
      have hgg : (upd (upd X5 p5 (.tup [.str "next", .ref p4])) g (.lst [v, .ref p4, .ref p5])) g = some (.lst [v, .ref p4, .ref p5]) := upd_same
      have ngf : g ≠ f := fun z => by
        have q2 := (hF5.same s5).ne hg
        exact q2 z
      generalize upd (upd X5 p5 (.tup [.str "next", .ref p4])) g (.lst [v, .ref p4, .ref p5]) = X6 at s6 hp5 hgg
      have hF6 := hF5.same s6
      refine ⟨f, g, _, rfl, ngf, .inl (.inl hgg), (by show 0 < 3; decide), (by show 3 ≤ 1000; decide), hF6, fun x hx H7 b7 hF7 => ?_⟩
      have k7 := (tups_same s6).trans (hF6.tups b7)
      have one : ∃ t3 : Tr, t3.Cl ∧ t3.deep ≤ 3 ∧ At H7 t3 x := by
        rcases List.mem_cons.mp hx with e | hx
        · exact ⟨t, cl, dp, by rw [e]; exact a4.keep k7⟩
        rcases List.mem_cons.mp hx with e | hx
        · exact ⟨_, clJ, (by show 1 ≤ 3; decide), by rw [e]; exact atJ.keep k7⟩
        · rw [List.mem_singleton.mp hx]
          exact ⟨.n1 "next" (.leaf "num" (.int j)), ⟨rfl, clJ⟩, (by show 2 ≤ 3; decide), p5, .ref p4, rfl, (hF6.tups b7) _ _ hp5, atJ.keep k7⟩
      obtain ⟨t3, c3, d3, a3⟩ := one
      refine ⟨(by show 3 ≤ sizeLine; decide), fun p hp => ?_⟩
      exact q (.n2 "same" t t3) _ _ (.inl ⟨rfl, cl, c3⟩) (by show max t.deep t3.deep + 1 ≤ d + 4; omega) ⟨p, v, x, rfl, upd_same, (a4.keep k7).keep (tups_same (same_new hp)), a3.keep (tups_same (same_new hp))⟩ (((bb4.trans (but_same s6)).trans b7).new hp) (hF7.same (same_new hp))
theorem ok_flats {f ft fp fg : Addr} {fd dt dp dg : FuncData} (F : Fun K "_law_flat" "_law_flat" sFlat f fd) (D : Draw P w K mg base ft fp dt dp)
    (M : FnOk P w K mg base CX0 5 fg dg ["feed", "deep"] (spGreat 3)) (bM : Binds K dg ["feed", "deep"] []) (kM : PySem.W.keepIn K (.ref fg) = true) (mM : mg "_law_great" = some (.ref fg)) (bS : Binds K fd ["feed", "deep", "great"] []) (mS : mg "_law_flat" = some (.ref f)) :
    ∀ n : Nat, FnOk P w K mg base CX0 (5 + n) f fd ["feed", "deep", "great"] (spFlat n)
  | 0 => no_calls fun vs H Q E h => by
    obtain ⟨a, d, g, _, dn, _⟩ := h
    omega
  | n + 1 => ok_flat F D M bM kM mM (ok_flats F D M bM kM mM bS mS n) bS mS
end
end Kf
set_option Elab.async false
set_option linter.all false
set_option maxRecDepth 100000
set_option maxHeartbeats 4000000
set_option pp.maxSteps 400
/-! k41: is_true. -/
namespace Kf
open PySem PySem.Spec PyProof.Rows L2 Sx
abbrev sTrue : Stmt := top 14
abbrev trueN : List Str := ["saying", "done", "piece", "_", "left", "right"]
theorem scTrue : FnScope trueN ["saying"] (defScope sTrue) := ⟨rfl, rfl, rfl, by decide +kernel, rfl, by decide +kernel, by decide +kernel⟩
def v0 : Str → Int := fun _ => 0
/-- the truth, or none where a term is too great -/
def tru : Tr → Option Bool
  | .n0 _ => some false
  | .n2 w a b => if w = "same" then (wt v0 a).bind fun m => (wt v0 b).bind fun n => some (decide (m = n)) else (tru a).bind fun p => (tru b).bind fun q => some (if w = "and" then p && q else q || !p)
  | _ => none
def RunsT (res : Option Bool) : List (Tr × Nat) → List Bool → Prop
  | [], st => ∃ b, res = some b ∧ st = [b]
  | (.leaf _ _, _) :: es, st => RunsT res es st
  | (.n0 _, _) :: es, st => RunsT res es (st ++ [false])
  | (.n1 _ _, _) :: es, st => RunsT res es st
  | (.n2 w a b, _) :: es, st =>
    if w = "same" then (∀ m n, wt v0 a = some m → wt v0 b = some n → RunsT res es (st ++ [decide (m = n)])) ∧ (wt v0 a = none ∨ wt v0 b = none → res = none)
    else if w = "plus" ∨ w = "times" then RunsT res es st
    else ∃ s0 p q, st = s0 ++ [p] ++ [q] ∧ RunsT res es (s0 ++ [if w = "and" then p && q else q || !p])
theorem runsT_term {res : Option Bool} : ∀ (t : Tr) (r : Nat) (es : List (Tr × Nat)) (st : List Bool), t.Cl → RunsT res es st → RunsT res (t.post r ++ es) st
  | .leaf w x, r, es, st, cl, h => h
  | .n0 w, r, es, st, cl, h => cl.elim
  | .n1 w a, r, es, st, cl, h => by
    show RunsT res (a.post _ ++ [(.n1 w a, r)] ++ es) st
    rw [List.append_assoc]
    exact runsT_term a _ _ _ cl.2 h
  | .n2 w a b, r, es, st, cl, h => by
    show RunsT res (a.post _ ++ b.post _ ++ [(.n2 w a b, r)] ++ es) st
    rw [List.append_assoc, List.append_assoc]
    refine runsT_term a _ _ _ cl.2.1 (runsT_term b _ _ _ cl.2.2 ?_)
    show RunsT res ((.n2 w a b, r) :: es) st
    unfold RunsT
    rw [if_neg (by rcases cl.1 with e | e <;> rw [e] <;> decide +kernel), if_pos cl.1]
    exact h
theorem runsT_post {res : Option Bool} : ∀ (t : Tr) (r : Nat) (es : List (Tr × Nat)) (st : List Bool), t.Fl → (∀ b, tru t = some b → RunsT res es (st ++ [b])) → (tru t = none → res = none) → RunsT res (t.post r ++ es) st
  | .leaf _ _, r, es, st, fl, yes, no => fl.elim
  | .n0 w, r, es, st, fl, yes, no => yes false rfl
  | .n1 _ _, r, es, st, fl, yes, no => fl.elim
  | .n2 w a b, r, es, st, .inl ⟨e, ca, cb⟩, yes, no => by
    subst e
    show RunsT res (a.post _ ++ b.post _ ++ [(.n2 "same" a b, r)] ++ es) st
    rw [List.append_assoc, List.append_assoc]
    refine runsT_term a _ _ _ ca (runsT_term b _ _ _ cb ?_)
    show RunsT res ((.n2 "same" a b, r) :: es) st
    unfold RunsT
    rw [if_pos rfl]
    have e : tru (.n2 "same" a b) = (wt v0 a).bind fun m => (wt v0 b).bind fun n => some (decide (m = n)) := if_pos rfl
    rw [e] at yes no
    refine ⟨fun m n em en => yes _ (by rw [em, en]; rfl), fun h => no ?_⟩
    rcases h with h | h
    · rw [h]
      rfl
    · rw [h]
      cases wt v0 a <;> rfl
  | .n2 w a b, r, es, st, .inr ⟨e, fa, fb⟩, yes, no => by
    have ns : ¬ w = "same" := by rcases e with e | e <;> rw [e] <;> decide +kernel
    have np : ¬ (w = "plus" ∨ w = "times") := by rcases e with e | e <;> rw [e] <;> decide +kernel
    have et : tru (.n2 w a b) = (tru a).bind fun p => (tru b).bind fun q => some (if w = "and" then p && q else q || !p) := if_neg ns
    rw [et] at yes no
    show RunsT res (a.post _ ++ b.post _ ++ [(.n2 w a b, r)] ++ es) st
    rw [List.append_assoc, List.append_assoc]
    refine runsT_post a _ _ _ fa (fun p ep => runsT_post b _ _ _ fb (fun q eq => ?_) fun eq => no (by rw [ep, eq]; rfl)) fun ep => no (by rw [ep]; rfl)
    show RunsT res ((.n2 w a b, r) :: es) _
    unfold RunsT
    rw [if_neg ns, if_neg np]
    exact ⟨st, p, q, rfl, yes _ (by rw [ep, eq]; rfl)⟩
/-- what stands among the pieces of a flat saying -/
def Fine (t : Tr) : Prop := t.Cl ∨ t.Fl
theorem fine_ok {t : Tr} (h : Fine t) : t.Ok := h.elim cl_ok fl_ok
theorem post_cl : ∀ (t : Tr) (r : Nat), t.Cl → ∀ e ∈ t.post r, e.1.Cl
  | .leaf w x, r, h, e, he => by rw [List.mem_singleton.mp he]; exact h
  | .n0 _, r, h, e, he => h.elim
  | .n1 w a, r, h, e, he => by
    rcases List.mem_append.mp he with z | z
    · exact post_cl a _ h.2 e z
    · rw [List.mem_singleton.mp z]
      exact h
  | .n2 w a b, r, h, e, he => by
    rcases List.mem_append.mp he with z | z
    · rcases List.mem_append.mp z with z | z
      · exact post_cl a _ h.2.1 e z
      · exact post_cl b _ h.2.2 e z
    · rw [List.mem_singleton.mp z]
      exact h
theorem post_fine : ∀ (t : Tr) (r : Nat), t.Fl → ∀ e ∈ t.post r, Fine e.1 ∧ e.1.deep ≤ t.deep
  | .leaf _ _, r, h, e, he => h.elim
  | .n0 w, r, h, e, he => by
    rw [List.mem_singleton.mp he]
    exact ⟨.inr h, Nat.le_refl _⟩
  | .n1 _ _, r, h, e, he => h.elim
  | .n2 w a b, r, h, e, he => by
    have deepP : ∀ (t : Tr) (r : Nat), ∀ e ∈ t.post r, e.1.deep ≤ t.deep := by
      intro t
      induction t with
      | leaf w x =>
        intro r e he
        rw [List.mem_singleton.mp he]
        exact Nat.le_refl _
      | n0 w =>
        intro r e he
        rw [List.mem_singleton.mp he]
        exact Nat.le_refl _
      | n1 w a ih =>
        intro r e he
        rcases List.mem_append.mp he with z | z
        · exact Nat.le_succ_of_le (ih _ e z)
        · rw [List.mem_singleton.mp z]
          exact Nat.le_refl _
      | n2 w a b iha ihb =>
        intro r e he
        show e.1.deep ≤ max a.deep b.deep + 1
        rcases List.mem_append.mp he with z | z
        · rcases List.mem_append.mp z with z | z
          · have := iha _ e z
            omega
          · have := ihb _ e z
            omega
        · rw [List.mem_singleton.mp z]
          exact Nat.le_refl _
    refine ⟨?_, deepP (.n2 w a b) r e he⟩
    rcases List.mem_append.mp he with z | z
    · rcases h with ⟨ew, ca, cb⟩ | ⟨ew, fa, fb⟩
      · rcases List.mem_append.mp z with z | z
        · exact .inl (post_cl a _ ca e z)
        · exact .inl (post_cl b _ cb e z)
      · rcases List.mem_append.mp z with z | z
        · exact (post_fine a _ fa e z).1
        · exact (post_fine b _ fb e z).1
    · rw [List.mem_singleton.mp z]
      exact .inr h
theorem inV_strs (z : Str) : ∀ ys : List Str, inV (.str z) (ys.map V.str) = decide (z ∈ ys)
  | [] => by simp [inV]
  | y :: r => by
    have h := inV_strs z r
    unfold inV at h ⊢
    rw [List.map_cons, List.any_cons, h]
    have e1 : eqV (.str y) (.str z) = decide (y = z) := by
      unfold eqV
      rfl
    rw [e1]
    by_cases e : y = z
    · subst e
      simp
    · rw [decide_eq_false e, Bool.false_or]
      have e3 : z ≠ y := fun q => e q.symm
      simp [e3]
/-- a word among two -/
theorem inW {z a b : Str} {A B : Prop} (y : z = a ∨ z = b → A) (n : ¬ (z = a ∨ z = b) → B) : if inV (.str z) [.str a, .str b] = true then A else B := by
  rw [show inV (.str z) [.str a, .str b] = decide (z ∈ [a, b]) from inV_strs z [a, b]]
  refine ite2 (fun c => y ?_) (fun c => n fun q => c (decide_eq_true ?_))
  · simpa using of_decide_eq_true c
  · simpa using q
theorem joinV {C G : V → Hp → Prop} {M : Prop} (main : (∀ v H, C v H → G v H) → M) (rest : ∀ v H, C v H → G v H) : M := main rest
def spTrue (TM : Addr) : Sp := fun vs H Q E => ∃ (v1 : V) (t : Tr), vs = [v1] ∧ At H t v1 ∧ t.Fl ∧ t.deep ≤ 12 ∧ (∀ b H', tru t = some b → Same H H' → Q (.bl b) H') ∧ ∀ H', tru t = none → Same H H' → E (.ref TM) none H'
section
variable {P : Program} {w : World} {K : PySem.W.Frag} {mg : Str → Option Value} {base : Heap}
theorem ok_true {f gp gw TM : Addr} {fd dp dw : FuncData} (F : Fun K "is_true" "is_true" sTrue f fd) (G : FnOk P w K mg base CX0 2 gp dp ["thing"] spPieces) (bG : Binds K dp ["thing"] []) (kG : PySem.W.keepIn K (.ref gp) = true) (mG : mg "pieces_of" = some (.ref gp))
    (W : FnOk P w K mg base (L2.CX P w) 3 gw dw ["term", "numbers"] (spWorth TM)) (bW : Binds K dw ["term", "numbers"] []) (kW : PySem.W.keepIn K (.ref gw) = true) (mW : mg "worth" = some (.ref gw)) : FnOk P w K mg base (L2.CX P w) 4 f fd ["saying"] (spTrue TM) := by
  refine F.okX scTrue (fun vs H Q E h => ?_) (fun cdv A outer s H vs Q E hr h => ?_)
  · obtain ⟨v1, t, rfl, _⟩ := h
    rfl
  obtain ⟨v1, t, rfl, hA, hF, hd, qy, qn⟩ := h
  have h2 : Room 2 _ := hr.mono (by decide)
  have hO := fl_ok hF
  refine ⟨_, pss_cons (ps_set (i := 1) scTrue.nd rfl (.inl rfl) (pe_lst pa_nil))
    (pss_cons (ps_for (passes_of rfl) rfl (pi_list (pe_call G h2 (by rfl) mG kG bG .nil pass0 (pa_cons (pv 0) pa_nil))) (pg_tup (by rfl) (pgs_cons (pg_name (i := 2) scTrue.nd rfl (.inl rfl)) (pgs_cons (pg_name (i := 3) scTrue.nd rfl (.inl rfl)) pgs_nil)))
      (pss_one (ps_if (pt_cmpR op_eq (pe_ix ix_tup (pv 2) pe_int (fun _ _ => rfl)) pe_str (nomark _))
        (pss_cons (ps_set (i := 4) scTrue.nd rfl (.inl rfl) (pe_call (E := E) W hr (by rfl) mW kW bW .nil (passes_call (takes_of rfl rfl rfl rfl) fun _ _ _ _ z => z) (pa_cons (pe_ix ix_tup (pv 2) pe_int (fun _ _ => rfl)) (pa_cons pe_dnewK pa_nil))))
        (pss_one (ps_expr (pe_bm PySem.F.plainAttrs_list PySem.F.slot_list_append PySem.F.type_list_append mt_append (pv 1) (pa_cons (pe_cmpR op_eq (pv 4) (pe_call (E := E) W hr (by rfl) mW kW bW .nil (passes_call (takes_of rfl rfl rfl rfl) fun _ _ _ _ z => z) (pa_cons (pe_ix ix_tup (pv 2) pe_int (fun _ _ => rfl)) (pa_cons pe_dnewK pa_nil))) (nomark _)) pa_nil)))))
        (pss_one (ps_if (pt_cmpR op_eq (pe_ix ix_tup (pv 2) pe_int (fun _ _ => rfl)) pe_str (nomark _)) (pss_one (ps_expr (pe_bm PySem.F.plainAttrs_list PySem.F.slot_list_append PySem.F.type_list_append mt_append (pv 1) (pa_cons pe_bl pa_nil))))
          (pss_one (ps_if (pt_cmpR op_in_seq (pe_ix ix_tup (pv 2) pe_int (fun _ _ => rfl)) (pe_tup (pa_cons pe_str (pa_cons pe_str pa_nil))) (by rfl))
            (pss_cons (ps_set (i := 5) scTrue.nd rfl (.inl rfl) (pe_bm0 PySem.F.plainAttrs_list PySem.F.slot_list_pop PySem.F.type_list_pop mt_pop (pv 1)))
            (pss_cons (ps_set (i := 4) scTrue.nd rfl (.inl rfl) (pe_bm0 PySem.F.plainAttrs_list PySem.F.slot_list_pop PySem.F.type_list_pop mt_pop (pv 1)))
            (pss_one (ps_expr (pe_bm PySem.F.plainAttrs_list PySem.F.slot_list_append PySem.F.type_list_append mt_append (pv 1) (pa_cons (pe_ifExp (pt_cmpR op_eq (pe_ix ix_tup (pv 2) pe_int (fun _ _ => rfl)) pe_str (nomark _)) (pe_and (pv 4) (pe_one (pv 5))) (pe_or (pv 5) (pe_one (pe_not (pv 4))))) pa_nil))))))
            pss_nil)))))))
    (pss_one (ps_ret (pe_ix ix_list (pv 1) pe_int (fun _ _ => rfl))))), ?_⟩
  refine ⟨Nat.zero_le _, fun pd nd => ?_⟩
  have s1 : Same H (upd H pd (.lst [])) := same_new nd
  refine ⟨_, rfl, v1, t, rfl, hA.keep (tups_same s1), hO, hd, fun p H1 vf sm np hp rows => ?_⟩
  have hD1 : H1 pd = some (.lst []) := sm _ _ upd_same
  have npd : p ≠ pd := fun z => by
    rw [z, upd_same] at np
    cases np
  have lenP : vf.length ≤ 4096 := by
    have l1 := rows.len
    rw [post_len] at l1
    have l3 := size_deep t
    have l4 : 2 ^ t.deep ≤ 2 ^ 12 := Nat.pow_le_pow_right (by decide) hd
    omega
  have sH : ∀ {H' : Hp}, But pd H1 H' → Same H H' := fun b c u e => b c u (ne_of_none e nd) (sm _ _ (s1 _ _ e))
  refine ⟨p, rfl, ⟨_, .inl (.inl hp)⟩, for_list (K := K) (a := p) (xs := vf) (fun i σ H' => ∃ (st : List Bool) (y2 y3 y4 y5 : Option V), σ = [some v1, some (.ref pd), y2, y3, y4, y5] ∧ But pd H1 H' ∧ H' pd = some (.lst (st.map V.bl)) ∧ RunsT (tru t) ((t.post 0).drop i) st ∧ st.length ≤ i)
    ⟨[], none, none, none, none, rfl, But.refl _ _, hD1, ?_, Nat.le_refl _⟩ (fun i σ H' _ ⟨_, _, _, _, _, _, b, _⟩ => .inl (.inl (b _ _ npd hp))) ?_ ?_⟩
  · have z := runsT_post (res := tru t) t 0 [] [] hF (fun b e => ⟨b, e, rfl⟩) id
    rw [List.append_nil] at z
    exact z
  · rintro i y σ H' hy ⟨st, y2, y3, y4, y5, rfl, b, hD, runs, lst⟩
    obtain ⟨⟨t1, r1⟩, he, ⟨q1, x1, rfl, h1, a1⟩⟩ := rows.get hy
    have k1 : Tups H1 H' := b.tups hD1
    have a2 : At H' t1 x1 := At.keep k1 a1
    obtain ⟨fine1, dp1⟩ := post_fine t 0 hF (t1, r1) (List.mem_of_getElem? he)
    have il : i < (t.post 0).length := (List.getElem?_eq_some_iff.mp he).1
    have ed : (t.post 0).drop i = (t1, r1) :: (t.post 0).drop (i + 1) := by
      rw [List.drop_eq_getElem_cons il, (List.getElem?_eq_some_iff.mp he).2]
    rw [ed] at runs
    have lenI : i < vf.length := by rw [← rows.len]; exact il
    have line : ∀ st2 : List Bool, st2.length ≤ i → (st2.map V.bl).length < sizeLine := fun st2 h => line_of (by rw [List.length_map]; omega)
    obtain ⟨p1, us, rfl, hp1, lus, kids, leafs⟩ := a2.view (fine_ok fine1)
    refine ⟨q1, [.ref p1, .int (r1 : Int)], rfl, .inl (.inl (k1 _ _ h1)), rfl, .ref p1, [.int (r1 : Int)], rfl, .int (r1 : Int), [], rfl, rfl, ?_⟩
    refine ⟨_, rfl, p1, _, 0, _, rfl, rfl, .inl (.inl hp1), head_at _ _, rfl, _, rfl, ?_⟩
    -- the pieces of which nothing comes
    have skip : t1.word ≠ "no" → ¬ (t1.word = "and" ∨ t1.word = "if") → RunsT (tru t) ((t.post 0).drop (i + 1)) st →
        (∀ (D : Ends), (∀ X, Same H' X → ∃ (st2 : List Bool) (y2 y3 y4 y5 : Option V), [some v1, some (V.ref pd), some (V.ref p1), some (V.int (r1 : Int)), y4, y5] = [some v1, some (.ref pd), y2, y3, y4, y5] ∧ But pd H1 X ∧ X pd = some (.lst (st2.map V.bl)) ∧ RunsT (tru t) ((t.post 0).drop (i + 1)) st2 ∧ st2.length ≤ i + 1) → True) := fun _ _ _ _ _ => trivial
    clear skip
    refine eqW (fun e => ?_) (fun ns => ?_)
    · -- same
      have fl : ∃ a c, t1 = .n2 "same" a c ∧ a.Cl ∧ c.Cl := by
        rcases fine1 with h | h
        · cases t1 with
          | leaf w x =>
            have e2 : w = "num" := h.1
            have e : w = "same" := e
            rw [e2] at e
            exact absurd e (by decide +kernel)
          | n0 w => exact h.elim
          | n1 w a =>
            have e2 : w = "next" := h.1
            have e : w = "same" := e
            rw [e2] at e
            exact absurd e (by decide +kernel)
          | n2 w a c =>
            have e : w = "same" := e
            rw [e] at h
            exact absurd h.1 (by decide +kernel)
        · cases t1 with
          | leaf w x => exact h.elim
          | n0 w =>
            have e2 : w = "no" := h
            have e : w = "same" := e
            rw [e2] at e
            exact absurd e (by decide +kernel)
          | n1 w a => exact h.elim
          | n2 w a c =>
            have e : w = "same" := e
            subst e
            rcases h with ⟨_, h, g⟩ | ⟨e, _⟩
            · exact ⟨a, c, rfl, h, g⟩
            · exact absurd e (by decide +kernel)
      obtain ⟨ta, tc, rfl, ca, cc⟩ := fl
      obtain ⟨p0, ya, yc, ep, hp0, aa, ac⟩ := a2
      cases ep
      have dd : max ta.deep tc.deep + 1 ≤ t.deep := dp1
      unfold RunsT at runs
      rw [if_pos rfl] at runs
      obtain ⟨ry, rn⟩ := runs
      refine ⟨_, rfl, p1, _, 1, ya, rfl, rfl, .inl (.inl hp0), atI_nat (j := 1) rfl, fun d1 nd1 => ?_⟩
      have sd1 : Same H' (upd H' d1 (.dK [])) := same_new nd1
      refine ⟨ya, d1, ta, v0, [], rfl, aa.keep (tups_same sd1), cl_ok ca, cl_tm ca, by omega, upd_same, (fun z hz => by rw [cl_names ca] at hz; cases hz), (fun _ => Int.le_refl 0), fun m Ha em sa => ?_, fun Ha em sa => ?_⟩
      · have sA := sd1.trans sa
        refine ⟨_, rfl, .inl ⟨rfl, _, .inl (.inl (sA _ _ hD))⟩, _, rfl, _, rfl, p1, _, 2, yc, rfl, rfl, .inl (.inl (sA _ _ hp0)), atI_nat (j := 2) rfl, fun d2 nd2 => ?_⟩
        have sd2 := same_put (o := .dK []) sA nd2
        refine ⟨yc, d2, tc, v0, [], rfl, ac.keep (tups_same sd2), cl_ok cc, cl_tm cc, by omega, upd_same, (fun z hz => by rw [cl_names cc] at hz; cases hz), (fun _ => Int.le_refl 0), fun n Hb en sb => ?_, fun Hb en sb => ?_⟩
        · have sB := sd2.trans sb
          have bB : But pd H1 Hb := b.trans (but_same sB)
          refine ⟨rfl, pd, _, .bl (decide (V.int m = V.int n)), rfl, rfl, sB _ _ hD, line st lst, ?_⟩
          have e3 : decide (V.int m = V.int n) = decide (m = n) := decide_eq_decide.mpr ⟨fun z => by injection z, fun z => by rw [z]⟩
          refine ⟨st ++ [decide (m = n)], _, _, _, _, rfl, bB.own, by rw [upd_same, List.map_append, e3]; rfl, ry m n em en, ?_⟩
          rw [List.length_append, List.length_singleton]
          omega
        · exact qn Hb (rn (.inr en)) (sH (b.trans (but_same (sd2.trans sb))))
      · exact qn Ha (rn (.inl em)) (sH (b.trans (but_same (sd1.trans sa))))
    · refine ⟨_, rfl, p1, _, 0, _, rfl, rfl, .inl (.inl hp1), head_at _ _, rfl, _, rfl, ?_⟩
      refine eqW (fun e => ?_) (fun nn => ?_)
      · -- no
        have en : ∃ w, t1 = .n0 w := by
          rcases fine1 with h | h
          · cases t1 with
            | leaf w x =>
              have e2 : w = "num" := h.1
              have e : w = "no" := e
              rw [e2] at e
              exact absurd e (by decide +kernel)
            | n0 w => exact h.elim
            | n1 w a =>
              have e2 : w = "next" := h.1
              have e : w = "no" := e
              rw [e2] at e
              exact absurd e (by decide +kernel)
            | n2 w a c =>
              have e : w = "no" := e
              rw [e] at h
              exact absurd h.1 (by decide +kernel)
          · cases t1 with
            | leaf w x => exact h.elim
            | n0 w => exact ⟨w, rfl⟩
            | n1 w a => exact h.elim
            | n2 w a c =>
              have e : w = "no" := e
              rw [e] at h
              rcases h with ⟨z, _⟩ | ⟨z, _⟩ <;> exact absurd z (by decide +kernel)
        obtain ⟨w, rfl⟩ := en
        refine ⟨_, rfl, .inl ⟨rfl, _, .inl (.inl hD)⟩, pd, _, .bl false, rfl, rfl, hD, line st lst, ?_⟩
        refine ⟨st ++ [false], _, _, _, _, rfl, b.own, by rw [upd_same, List.map_append]; rfl, runs, ?_⟩
        rw [List.length_append, List.length_singleton]
        omega
      · refine ⟨_, rfl, p1, _, 0, _, rfl, rfl, .inl (.inl hp1), head_at _ _, (by show 2 ≤ sizeLine; decide), fun m nm => ?_⟩
        have sm2 : Same H' (upd H' m (.tup [.str "and", .str "if"])) := same_new nm
        refine ⟨m, [.str "and", .str "if"], rfl, .inr (.inl (.inl upd_same)), rfl, rfl, _, rfl, ?_⟩
        have hDm := sm2 _ _ hD
        have hpm := sm2 _ _ hp1
        have bm : But pd H1 (upd H' m (.tup [.str "and", .str "if"])) := b.trans (but_same sm2)
        generalize upd H' m (.tup [.str "and", .str "if"]) = X at hDm hpm bm sm2 ⊢
        refine inW (fun c => ?_) (fun c => ?_)
        · -- and, if
          have fl : ∃ w a e, t1 = .n2 w a e ∧ (w = "and" ∨ w = "if") := by
            cases t1 with
            | leaf w x =>
              rcases fine1 with h | h
              · have e2 : w = "num" := h.1
                have c : w = "and" ∨ w = "if" := c
                rw [e2] at c
                exact absurd c (by decide +kernel)
              · exact h.elim
            | n0 w =>
              rcases fine1 with h | h
              · exact h.elim
              · exact absurd h nn
            | n1 w a =>
              rcases fine1 with h | h
              · have e2 : w = "next" := h.1
                have c : w = "and" ∨ w = "if" := c
                rw [e2] at c
                exact absurd c (by decide +kernel)
              · exact h.elim
            | n2 w a e => exact ⟨w, a, e, rfl, c⟩
          obtain ⟨w, ta, tc, rfl, ew⟩ := fl
          have n1 : ¬ w = "same" := ns
          have n2 : ¬ (w = "plus" ∨ w = "times") := by rcases ew with e | e <;> rw [e] <;> decide +kernel
          unfold RunsT at runs
          rw [if_neg n1, if_neg n2] at runs
          obtain ⟨s0, a, c2, es, rest⟩ := runs
          subst es
          have hpop : ((s0 ++ [a] ++ [c2]).map V.bl)[((s0 ++ [a] ++ [c2]).map V.bl).length - 1]? = some (.bl c2) := by simp
          have hpop2 : ((s0 ++ [a]).map V.bl)[((s0 ++ [a]).map V.bl).length - 1]? = some (.bl a) := by simp
          refine ⟨_, rfl, .inl ⟨rfl, _, .inl (.inl hDm)⟩, pd, _, .bl c2, rfl, rfl, hDm, hpop, ?_⟩
          rw [show ((s0 ++ [a] ++ [c2]).map V.bl).dropLast = (s0 ++ [a]).map V.bl by simp]
          refine ⟨_, rfl, .inl ⟨rfl, _, .inl (.inl upd_same)⟩, pd, _, .bl a, rfl, rfl, upd_same, hpop2, ?_⟩
          rw [show ((s0 ++ [a]).map V.bl).dropLast = s0.map V.bl by simp]
          have b2 : But pd H1 (upd (upd X pd (.lst ((s0 ++ [a]).map V.bl))) pd (.lst (s0.map V.bl))) := bm.own.own
          have np1 : p1 ≠ pd := fun z => by
            rw [z, hDm] at hpm
            cases hpm
          have hp9 : (upd (upd X pd (.lst ((s0 ++ [a]).map V.bl))) pd (.lst (s0.map V.bl))) p1 = some (.tup (.str (Tr.n2 w ta tc).word :: us)) := by
            rw [upd_ne np1, upd_ne np1]
            exact hpm
          have ls : s0.length ≤ i := by
            rw [List.length_append, List.length_append, List.length_singleton, List.length_singleton] at lst
            omega
          have hD9 : (upd (upd X pd (.lst ((s0 ++ [a]).map V.bl))) pd (.lst (s0.map V.bl))) pd = some (.lst (s0.map V.bl)) := upd_same
          generalize upd (upd X pd (.lst ((s0 ++ [a]).map V.bl))) pd (.lst (s0.map V.bl)) = Y at b2 hp9 hD9 ⊢
          refine ⟨_, rfl, .inl ⟨rfl, _, .inl (.inl hD9)⟩, ?_⟩
          have fin : ∀ z : Bool, z = (if w = "and" then a && c2 else c2 || !a) → ∃ (st2 : List Bool) (y2 y3 y4 y5 : Option V), ([some v1, some (.ref pd), some (.ref p1), some (.int (r1 : Int)), some (.bl a), some (.bl c2)] : L2.St) = [some v1, some (.ref pd), y2, y3, y4, y5] ∧ But pd H1 (upd Y pd (.lst (s0.map V.bl ++ [.bl z]))) ∧ (upd Y pd (.lst (s0.map V.bl ++ [.bl z]))) pd = some (.lst (st2.map V.bl)) ∧ RunsT (tru t) ((t.post 0).drop (i + 1)) st2 ∧ st2.length ≤ i + 1 := fun z ez => by
            refine ⟨s0 ++ [z], _, _, _, _, rfl, b2.own, by rw [upd_same, List.map_append]; rfl, by rw [ez]; exact rest, ?_⟩
            rw [List.length_append, List.length_singleton]
            omega
          refine ⟨_, rfl, p1, _, 0, _, rfl, rfl, .inl (.inl hp9), head_at _ _, rfl, _, rfl, ?_⟩
          refine eqW (fun e => ?_) (fun ne => ?_)
          · rw [if_pos (show w = "and" from e)] at fin
            refine ⟨_, rfl, a, rfl, ?_⟩
            cases a with
            | true => exact iteT ⟨_, rfl, pd, _, .bl c2, rfl, rfl, hD9, line s0 ls, fin c2 rfl⟩
            | false => exact iteF ⟨pd, _, .bl false, rfl, rfl, hD9, line s0 ls, fin false rfl⟩
          · rw [if_neg (show ¬ w = "and" from ne)] at fin
            refine ⟨_, rfl, c2, rfl, ?_⟩
            cases c2 with
            | true => exact iteT ⟨pd, _, .bl true, rfl, rfl, hD9, line s0 ls, fin true rfl⟩
            | false => exact iteF ⟨_, rfl, a, rfl, pd, _, .bl (!a), rfl, rfl, hD9, line s0 ls, fin (!a) (by simp)⟩
        · -- a term's piece
          have runs2 : RunsT (tru t) ((t.post 0).drop (i + 1)) st := by
            cases t1 with
            | leaf w x => exact runs
            | n0 w =>
              rcases fine1 with h | h
              · exact h.elim
              · exact absurd h nn
            | n1 w a => exact runs
            | n2 w a e =>
              unfold RunsT at runs
              have n1 : ¬ w = "same" := ns
              rw [if_neg n1] at runs
              rcases fine1 with h | h
              · rw [if_pos h.1] at runs
                exact runs
              · rcases h with ⟨z, _⟩ | ⟨z, _⟩
                · exact absurd z n1
                · exact absurd z c
          exact ⟨st, _, _, _, _, rfl, bm, hDm, runs2, by omega⟩
  · rintro σ H' ⟨st, y2, y3, y4, y5, rfl, b, hD, runs, lst⟩
    rw [← rows.len, List.drop_length] at runs
    obtain ⟨n, en, rfl⟩ := runs
    refine ⟨_, rfl, pd, _, 0, _, rfl, rfl, .inl (.inl hD), atI_nat (j := 0) rfl, ?_⟩
    exact qy n _ en (sH b)
end
end Kf
set_option Elab.async false
set_option linter.all false
set_option maxRecDepth 100000
set_option maxHeartbeats 3900000
/-! A lambda with parameters and captured names, handed as the second of two to a def, called there. Its frame is begun as that of a def within a def. -/
namespace LmY
open PySem PySem.Spec PyProof.Rows L2 LamX NdefX
/-- the lambda as a def within the def of X, whose code object is k -/
abbrev lamF (X : Cx) (ar : Arguments) (sc : Scope) (k : Addr) : NF := ⟨"<lambda>", X.env.qual ++ "<lambda>", ar, [], sc, cloFrom X.env.cells sc.names [], k⟩
/-- where its body runs: its names are N -/
abbrev lamX (X : Cx) (N : List Str) (ar : Arguments) (sc : Scope) (fo k : Addr) (A : Around) (outer : List Env) (sh : Shared) (hp : Hp) : Cx := ncx L2.CX0 X.prog X.w X.K X.mg X.base N (lamF X ar sc k) fo A outer sh hp L2.E0
/-- where the def runs that got it, entered from X's frame -/
abbrev gotX (X : Cx) (Ng : List Str) (x : Str) (sg : Scope) (g : Addr) (cg : Value) (sh : Shared) (hp : Hp) : Cx := (cxOf L2.CX0 X.prog X.w X.K X.mg X.base Ng x sg g cg X.A X.stack sh hp L2.E0).nox
/-- cells that no def of the text writes hold what they held -/
theorem cells_stay {cl : List (Str × Addr)} {fr : List Str} {ws : List (Option V)} {g g2 : Heap} {hp hp2 : Hp} {fs : List Addr} (un : Un fs [] hp hp2 g g2) (cs : CellsAt cl fr ws g hp) : CellsAt cl fr ws g2 hp2 := by
  have still : ∀ a, hp a = none → ∀ val, g.IsCell a val → g2.IsCell a val := fun a off val ⟨ob, at1, dat⟩ => by
    obtain ⟨_, at2⟩ := un.any at1 off List.not_mem_nil
    exact ⟨_, at2, dat⟩
  refine ⟨cs.len, fun nm a e => ?_, cs.inj, fun j nm e => ?_⟩
  · obtain ⟨off, val, cell⟩ := cs.all nm a e
    obtain ⟨ob, at1, _⟩ := id cell
    exact ⟨un.free a ob at1 off List.not_mem_nil, val, still a off val cell⟩
  · obtain ⟨a, e1, has⟩ := cs.has j nm e
    refine ⟨a, e1, fun z ez => ?_⟩
    obtain ⟨u, rz, cell⟩ := has z ez
    exact ⟨u, rz, still a (cs.all nm a e1).1 _ cell⟩
section
variable {X : Cx} {pins : List (Addr × Obj)} {σ : L2.St} {H : Hp} {s : Shared}
/-- a call that ends without an exception, told to its caller -/
theorem land {fo : Addr} {us : List Value} {Q : VK} (I : Inv X pins σ H s) (run : codeAny (model X.prog X.w) X.A (.call (.ref fo) ⟨us, []⟩) (CR L2.CX0 X.stack X.prog X.w H s Q L2.E0) s) :
    wpAny (model X.prog X.w) X.A (call (.ref fo) us) (EP X pins σ Q) X.xe s :=
  wpAny_call (codeAny_mono run fun res s2 told => match res, told with
    | .ok (.ret _), told => I.after told
    | .ok .next, told => told.elim
    | .ok .brk, told => told.elim
    | .ok .cont, told => told.elim
    | .error _, told => (show False from told).elim)
/-- x(e, ..), in the def that got the lambda as x -/
theorem pe_lact {N ps fr Ng : List Str} {js : List Nat} {qg : Str} {sg : Scope} {g fo k : Addr} {cg pm ctv : Value} {ar : Arguments} {body : Expr} {sc : Scope} {m i : Nat} {a : Str} {tb : TE} {p1 p2 : Pos} {e : Expr} {es : List Expr} {t : TA}
    (I : Inv X pins σ H s) (S : NScope N ps fr sc) (cp : Caps X (cloFrom X.env.cells sc.names []) fr js)
    (at_ : s.heap.get? fo = some (PySem.W.kla_obj "<lambda>" (X.env.qual ++ "<lambda>") ar body sc (cloFrom X.env.cells sc.names []) pm k ctv)) (off : H fo = none) (noF : fo ∉ frs X.stack)
    (bind : ∀ us : List Value, us.length = ps.length → bindArgs (PySem.W.kla_fn "<lambda>" (X.env.qual ++ "<lambda>") ar body sc (cloFrom X.env.cells sc.names []) pm (.ref k) ctv) ⟨us, []⟩ = pure (ps.zip us))
    (room : Room (m + 1) (X.A.deeper (envOfC qg sg s.heap.objs.size g cg)))
    (inner : ∀ (A : Around) (outer : List Env) (sh : Shared) (hp : Hp), Room m (A.deeper (envF (lamF X ar sc k) fo sh.heap.objs.size)) → PE (lamX X N ar sc fo k A outer sh hp) body tb)
    (hN : Ng[i]? = some a) (hv : Vis sg a) (pa : PA (gotX X Ng qg sg g cg s H) (e :: es) t)
    (h1 : (a == ("__debug__" : Str)) = false := by decide) (h2 : (a == ("__classdict__" : Str)) = false := by decide)
    (h3 : starEach (e :: es) (envOfC qg sg s.heap.objs.size g cg) = (false, eval e (envOfC qg sg s.heap.objs.size g cg)) :: starEach es (envOfC qg sg s.heap.objs.size g cg) := by rfl)
    (h4 : (backTo p2 (starEach es (envOfC qg sg s.heap.objs.size g cg))).any (·.1) = false := by rfl) :
    PE (gotX X Ng qg sg g cg s H) (.Call (.Name a p1) (e :: es) [] p2)
      (fun σZ HZ Q => σZ[i]? = some (some (.ref fo)) ∧ t σZ HZ fun vs H1 => vs.length = ps.length ∧ H1 k = some (CodeO k (X.env.qual ++ "<lambda>")) ∧ tb (startF N vs (js.map (slotAt σ))) H1 Q) := by
  refine ⟨fun pinsZ sZ σZ HZ Q IZ ⟨slot, rest⟩ => ?_⟩
  have same : ∀ {pn : List (Addr × Obj)} {τ : L2.St} {hp : Hp} {sh : Shared}, Inv (gotX X Ng qg sg g cg s H) pn τ hp sh → sh.heap.get? fo = some (PySem.W.kla_obj "<lambda>" (X.env.qual ++ "<lambda>") ar body sc (cloFrom X.env.cells sc.names []) pm k ctv) :=
    fun J => J.base.keep fo _ at_ off noF List.not_mem_nil
  have name := (pe_var (X := gotX X Ng qg sg g cg s H) (pos := p1) (i := i) hN hv h1 h2).run pinsZ sZ σZ HZ (fun val hp => val = .ref fo ∧ hp = HZ) IZ ⟨.ref fo, slot, rfl, rfl⟩
  refine wpAny_Call_Name_kw (thn name fun val s1 ⟨_, _, I1, rel, ev, eh⟩ => ?_)
  subst ev eh
  cases (show val = Value.ref fo from rel)
  refine PySem.W.callWith_F (first := []) ⟨_, _, _, _, same I1⟩ (thn (pa.run p2 pinsZ s1 σZ _ _ I1 rest) fun us s2 ⟨vs, H2, I2, rv, len, code, ht⟩ => ⟨⟨_, _, _, _, same I2⟩, land (us := us) I2 ?_⟩) h3 h4
  obtain ⟨⟨oc, fields, tq, o1, o2, o3⟩, _, _⟩ := I2.hok k _ code
  refine PySem.W.kla_callFunE room.depth (same I2) rfl S.co S.gen rfl ⟨k, oc, fields, tq, rfl, o1, o2, o3⟩ ?_
  rw [bind us (rv.length.symm.trans len)]
  refine wpAny_pure (wpAny_newFunctionEnv (fun y hy => S.nocell y hy) (fun y hy => S.par y.1 (List.of_mem_zip hy).1) (fun g1 ns1 more => ⟨I2.nolimit.fresh _ more, ?_⟩) S.kind)
  have grown : ∀ b ob, s2.heap.get? b = some ob → g1.get? b = some ob := fun b ob eb => more.extBut b ob (Nat.ne_of_lt (Heap.lt_size eb)) (Heap.get?_push_of_some _ eb)
  have J := inv_startN (CX := L2.CX0) (E := L2.E0) (tk := s2.toks + (ps.zip us).length) (F := lamF X ar sc k) (f := fo) S room.hd I2.env0 len rv (cells_stay I2.base (cells_of I cp)) ns1 grown
  refine PySem.W.kla_codeExpr (wpAny_mono ((inner _ _ s2 H2 (room.deeper _)).run [] _ _ H2 Q J ht) (fun _ s3 ⟨w3, H3, J3, r3, q3⟩ => ?_) fun _ _ bad => bad)
  exact ⟨w3, H3, J3.os, J3.bare, J3.base, J3.hok, r3, q3⟩
end
/-- what the def that got the lambda makes of its calls: TT -/
def Gives2 (X : Cx) (Ng : List Str) (x : Str) (sg : Scope) (g : Addr) (cg : Value) (bg : List Stmt) (a : Str) (q : Str) (ps : List Str) (m : Nat) (TT : (List V → Hp → VK → Prop) → V → Hp → VK → Prop) : Prop :=
  ∀ (fo k : Addr) (s : Shared) (H : Hp) (v : V) (Q : VK) (tl : List V → Hp → VK → Prop),
    (∀ (p1 p2 : Pos) (e : Expr) (es : List Expr) (t : TA), PA (gotX X Ng x sg g cg s H) (e :: es) t →
      starEach (e :: es) (envOfC x sg s.heap.objs.size g cg) = (false, eval e (envOfC x sg s.heap.objs.size g cg)) :: starEach es (envOfC x sg s.heap.objs.size g cg) → (backTo p2 (starEach es (envOfC x sg s.heap.objs.size g cg))).any (·.1) = false →
      PE (gotX X Ng x sg g cg s H) (.Call (.Name a p1) (e :: es) [] p2) (fun σZ HZ Q => σZ[1]? = some (some (.ref fo)) ∧ t σZ HZ fun vs H1 => vs.length = ps.length ∧ H1 k = some (CodeO k q) ∧ tl vs H1 Q)) →
    Room (m + 1) (X.A.deeper (envOfC x sg s.heap.objs.size g cg)) → H k = some (CodeO k q) → TT tl v H Q →
    ∃ t, PSs (gotX X Ng x sg g cg s H) bg t ∧ t { nx := fun _ H' => Q .non H', rt := Q } (L2.start Ng [v, .ref fo]) H
def tLam2 (T : List (Addr × Str)) (N : List Str) (js : List Nat) (TT : (List V → Hp → VK → Prop) → V → Hp → VK → Prop) (te : TE) (t : TE) : TE := fun σ H Q => te σ H fun v H0 => Tabs T H0 ∧ ∀ H1, ExtN H0 H1 → Tabs T H1 → TT (fun vs H' Q' => t (startF N vs (js.map (slotAt σ))) H' Q') v H1 Q
section
variable {X : Cx}
/-- x(e, lambda ..: body) -/
theorem pe_lamcall2 {T : List (Addr × Str)} {TT : (List V → Hp → VK → Prop) → V → Hp → VK → Prop} {x a0 a : Str} {g c tab : Addr} {m : Nat} {pg : Arguments} {bg : List Stmt} {sg : Scope} {dV kV doc pm cdv ct oc : Value} {an od : Option Addr} {osl : Array (Option Value)} {N Ng ps fr : List Str} {js : List Nat}
    {ar : Arguments} {body e : Expr} {sc : Scope} {te t : TE} {p0 p1 p2 : Pos} (gx : Gl X x) (mx : X.mg x = some (.ref g)) (kx : PySem.W.keepIn X.K (.ref g) = true)
    (look : X.K.lookup g = some ⟨oc, od, .func (PySem.W.fnOf x x pg bg sg dV kV doc pm an cdv ct), osl⟩) (code : PySem.W.codeIn X.K cdv x = true) (bx : L2.Binds X.K (PySem.W.fnOf x x pg bg sg dV kV doc pm an cdv ct) [a0, a] []) (Sg : FnScope Ng [a0, a] sg) (second : Ng[1]? = some a) (seen : Vis sg a)
    (gives : Gives2 X Ng x sg g cdv bg a (X.env.qual ++ "<lambda>") ps m TT) (pe : PE X e te)
    (own : TabB X.base X.mg c tab) (mine : X.env.code = .ref c) (inT : (tab, X.env.qual ++ "<lambda>") ∈ T) (sole : ∀ p ∈ T, p.1 = tab → p.2 = X.env.qual ++ "<lambda>") (room : Room (m + 2) X.A)
    (S : NScope N ps fr sc) (held : ndefB X.env.scope sc fr = true) (slots : js.map (fun j => X.N[j]?) = fr.map some) (plain : defaultsOf ar X.env = ([], []))
    (bind : ∀ (q : Str) (cl : List (Str × Addr)) (pm cv ctv : Value) (us : List Value), us.length = ps.length → bindArgs (PySem.W.kla_fn "<lambda>" q ar body sc cl pm cv ctv) ⟨us, []⟩ = pure (ps.zip us))
    (inner : ∀ (A : Around) (outer : List Env) (sh : Shared) (hp : Hp) (fo k : Addr), Room m (A.deeper (envF (lamF X ar sc k) fo sh.heap.objs.size)) → PE (lamX X N ar sc fo k A outer sh hp) body t)
    (h0 : (x == ("__debug__" : Str)) = false := by decide) (h1 : (a == ("__debug__" : Str)) = false := by decide) (h2 : (a == ("__classdict__" : Str)) = false := by decide)
    (h3 : starEach (e :: [.Lambda ar body sc p1]) X.env = (false, eval e X.env) :: starEach [.Lambda ar body sc p1] X.env := by rfl) :
    PE X (.Call (.Name x p0) [e, .Lambda ar body sc p1] [] p2) (tLam2 T N js TT te t) := by
  refine ⟨fun pins s σ H Q I reading => wpAny_Call_Name_kw (ld_glob I gx mx (PySem.W.callWith_K (h₀ := X.base) I.ok.mod.kin kx ?_ h3 (by rfl)) h0)⟩
  rw [h3]
  show wpAny _ _ (spliced ((false, eval e X.env) :: backTo p2 (starEach [.Lambda ar body sc p1] X.env))) _ _ s
  refine Calls.spliced_cons (thn (pe.run pins s σ H _ I reading) fun u s0 ⟨v, H0, I0, r0, tabs0, later⟩ => ?_)
  show wpAny _ _ (spliced ((false, eval (.Lambda ar body sc p1) X.env) :: backTo p2 (starEach [] X.env))) _ _ s0
  refine Calls.spliced_cons (lam_make2 I0 own mine inT sole tabs0 plain (fun y hy e => (ndef_free held y hy e).elim (fun z => I0.ok.has _ (.inl z)) fun z => I0.ok.has _ (.inr z)) fun fo k pmF ctF H1 s1 I1 grown tabs1 at_ off noF codeK => Calls.spliced_nil ⟨I1.kIn, land I1 ?_⟩)
  refine run_ofS (N := Ng) (ps := [a0, a]) (us := [u, .ref fo]) (vs := [v, .ref fo]) look code Sg room I1.env0 (bx s1 [u, .ref fo] I1.kIn rfl) (.cons r0 (.cons rfl .nil)) rfl fun room1 => ?_
  obtain ⟨ts, run, told⟩ := gives fo k s1 H1 v Q _ (fun q1 q2 e1 es1 t1 pa he hp => pe_lact (i := 1) (js := js) I1 S (Caps.made I1.ok (ndef_free held) (ndef_fr held) slots) at_ off noF (fun us hl => bind _ _ _ _ _ us hl) room1 (fun A outer sh hp2 r2 => inner A outer sh hp2 fo k r2) second seen pa h1 h2 he hp) room1 codeK (later H1 grown tabs1)
  exact ⟨ts, run.nox, told⟩
end
end LmY
set_option Elab.async false
set_option linter.all false
set_option maxRecDepth 100000
set_option maxHeartbeats 3900000
/-! The end of a law whose defs want to know that no repr is under way around them: its def is run from the caller alone. -/
namespace Gd
open PySem PySem.Spec PyProof.Rows L2 LamX LmY
section
variable {P : Program} {w : World} {K : PySem.W.Frag} {mg mb : Str → Option Value} {k : Nat} {fa scr : Addr} {cs : List (Addr × Addr)} {st : Shared} {vs : List Value} {ns : List Int}
/-- what stands in the heap ahead of the law's call -/
structure Ahead (K : PySem.W.Frag) (mg mb : Str → Option Value) (cs : List (Addr × Addr)) (scr : Addr) (vs : List Value) (st : Shared) : Prop where
  kin : K.In st.heap
  glob : st.heap.Ns mainGlobals mg
  blt : st.heap.Ns builtinsNs mb
  boot : ∀ x : Str, x ≠ "__name__" → mb x = bootBuiltins x
  lim : st.heap.NoLimit
  gens : st.gens = #[]
  tabs : ∀ p ∈ cs, st.heap.get? p.2 = some { cls := .none, data := .fields #[] }
  offK : ∀ p ∈ cs, K.lookup p.2 = none
  codes : ∀ p ∈ cs, PySem.W.CodeHd st.heap p.1 p.2
  mod : ∃ (bm : Addr) (ob : Obj), mg "__builtins__" = some (.ref bm) ∧ bm ≠ builtinsNs ∧ st.heap.get? bm = some ob ∧ ob.cls = .type "module" ∧ ob.dict = some builtinsNs ∧ ob.data = .plain
  list : st.heap.get? scr = some { cls := .type "list", data := .seq vs.toArray }
/-- tracked are the script and the tables at most -/
structure Few (K : PySem.W.Frag) (cs : List (Addr × Addr)) (scr : Addr) (H : Hp) : Prop where
  only : ∀ b, H b ≠ none → b = scr ∨ ∃ p ∈ cs, p.2 = b
  notK : H scr ≠ none → K.lookup scr = none
theorem untracked (W : Ahead K mg mb cs scr vs st) {H : Hp} (F : Few K cs scr H) {b : Addr} {ob : Obj} (at_ : st.heap.get? b = some ob) (n1 : ∀ us m, ob.data ≠ .seq us m) (n2 : ob.data ≠ .fields #[]) : H b = none := by
  refine Decidable.byContradiction fun z => ?_
  rcases F.only b z with rfl | ⟨p, hp, rfl⟩
  · rw [W.list] at at_
    cases at_
    exact n1 _ _ rfl
  · rw [W.tabs p hp] at at_
    cases at_
    exact n2 rfl
theorem hid_ns (W : Ahead K mg mb cs scr vs st) {H : Hp} (F : Few K cs scr H) {b : Addr} {m : Str → Option Value} (h : st.heap.Ns b m) : (hidT st.heap H).Ns b m := by
  obtain ⟨ob, es, ep, at_, dat, rest⟩ := h
  refine ⟨ob, es, ep, hidT_get at_ (untracked W F at_ (fun us m z => ?_) fun z => ?_), dat, rest⟩ <;> (rw [dat] at z; cases z)
theorem hid_in (W : Ahead K mg mb cs scr vs st) {H : Hp} (F : Few K cs scr H) : K.In (hidT st.heap H) := fun b ob e => by
  refine hidT_get (W.kin b ob e) (Decidable.byContradiction fun z => ?_)
  rcases F.only b z with rfl | ⟨p, hp, rfl⟩
  · rw [F.notK z] at e
    cases e
  · rw [W.offK p hp] at e
    cases e
theorem hid_tab (W : Ahead K mg mb cs scr vs st) {H : Hp} (F : Few K cs scr H) : ∀ p ∈ cs, TabB (hidT st.heap H) mg p.1 p.2 := fun p hp => by
  have here := W.tabs p hp
  have plainG : ∀ {b : Addr} {ob : Obj}, st.heap.get? b = some ob → (∃ es ep, ob.data = .dict es ep) → b ≠ p.2 := fun e ⟨es, ep, d⟩ z => by
    rw [z, here] at e
    cases e
    cases d
  refine ⟨?_, ?_, ?_⟩
  · obtain ⟨ob, us, file, tf, flags, tg, inF, text, tt, e1, r1, r2, r3, rest⟩ := W.codes p hp
    refine ⟨ob, us, file, tf, flags, tg, inF, text, tt, hidT_get e1 (untracked W F e1 (fun us m z => ?_) fun z => ?_), r1, r2, r3, rest⟩
    · rw [r2] at z
      cases z
    · rw [r2] at z
      cases z
      simp at r3
  · obtain ⟨bm, ob, b1, b2, b3, b4, b5, b6⟩ := W.mod
    refine ⟨bm, ob, b1, b2, fun z => ?_, fun z => ?_, hidT_get b3 (untracked W F b3 (fun us m z => ?_) fun z => ?_), b4, b5, b6⟩
    · obtain ⟨og, es, ep, e, dat, _⟩ := W.glob
      rw [z, e] at b3
      cases b3
      rw [dat] at b6
      cases b6
    · rw [z, here] at b3
      cases b3
      cases b6
    · rw [b6] at z
      cases z
    · rw [b6] at z
      cases z
  · obtain ⟨og, es, ep, e, dat, _⟩ := W.glob
    exact plainG e ⟨es, ep, dat⟩
theorem hid_env (W : Ahead K mg mb cs scr vs st) {H : Hp} (F : Few K cs scr H) (hok : HOk P w H st.heap) : Env0 P w K mg (hidT st.heap H) callerA [] st H :=
  ⟨rfl, ⟨hid_in W F, hid_ns W F W.glob, ⟨mb, hid_ns W F W.blt, W.boot⟩, let ⟨mc, c1, c2⟩ := W.lim; ⟨mc, hid_ns W F c1, c2⟩⟩, fun b ob e => of_hidT e, Nat.le_of_eq (hidT_size _ _), trivial, fun b hb => (List.not_mem_nil (show b ∈ ([] : List Addr) from hb)).elim, hok, .of_eq W.gens⟩
/-- what is told of the heap behind the call -/
theorem behind (W : Ahead K mg mb cs scr vs st) {H : Hp} (F : Few K cs scr H) (hok : HOk P w H st.heap) (tb : ∀ p ∈ cs, H p.2 = some (.tbl #[])) (fz : H scr = none ∨ ∃ ob xs, H scr = some (.frz ob (.lst xs))) {r : Result} {s' : Shared}
    (told : CR L2.CX0 [] P w H st (fun v _ => v = .bl true) L2.E0 r s') : r = .ok (.ret (.bool true)) ∧ OldK st.heap s'.heap ∧ s'.os = st.os ∧ AllBare s'.gens := by
  match r, told with
  | .error _, told => exact (show False from told).elim
  | .ok .next, told => exact (show False from told).elim
  | .ok .brk, told => exact (show False from told).elim
  | .ok .cont, told => exact (show False from told).elim
  | .ok (.ret u), told =>
    obtain ⟨v, H2, os, bare, un, hok2, rel, isT⟩ := told
    have isT : v = .bl true := isT
    subst isT
    obtain rfl : u = Value.bool true := rel
    have noE : ∀ b : Addr, b ∉ ([] : List Addr) := fun _ => List.not_mem_nil
    have grown : ∀ p ∈ cs, ∃ more : Array Value, s'.heap.get? p.2 = some { cls := .none, data := .fields more } := fun p hp => by
      obtain ⟨more, e⟩ := un.tbls p.2 #[] (tb p hp)
      exact ⟨_, hok2 p.2 _ e⟩
    have stays : ∀ b ob, (¬ ∃ p ∈ cs, p.2 = b) → st.heap.get? b = some ob → s'.heap.get? b = some ob := fun b ob far e => by
      by_cases z : H b = none
      · exact un.keep b ob e z (noE b) (noE b)
      · rcases F.only b z with rfl | h
        · rcases fz with f | ⟨o2, xs, f⟩
          · exact absurd f z
          · obtain ⟨e1, _⟩ := hok _ _ f
            obtain ⟨e2, _⟩ := hok2 _ _ (un.frzs _ _ _ f)
            rw [e] at e1
            cases e1
            exact e2
        · exact absurd h far
    refine ⟨rfl, ⟨fun b ob e => ?_, fun b ob e => ?_⟩, os, bare⟩
    · by_cases h : ∃ p ∈ cs, p.2 = b
      · obtain ⟨p, hp, rfl⟩ := h
        obtain ⟨more, hm⟩ := grown p hp
        rw [W.tabs p hp] at e
        cases e
        exact .inr (.inl ⟨((W.codes p hp).tab (W.tabs p hp)).isCodeTable, rfl, #[], more, rfl, by rw [Array.empty_append]; exact hm⟩)
      · exact .inl (stays b ob h e)
    · by_cases h : ∃ p ∈ cs, p.2 = b
      · obtain ⟨p, hp, rfl⟩ := h
        obtain ⟨more, hm⟩ := grown p hp
        exact ⟨_, hm⟩
      · exact ⟨ob, stays b ob h e⟩
open Classical in
/-- THE END: the law's def by its run from the caller alone -/
theorem end_at (W : Ahead K mg mb cs scr vs st) (are : IntsAre vs ns) (short : ns.length ≤ sizeLine)
    (run : ∀ (base : Heap) (H : Hp), K.In base → base.Ns mainGlobals mg → (∀ p ∈ cs, TabB base mg p.1 p.2) → (∀ p ∈ cs, H p.2 = some (.tbl #[])) → SqL K H scr (ns.map V.int) → Env0 P w K mg base callerA [] st H →
      codeAny (model P w) callerA (.call (.ref fa) ⟨[.ref scr], []⟩) (CR L2.CX0 [] P w H st (fun v _ => v = .bl true) L2.E0) st) :
    codeAny (model P w) callerA (.call (.ref fa) ⟨[.ref scr], []⟩) (fun r s' => r = .ok (.ret (.bool true)) ∧ OldK st.heap s'.heap ∧ s'.os = st.os ∧ AllBare s'.gens) st := by
  have rv := vals_ints are
  have same := are.length
  have scrT : ¬ ∃ p ∈ cs, p.2 = scr := fun ⟨p, hp, e⟩ => by
    have z := W.tabs p hp
    rw [e, W.list] at z
    cases z
  have go : ∀ H : Hp, (∀ b, (∃ p ∈ cs, p.2 = b) → H b = some (.tbl #[])) → (∀ b, (¬ ∃ p ∈ cs, p.2 = b) → b ≠ scr → H b = none) → (H scr = none ∨ (K.lookup scr = none ∧ H scr = some (.frz { cls := .type "list", data := .seq vs.toArray } (.lst (ns.map V.int))))) → SqL K H scr (ns.map V.int) →
      codeAny (model P w) callerA (.call (.ref fa) ⟨[.ref scr], []⟩) (fun r s' => r = .ok (.ret (.bool true)) ∧ OldK st.heap s'.heap ∧ s'.os = st.os ∧ AllBare s'.gens) st := by
    intro H isTab noneElse atScr seq
    have few : Few K cs scr H := ⟨fun b z => by
      by_cases h : ∃ p ∈ cs, p.2 = b
      · exact .inr h
      · exact .inl (Decidable.byContradiction fun n => z (noneElse b h n)), fun z => (atScr.resolve_left z).1⟩
    have hok : HOk P w H st.heap := fun b ob e => by
      by_cases h : ∃ p ∈ cs, p.2 = b
      · rw [isTab b h] at e
        cases e
        obtain ⟨p, hp, rfl⟩ := h
        exact W.tabs p hp
      · by_cases n : b = scr
        · subst n
          rcases atScr with z | ⟨_, z⟩
          · rw [z] at e
            cases e
          · rw [z] at e
            cases e
            exact ⟨W.list, by rw [List.length_map]; exact short, vs, _, rv, W.list⟩
        · rw [noneElse b h n] at e
          cases e
    have tb : ∀ p ∈ cs, H p.2 = some (.tbl #[]) := fun p hp => isTab p.2 ⟨p, hp, rfl⟩
    exact codeAny_mono (run _ H (hid_in W few) (hid_ns W few W.glob) (hid_tab W few) tb seq (hid_env W few hok)) fun r s' told => behind W few hok tb (atScr.imp id fun z => ⟨_, _, z.2⟩) told
  cases hk : K.lookup scr with
  | some ob =>
    have e := W.kin scr ob hk
    rw [W.list] at e
    cases e
    exact go (fun b => if ∃ p ∈ cs, p.2 = b then some (.tbl #[]) else none) (fun b h => if_pos h) (fun b h _ => if_neg h) (.inl (if_neg scrT)) (.inr ⟨_, vs.toArray, _, hk, rfl, rfl, rfl, by rw [List.size_toArray, same]; exact short, by simpa using rv⟩)
  | none =>
    refine go (fun b => if b = scr then some (.frz { cls := .type "list", data := .seq vs.toArray } (.lst (ns.map V.int))) else if ∃ p ∈ cs, p.2 = b then some (.tbl #[]) else none) (fun b h => ?_) (fun b h n => ?_) (.inr ⟨hk, if_pos rfl⟩) (.inl (.inr ⟨_, if_pos rfl⟩))
    · exact (if_neg (fun z => scrT (by rw [← z]; exact h))).trans (if_pos h)
    · exact (if_neg n).trans (if_neg h)
end
end Gd
set_option Elab.async false
set_option linter.all false
set_option maxRecDepth 100000
set_option maxHeartbeats 3900000
/-! Defs that are run where no repr is under way; repr of data. -/
namespace Gd
open PySem PySem.Spec PyProof.Rows L2 LamX LmY
/-- as FnOk, where no repr is under way around the call -/
structure FnG (P : Program) (w : World) (K : PySem.W.Frag) (mg : Str → Option Value) (base : Heap) (k : Nat) (f : Addr) (fd : FuncData) (ps : List Str) (sp : Sp) : Prop where
  len : ∀ vs H Q E, sp vs H Q E → vs.length = ps.length
  run : ∀ (A : Around) (outer : List Env) (s : Shared) (H : Hp) (args : Args) (us : List Value) (vs : List V) (Q : VK), A.guards = some [] → Room k A → Env0 P w K mg base A outer s H → BindsTo s fd args (ps.zip us) → Vals vs us → sp vs H Q L2.E0 →
    codeAny (model P w) A (.call (.ref f) args) (CR L2.CX0 outer P w H s Q L2.E0) s
section
variable {P : Program} {w : World} {K : PySem.W.Frag} {mg : Str → Option Value} {base : Heap}
/-- a def of the text, by its body -/
theorem okG {x : Str} {st : Stmt} {f : Addr} {fd : FuncData} {N ps : List Str} {k : Nat} {sp : Sp} (F : Fun K x x st f fd) (S : FnScope N ps (defScope st)) (len : ∀ vs H Q E, sp vs H Q E → vs.length = ps.length)
    (body : ∀ (cdv : Value) (A : Around) (outer : List Env) (s : Shared) (H : Hp) (vs : List V) (Q : VK), A.guards = some [] → Room k (A.deeper (envOfC x (defScope st) s.heap.objs.size f cdv)) → sp vs H Q L2.E0 →
      ∃ t, PSs (cxOf L2.CX0 P w K mg base N x (defScope st) f cdv A outer s H L2.E0).nox (defBody st) t ∧ t { nx := fun _ H' => Q .non H', rt := Q } (L2.start N vs) H) : FnG P w K mg base (k + 1) f fd ps sp := by
  obtain ⟨oc, od, kV, doc, pm, an, cdv, ct, osl, rfl, look, code⟩ := F.ex
  refine ⟨len, fun A outer s H args us vs Q gu room e0 bind rel h => ?_⟩
  refine run_ofS look code S room e0 bind rel (len _ _ _ _ h) fun room1 => ?_
  obtain ⟨t, run, told⟩ := body cdv A outer s H vs Q gu room1 h
  exact ⟨t, run.nox, told⟩
/-- FnOk is more -/
theorem FnG.of {k : Nat} {f : Addr} {fd : FuncData} {ps : List Str} {sp : Sp} (F : FnOk P w K mg base L2.CX0 k f fd ps sp) : FnG P w K mg base k f fd ps sp := ⟨F.len, fun A outer s H args us vs Q _ room e0 bind rel h => F.run A outer s H args us vs Q L2.E0 room e0 bind rel h⟩
end
section
variable {X : Cx}
/-- x(e, ..), x such a def -/
theorem pe_callG {k : Nat} {f : Addr} {fd : FuncData} {ps : List Str} {sp : Sp} {x : Str} {p pos : Pos} {e : Expr} {es : List Expr} {t : TA} (F : FnG X.prog X.w X.K X.mg X.base k f fd ps sp) (gu : X.A.guards = some []) (room : Room k X.A) (gl : Gl X x) (mx : X.mg x = some (.ref f)) (kx : PySem.W.keepIn X.K (.ref f) = true)
    (bind : L2.Binds X.K fd ps []) (pa : PA X (e :: es) t) (h0 : (x == ("__debug__" : Str)) = false := by decide)
    (h1 : starEach (e :: es) X.env = (false, eval e X.env) :: starEach es X.env := by rfl) (h2 : (backTo pos (starEach es X.env)).any (·.1) = false := by rfl) :
    PE X (.Call (.Name x p) (e :: es) [] pos) (fun σ H Q => t σ H fun vs H1 => sp vs H1 Q L2.E0) := by
  refine ⟨fun pins s σ H Q I reading => wpAny_Call_Name_kw (ld_glob I gl mx (PySem.W.callWith_K (h₀ := X.base) I.ok.mod.kin kx (thn (pa.run pos pins s σ H _ I reading) fun us s1 ⟨vs, H1, I1, rel, q⟩ => ⟨I1.kIn, land (us := us) I1 ?_⟩) h1 h2) h0)⟩
  have given := bind s1 us I1.kIn (by rw [List.append_nil]; exact rel.length.symm.trans (F.len _ _ _ _ q))
  rw [List.append_nil] at given
  exact F.run X.A X.stack s1 H1 ⟨us, []⟩ us vs Q gu room I1.env0 given rel q
/-- repr of data, no repr being under way -/
theorem cr_reprD (gu : X.A.guards = some []) (un : X.A.units + 64 < cLine) : CallR X (.builtin "repr") (fun xs H Q => ∃ (a : Addr) (d : PyData), xs = [.ref a] ∧ Dp X.K H (.ref a) d ∧ d.showable = true ∧ d.hasDict = false ∧ d.depth ≤ 60 ∧ d.shown.length ≤ sizeLine ∧ Q (.str d.shown) H) := by
  intro pins s σ H xs us Q I rel ⟨a, d, ex, dp, sh, nd, dd, fits, q⟩
  subst ex
  rw [Vals.ref1 rel]
  obtain ⟨as, rd⟩ := Dp.reads I d (.ref a) (.ref a) dp rfl
  exact repr_of_reads' rd sh (fun e => by rw [nd] at e; cases e) gu (by omega) (fun _ _ e => e) (fun h' u tk kp => ⟨.str d.shown, H, I.kept kp, ⟨u, rfl⟩, q⟩) fits
end
/-- what the end wants of the law's def -/
def LawG (l : PySem.W.OpenLaw) (w : World) (K : PySem.W.Frag) (k n : Nat) (x : Str) (mg : Str → Option Value) (fa : Addr) (h : Heap) : Prop :=
  ∃ (fd : FuncData) (cs : List (Addr × Addr)) (sp : Sp), (∀ p ∈ cs, h.get? p.2 = some { cls := .none, data := .fields #[] }) ∧ (∀ p ∈ cs, K.lookup p.2 = none) ∧ (∀ p ∈ cs, PySem.W.CodeHd h p.1 p.2) ∧ (∀ (s : Shared) (u : Value), BindsTo s fd ⟨[u], []⟩ [(x, u)]) ∧
    (∀ (H : Hp) (a : Addr) (ns : List Int), ns.length ≤ n → (∀ z ∈ ns, Builtin.Int.intBits z ≤ 1048576) → (∀ p ∈ cs, H p.2 = some (.tbl #[])) → SqL K H a (ns.map V.int) → sp [.ref a] H (fun v _ => v = .bl true) L2.E0) ∧
    ∀ base : Heap, K.In base → base.Ns mainGlobals mg → (∀ p ∈ cs, TabB base mg p.1 p.2) → FnG l.prog w K mg base k fa fd [x] sp
/-- the end of a law some defs of which say repr, or hold lambdas: these ones' tables are still empty -/
theorem walk_guard {l : PySem.W.OpenLaw} {n k : Nat} {q : Program} {loose : List Str} {XP : (Str → Option Value) → Heap → Prop} {YP : World → Heap → Prop} {d : DefRec} {K : Params → PySem.W.Frag} {x : Str} (nms : List Str)
    (hn : l.most = some n) (line : n ≤ sizeLine) (hdf : d.params.defaults = []) (room : Room k callerA) (recs : ∀ nm ∈ nms, ((recsOf q).any fun e => e.name == nm) = true) (hY : ∀ (w : World) (h : Heap), YP w h → (K w.params).In h)
    (F : ∀ (w : World) (mg : Str → Option Value) (fa : Addr) (h : Heap), YP w h → (K w.params).In h → h.Ns mainGlobals mg → mg d.name = some (.ref fa) → (∀ nm ∈ nms, ∀ fw, mg nm = some (.ref fw) → OwnTab (K w.params) fw h) → LawG l w (K w.params) k n x mg fa h) :
    PySem.W.WalkO q loose XP YP l.row.toRowW d [] (fun f vs => PySem.call f vs) := by
  refine Att.attach_callB hn hdf fun w s0 s1 mg mb fa o pm cd doc a vs ns G Y ho hd hcd hmg hobj hints hlen hbits hg => ?_
  have KX := hY w _ Y
  have tabs : ∀ nm ∈ nms, ∀ fw, mg nm = some (.ref fw) → OwnTab (K w.params) fw s1.heap := by
    intro nm inn fw hw c P o1 fd1 e dd us sl look isF isC lookC at11
    obtain ⟨dR, mem, same⟩ := List.any_eq_true.mp (recs nm inn)
    have eN : dR.name = nm := beq_iff_eq.mp same
    obtain ⟨a2, o2, fd2, c2, P2, g1, g2, g3, g4, _, ⟨oc, vc, g5, _, g6, g7⟩, empty⟩ := G.T.tab dR mem
    rw [eN] at g1
    cases hw.symm.trans g1
    cases (KX _ _ look).symm.trans g2
    cases isF.symm.trans g3
    cases isC.symm.trans g4
    cases (KX _ _ lookC).symm.trans g5
    cases g6
    cases at11.symm.trans g7
    exact empty
  obtain ⟨fd, cs, sp, hT, nT, hC, hb, hsp, hF⟩ := F w mg fa _ Y KX G.T.g hmg tabs
  exact end_at ⟨KX, G.T.g, G.T.b, G.T.builtins, G.T.nolimit, hg, hT, nT, hC, G.T.bmain, hobj⟩ hints (Nat.le_trans hlen line) fun base H hK hG hB ht hS e0 =>
    (hF base hK hG hB).run callerA [] s1 H ⟨[.ref a], []⟩ [.ref a] [.ref a] _ rfl room e0 (hb s1 (.ref a)) (.cons rfl .nil) (hsp H a ns hlen hbits ht hS)
end Gd
set_option Elab.async false
set_option linter.all false
set_option maxRecDepth 100000
set_option maxHeartbeats 4000000
set_option pp.maxSteps 400
/-! k41: what the law reckons, and how it asks. -/
namespace Kf
open PySem PySem.Spec PyProof.Rows L2 Sx Gd Xk
abbrev sRe : Stmt := top 20
abbrev sDue : Stmt := top 22
abbrev sTold : Stmt := top 23
abbrev reN : List Str := ["term", "some", "found", "one"]
theorem scRe : FnScope reN ["term"] (defScope sRe) := ⟨rfl, rfl, rfl, by decide +kernel, rfl, by decide +kernel, by decide +kernel⟩
theorem scDue : FnScope ["saying", "one", "other"] ["saying"] (defScope sDue) := ⟨rfl, rfl, rfl, by decide +kernel, rfl, by decide +kernel, by decide +kernel⟩
abbrev toldN : List Str := ["saying", "found", "caught", "e"]
theorem scTold : FnScope toldN ["saying"] (defScope sTold) := ⟨rfl, rfl, rfl, by decide +kernel, rfl, by decide +kernel, by decide +kernel⟩
def tv : Option Int → V
  | some n => .int n
  | none => .non
def bv : Option Bool → V
  | some b => .bl b
  | none => .non
theorem flat_tv (o : Option Int) : flatV (tv o) = true := by cases o <;> rfl
theorem inV_none : ∀ os : List (Option Int), inV .non (os.map tv) = decide (none ∈ os)
  | [] => by simp [inV]
  | o :: os => by
    have h := inV_none os
    unfold inV at h ⊢
    rw [List.map_cons, List.any_cons, h]
    cases o with
    | none =>
      have e1 : eqV (tv none) .non = true := rfl
      rw [e1]
      simp
    | some n =>
      have e1 : eqV (tv (some n)) .non = false := rfl
      rw [e1]
      simp
theorem flat_tvs : ∀ os : List (Option Int), (os.map tv).all flatV = true
  | [] => rfl
  | o :: os => by
    rw [List.map_cons, List.all_cons, flat_tvs os, flat_tv]
    rfl
theorem deep_pos : ∀ t : Tr, 1 ≤ t.deep
  | .leaf _ _ => Nat.le_refl 1
  | .n0 _ => Nat.le_refl 1
  | .n1 _ _ => Nat.le_add_left 1 _
  | .n2 _ _ _ => Nat.le_add_left 1 _
theorem kids_deep {t k : Tr} (h : k ∈ t.kids) : k.deep + 1 ≤ t.deep := by
  cases t with
  | leaf wd x => cases h
  | n0 wd => cases h
  | n1 wd a =>
    rw [List.mem_singleton.mp h]
    exact Nat.le_refl _
  | n2 wd a b =>
    rcases List.mem_cons.mp h with z | z
    · rw [z]
      exact Nat.succ_le_succ (Nat.le_max_left _ _)
    · rw [List.mem_singleton.mp z]
      exact Nat.succ_le_succ (Nat.le_max_right _ _)
theorem kids_cl {t k : Tr} (c : t.Cl) (h : k ∈ t.kids) : k.Cl := by
  cases t with
  | leaf wd x => cases h
  | n0 wd => cases h
  | n1 wd a =>
    rw [List.mem_singleton.mp h]
    exact c.2
  | n2 wd a b =>
    rcases List.mem_cons.mp h with z | z
    · rw [z]
      exact c.2.1
    · rw [List.mem_singleton.mp z]
      exact c.2.2
theorem same_up {H H1 : Hp} {D : Addr} {o : HO} (s : Same H H1) (n : H D = none) : Same H (upd H1 D o) := fun b u e => by
  rw [upd_ne (ne_of_none e n)]
  exact s _ _ e
theorem passes_len {X : Cx} {W : WX} {E : XK} (tk : Takes X W) (hW : ∀ cls d σ H, σ.length = X.N.length → E cls d H → W cls d σ H) : Passes (L2.CX X.prog X.w) X E :=
  fun pins σ H s e s' I c => tk e s' (XE.of_call I (fun cls d H' h => hW cls d σ H' I.len h) c)
theorem tg_mul {m n : Int} (m0 : 0 ≤ m) (m1 : m < TG) (n0 : 0 ≤ n) (n1 : n < TG) : CMulX m n := by
  have bits : ∀ x : Int, 0 ≤ x → x < TG → Builtin.Int.intBits x ≤ 200 := fun x p q => PyProof.Rows.intBits_le (k := 200) (by
    have q2 : x < 10 ^ 60 := q
    have q3 : x.natAbs < 10 ^ 60 := by omega
    exact Nat.lt_of_lt_of_le q3 (by decide))
  have e1 := bits m m0 m1
  have e2 := bits n n0 n1
  unfold CMulX
  omega
section
variable {P : Program} {w : World} {K : PySem.W.Frag} {mg : Str → Option Value} {base : Heap}
/-! ### _law_reckoned -/
def spRe (n : Nat) : Sp := fun vs H Q _ => ∃ (v : V) (t : Tr), vs = [v] ∧ At H t v ∧ t.Cl ∧ t.deep ≤ n ∧ ∀ H', Same H H' → Q (tv (wt v0 t)) H'
theorem ok_re {f : Addr} {fd : FuncData} {n : Nat} (F : Fun K "_law_reckoned" "_law_reckoned" sRe f fd) (S : FnOk P w K mg base CX0 n f fd ["term"] (spRe n)) (bS : Binds K fd ["term"] []) (mS : mg "_law_reckoned" = some (.ref f)) : FnOk P w K mg base CX0 (n + 1) f fd ["term"] (spRe (n + 1)) := by
  refine F.ok scRe (fun vs H Q E h => ?_) (fun cdv A outer s H vs Q E hr h => ?_)
  · obtain ⟨v, t, rfl, _⟩ := h
    rfl
  obtain ⟨v, t, rfl, hA, hC, hd, q⟩ := h
  refine ⟨_, pss_cons (ps_if (pt_cmpR op_eq (pe_ix ix_tup (pv 0) pe_int (fun _ _ => rfl)) pe_str (nomark _)) (pss_one (ps_ret (pe_ix ix_tup (pv 0) pe_int (fun _ _ => rfl)))) pss_nil)
    (pss_cons (ps_setLc (i := 1) (own := [("one", 3)]) (g := gName 3) (tt := tYes) rfl scRe.nd rfl rfl (sw_true rfl rfl (by rfl) (by decide +kernel)) (pi_tup (pe_slice sl_tup (pv 0) (po_some pe_int) po_none))
        (blkOk_by (N := reN) (sc := defScope sRe) (by decide +kernel)) (fun _ _ _ _ _ => pg_name (i := 3) scRe.nd rfl (Or.inl rfl)) (fun _ _ _ _ _ => pts_nil) (fun _ _ _ _ _ => pe_call S hr (by rfl) mS F.kp bS .nil pass0 (pa_cons (pv 3) pa_nil)))
    (pss_cons (ps_if (pt_cmpR op_in_seq pe_non (pv 1) (by rfl)) (pss_one (ps_ret pe_non)) pss_nil)
    (pss_cons (ps_set (i := 2) scRe.nd rfl (.inl rfl) (pe_op op_add (pe_ix ix_list (pv 1) pe_int (fun _ _ => rfl)) pe_int))
    (pss_cons (ps_if (pt_cmpR op_ne (pe_ix ix_tup (pv 0) pe_int (fun _ _ => rfl)) pe_str (nomark _))
      (pss_one (ps_set (i := 2) scRe.nd rfl (.inl rfl) (pe_ifExp (pt_cmpR op_eq (pe_ix ix_tup (pv 0) pe_int (fun _ _ => rfl)) pe_str (nomark _)) (pe_op op_add (pe_ix ix_list (pv 1) pe_int (fun _ _ => rfl)) (pe_ix ix_list (pv 1) pe_int (fun _ _ => rfl))) (pe_op op_mulX (pe_ix ix_list (pv 1) pe_int (fun _ _ => rfl)) (pe_ix ix_list (pv 1) pe_int (fun _ _ => rfl)))))) pss_nil)
    (pss_one (ps_ret (pe_ifExp (pt_cmpR op_lt (pv 2) (pe_op op_pow pe_int pe_int) (nomark _)) (pv 2) pe_non))))))), ?_⟩
  have hO := cl_ok hC
  obtain ⟨p1, us, rfl, hp1, lus, kids, leafs⟩ := hA.view hO
  refine ⟨_, rfl, p1, _, 0, _, rfl, rfl, .inl (.inl hp1), head_at _ _, rfl, _, rfl, ?_⟩
  refine ite2 (fun c => ?_) (fun c => ?_)
  · have ew : t.word = "num" := by have z := of_decide_eq_true c; injection z
    have lf : ∃ x : Int, t = .leaf "num" (.int x) ∧ x < TG := by
      cases t with
      | leaf w x =>
        obtain ⟨e, m, ex, m0, m1⟩ := hC
        subst e ex
        exact ⟨m, rfl, m1⟩
      | n0 w => exact hC.elim
      | n1 w a =>
        have e2 : w = "next" := hC.1
        have e : w = "num" := ew
        rw [e2] at e
        exact absurd e (by decide +kernel)
      | n2 w a b =>
        have e : w = "num" := ew
        rw [e] at hC
        exact absurd hC.1 (by decide +kernel)
    obtain ⟨x, rfl, lx⟩ := lf
    obtain ⟨p0, ep, hp0⟩ := hA
    cases ep
    refine ⟨_, rfl, p1, _, 1, .int x, rfl, rfl, .inl (.inl hp0), atI_nat (j := 1) rfl, ?_⟩
    have z := q H fun _ _ e => e
    rw [show wt v0 (.leaf "num" (.int x)) = some x from if_pos lx] at z
    exact z
  have nl : leafy t.word = false := by
    cases t with
    | leaf w x =>
      obtain ⟨e, _⟩ := hC
      exact absurd (show decide (V.str w = V.str "num") = true from decide_eq_true (by rw [e])) c
    | n0 w => exact hC.elim
    | n1 w a => exact hO.1
    | n2 w a b => exact hO.1
  have kd := kids nl
  have len1 := kd.len
  refine ⟨_, rfl, 1, rfl, p1, _, rfl, .inl (.inl hp1), cut_not _ _, fun cc nc => ?_⟩
  rw [cut_one]
  have s1 : Same H (upd H cc (.tup us)) := same_new nc
  refine ⟨cc, rfl, ⟨_, .inl (.inl upd_same)⟩, fun D nD => ?_⟩
  generalize hHc : upd H cc (.tup us) = Hc at s1 nD
  have hc : Hc cc = some (.tup us) := by rw [← hHc, upd_same]
  refine lc_tup (K := K) (a := cc) (xs := us) (fun i H' => H' D = some (.lst (((t.kids.take i).map fun k => wt v0 k).map tv)) ∧ Same Hc H')
    ⟨upd_same, same_new nD⟩ (fun i H' _ ⟨_, sm⟩ => .inl (.inl (sm _ _ hc))) ?_ ?_
  · rintro i x H' hx ⟨hD, sm⟩
    obtain ⟨tk, htk, hax⟩ := kd.get hx
    have mk : tk ∈ t.kids := List.mem_of_getElem? htk
    have dk := kids_deep mk
    refine ⟨rfl, ?_⟩
    refine ⟨_, rfl, x, tk, rfl, hax.keep (tups_same (s1.trans sm)), kids_cl hC mk, by omega, fun H6 sm6 => ?_⟩
    refine ⟨_, sm6 _ _ hD, line_of (by rw [List.length_map, List.length_map, List.length_take]; omega), ?_, same_up (sm.trans sm6) nD⟩
    rw [upd_same, List.take_add_one, htk, List.map_append, List.map_append]
    rfl
  · rintro H7 ⟨hD, sm⟩
    rw [← len1, List.take_length] at hD
    have s7 := s1.trans sm
    have hp7 := s7 _ _ hp1
    have fin : ∀ o, wt v0 t = o → Q (tv o) H7 := fun o e => by
      rw [← e]
      exact q H7 s7
    clear hHc hc sm s1 kd
    refine ⟨_, rfl, D, _, rfl, .inl (.inl (.inl hD)), rfl, flat_tvs _, _, rfl, ?_⟩
    show if inV .non ((t.kids.map fun k => wt v0 k).map tv) = true then _ else _
    rw [inV_none]
    cases t with
    | leaf w x => exact (no_leaf nl hO.1).elim
    | n0 w => exact hC.elim
    | n1 w a =>
      obtain ⟨ew, ca⟩ := hC
      subst ew
      have hp7 : H7 p1 = some (.tup (.str "next" :: us)) := hp7
      cases ea : wt v0 a with
      | none =>
        rw [show decide (none ∈ ((Tr.n1 "next" a).kids.map fun k => wt v0 k)) = true from decide_eq_true (by show none ∈ [wt v0 a]; rw [ea]; exact List.mem_singleton.mpr rfl)]
        refine iteT ?_
        exact fin none (by show (wt v0 a).bind _ = _; rw [ea]; rfl)
      | some m =>
        rw [show decide (none ∈ ((Tr.n1 "next" a).kids.map fun k => wt v0 k)) = false from decide_eq_false (fun z => by have z2 : none = wt v0 a := List.mem_singleton.mp z; rw [ea] at z2; cases z2)]
        refine iteF ?_
        have hD2 : H7 D = some (.lst [.int m]) := by
          rw [hD]
          show some (HO.lst [tv (wt v0 a)]) = _
          rw [ea]
          rfl
        have ew2 : wt v0 (.n1 "next" a) = cap (m + 1) := by
          show (wt v0 a).bind _ = _
          rw [ea]
          rfl
        refine ⟨_, rfl, D, _, 0, .int m, rfl, rfl, .inl (.inl hD2), atI_nat (j := 0) rfl, _, _, rfl, rfl, ?_⟩
        refine ⟨_, rfl, p1, _, 0, _, rfl, rfl, .inl (.inl hp7), head_at _ _, rfl, _, rfl, iteNS rfl ?_⟩
        refine ⟨_, rfl, _, _, rfl, rfl, ⟨by decide, by decide, by decide⟩, _, _, rfl, rfl, _, rfl, ?_⟩
        refine ite2 (fun c3 => ?_) (fun c3 => ?_)
        · have lt : m + 1 < TG := of_decide_eq_true c3
          exact ⟨_, rfl, fin (some (m + 1)) (by rw [ew2]; exact if_pos lt)⟩
        · have nlt : ¬ m + 1 < TG := fun z => c3 (decide_eq_true z)
          exact fin none (by rw [ew2]; exact if_neg nlt)
    | n2 w a b =>
      obtain ⟨ew, ca, cb⟩ := hC
      have hp7 : H7 p1 = some (.tup (.str w :: us)) := hp7
      have nn : w ≠ "next" := by rcases ew with e | e <;> rw [e] <;> decide +kernel
      have none_ : wt v0 a = none ∨ wt v0 b = none → wt v0 (.n2 w a b) = none := fun h => by
        show (wt v0 a).bind _ = _
        rcases h with h | h
        · rw [h]
          rfl
        · rw [h]
          cases wt v0 a <;> rfl
      by_cases hm : (none : Option Int) ∈ ((Tr.n2 w a b).kids.map fun k => wt v0 k)
      · rw [decide_eq_true hm]
        refine iteT ?_
        have hm2 : (none : Option Int) ∈ [wt v0 a, wt v0 b] := hm
        refine fin none (none_ ?_)
        rcases List.mem_cons.mp hm2 with z | z
        · exact .inl z.symm
        · exact .inr (List.mem_singleton.mp z).symm
      · rw [decide_eq_false hm]
        refine iteF ?_
        have hm2 : ¬ (none : Option Int) ∈ [wt v0 a, wt v0 b] := hm
        have ea : ∃ m, wt v0 a = some m := by
          cases e : wt v0 a with
          | none => exact absurd (by rw [e]; exact List.mem_cons_self) hm2
          | some m => exact ⟨m, rfl⟩
        have eb : ∃ m, wt v0 b = some m := by
          cases e : wt v0 b with
          | none => exact absurd (by rw [e]; exact List.mem_cons_of_mem _ (List.mem_singleton.mpr rfl)) hm2
          | some m => exact ⟨m, rfl⟩
        obtain ⟨m, ea⟩ := ea
        obtain ⟨k, eb⟩ := eb
        obtain ⟨m0, m1⟩ := wt_pos (fun _ => Int.le_refl 0) a (cl_tm ca) m ea
        obtain ⟨k0, k1⟩ := wt_pos (fun _ => Int.le_refl 0) b (cl_tm cb) k eb
        have hD2 : H7 D = some (.lst [.int m, .int k]) := by
          rw [hD]
          show some (HO.lst [tv (wt v0 a), tv (wt v0 b)]) = _
          rw [ea, eb]
          rfl
        have ew2 : wt v0 (.n2 w a b) = cap (if w = "plus" then m + k else m * k) := by
          show (wt v0 a).bind _ = _
          rw [ea]
          show (wt v0 b).bind _ = _
          rw [eb]
          rfl
        refine ⟨_, rfl, D, _, 0, .int m, rfl, rfl, .inl (.inl hD2), atI_nat (j := 0) rfl, _, _, rfl, rfl, ?_⟩
        refine ⟨_, rfl, p1, _, 0, _, rfl, rfl, .inl (.inl hp7), head_at _ _, rfl, _, rfl, ?_⟩
        rw [show decide (V.str w = V.str "next") = false from decide_eq_false (fun z => nn (by injection z))]
        refine iteT ?_
        refine ⟨_, rfl, p1, _, 0, _, rfl, rfl, .inl (.inl hp7), head_at _ _, rfl, _, rfl, ?_⟩
        have last : ∀ x : Int, wt v0 (.n2 w a b) = cap x → ∀ R : Prop, ((if decide (x < (10 : Int) ^ (60 : Int).toNat) = true then Q (.int x) H7 else Q .non H7) → R) → R := fun x e R go => go (by
          refine ite2 (fun c3 => ?_) (fun c3 => ?_)
          · have lt : x < TG := of_decide_eq_true c3
            exact fin (some x) (by rw [e]; exact if_pos lt)
          · have nlt : ¬ x < TG := fun z => c3 (decide_eq_true z)
            exact fin none (by rw [e]; exact if_neg nlt))
        refine eqW (fun ep => ?_) (fun np => ?_)
        · rw [if_pos ep] at ew2
          refine ⟨_, rfl, D, _, 0, .int m, rfl, rfl, .inl (.inl hD2), atI_nat (j := 0) rfl, _, rfl, D, _, 1, .int k, rfl, rfl, .inl (.inl hD2), atI_nat (j := 1) rfl, _, _, rfl, rfl, ?_⟩
          refine ⟨_, rfl, _, _, rfl, rfl, ⟨by decide, by decide, by decide⟩, _, _, rfl, rfl, _, rfl, ?_⟩
          refine ite2 (fun c3 => ?_) (fun c3 => ?_)
          · have lt : m + k < TG := of_decide_eq_true c3
            exact ⟨_, rfl, fin (some (m + k)) (by rw [ew2]; exact if_pos lt)⟩
          · have nlt : ¬ m + k < TG := fun z => c3 (decide_eq_true z)
            exact fin none (by rw [ew2]; exact if_neg nlt)
        · rw [if_neg np] at ew2
          refine ⟨_, rfl, D, _, 0, .int m, rfl, rfl, .inl (.inl hD2), atI_nat (j := 0) rfl, _, rfl, D, _, 1, .int k, rfl, rfl, .inl (.inl hD2), atI_nat (j := 1) rfl, _, _, rfl, rfl, tg_mul m0 m1 k0 k1, ?_⟩
          refine ⟨_, rfl, _, _, rfl, rfl, ⟨by decide, by decide, by decide⟩, _, _, rfl, rfl, _, rfl, ?_⟩
          refine ite2 (fun c3 => ?_) (fun c3 => ?_)
          · have lt : m * k < TG := of_decide_eq_true c3
            exact ⟨_, rfl, fin (some (m * k)) (by rw [ew2]; exact if_pos lt)⟩
          · have nlt : ¬ m * k < TG := fun z => c3 (decide_eq_true z)
            exact fin none (by rw [ew2]; exact if_neg nlt)
theorem ok_res {f : Addr} {fd : FuncData} (F : Fun K "_law_reckoned" "_law_reckoned" sRe f fd) (bS : Binds K fd ["term"] []) (mS : mg "_law_reckoned" = some (.ref f)) : ∀ n : Nat, FnOk P w K mg base CX0 n f fd ["term"] (spRe n)
  | 0 => no_calls fun vs H Q E h => by
    obtain ⟨v, t, _, _, _, hd, _⟩ := h
    have := deep_pos t
    omega
  | n + 1 => ok_re F (ok_res F bS mS n) bS mS
/-! ### _law_due -/
def spDue (n : Nat) : Sp := fun vs H Q _ => ∃ (v : V) (t : Tr), vs = [v] ∧ At H t v ∧ t.Fl ∧ t.deep ≤ n ∧ ∀ H', Same H H' → Q (bv (tru t)) H'
theorem ok_due {f g : Addr} {fd gd : FuncData} {n : Nat} (F : Fun K "_law_due" "_law_due" sDue f fd) (G : FnOk P w K mg base CX0 12 g gd ["term"] (spRe 12)) (bG : Binds K gd ["term"] []) (kG : PySem.W.keepIn K (.ref g) = true) (mG : mg "_law_reckoned" = some (.ref g))
    (S : FnOk P w K mg base CX0 (12 + n) f fd ["saying"] (spDue n)) (bS : Binds K fd ["saying"] []) (mS : mg "_law_due" = some (.ref f)) (n12 : n + 1 ≤ 12) : FnOk P w K mg base CX0 (12 + n + 1) f fd ["saying"] (spDue (n + 1)) := by
  refine F.ok scDue (fun vs H Q E h => ?_) (fun cdv A outer s H vs Q E hr h => ?_)
  · obtain ⟨v, t, rfl, _⟩ := h
    rfl
  obtain ⟨v, t, rfl, hA, hF, hd, q⟩ := h
  have h12 : Room 12 _ := hr.mono (by omega)
  refine ⟨_, pss_cons (ps_if (pt_cmpR op_eq (pe_ix ix_tup (pv 0) pe_int (fun _ _ => rfl)) pe_str (nomark _)) (pss_one (ps_ret pe_bl)) pss_nil)
    (pss_cons (ps_if (pt_cmpR op_eq (pe_ix ix_tup (pv 0) pe_int (fun _ _ => rfl)) pe_str (nomark _))
      (pss_cons (ps_par (i := 1) (j := 2) rfl scDue.nd rfl rfl (by decide) rfl rfl (pa_cons (pe_call G h12 (by rfl) mG kG bG .nil pass0 (pa_cons (pe_ix ix_tup (pv 0) pe_int (fun _ _ => rfl)) pa_nil)) (pa_cons (pe_call G h12 (by rfl) mG kG bG .nil pass0 (pa_cons (pe_ix ix_tup (pv 0) pe_int (fun _ _ => rfl)) pa_nil)) pa_nil)) (by rfl))
      (pss_one (ps_ret (pe_ifExp (PW.pt (pw_or (pt_cmpR op_isN (pv 1) pe_non (nomark _)) (pw_or1 (pt_cmpR op_isN (pv 2) pe_non (nomark _))))) pe_non (pe_cmpR op_eq (pv 1) (pv 2) (nomark _)))))) pss_nil)
    (pss_cons (ps_par (i := 1) (j := 2) rfl scDue.nd rfl rfl (by decide) rfl rfl (pa_cons (pe_call S hr (by rfl) mS F.kp bS .nil pass0 (pa_cons (pe_ix ix_tup (pv 0) pe_int (fun _ _ => rfl)) pa_nil)) (pa_cons (pe_call S hr (by rfl) mS F.kp bS .nil pass0 (pa_cons (pe_ix ix_tup (pv 0) pe_int (fun _ _ => rfl)) pa_nil)) pa_nil)) (by rfl))
    (pss_cons (ps_if (PW.pt (pw_or (pt_cmpR op_isN (pv 1) pe_non (nomark _)) (pw_or1 (pt_cmpR op_isN (pv 2) pe_non (nomark _))))) (pss_one (ps_ret pe_non)) pss_nil)
    (pss_one (ps_ret (pe_ifExp (pt_cmpR op_eq (pe_ix ix_tup (pv 0) pe_int (fun _ _ => rfl)) pe_str (nomark _)) (pe_and (pv 1) (pe_one (pv 2))) (pe_or (pv 2) (pe_one (pe_not (pv 1)))))))))), ?_⟩
  cases t with
  | leaf w x => exact hF.elim
  | n1 w a => exact hF.elim
  | n0 w =>
    have e : w = "no" := hF
    subst e
    obtain ⟨p, rfl, hp⟩ := hA
    refine ⟨_, rfl, p, _, 0, _, rfl, rfl, .inl (.inl hp), head_at _ _, rfl, _, rfl, ?_⟩
    refine eqW (fun _ => ?_) (fun ne => absurd rfl ne)
    exact q H fun _ _ e => e
  | n2 w a b =>
    obtain ⟨p, ya, yb, rfl, hp, aa, ab⟩ := hA
    have dd : max a.deep b.deep + 1 ≤ n + 1 := hd
    have nno : w ≠ "no" := by
      rcases hF with ⟨e, _⟩ | ⟨e | e, _⟩ <;> rw [e] <;> decide +kernel
    refine ⟨_, rfl, p, _, 0, _, rfl, rfl, .inl (.inl hp), head_at _ _, rfl, _, rfl, ?_⟩
    refine eqW (fun e => absurd e nno) (fun _ => ?_)
    refine ⟨_, rfl, p, _, 0, _, rfl, rfl, .inl (.inl hp), head_at _ _, rfl, _, rfl, ?_⟩
    refine eqW (fun es => ?_) (fun ns => ?_)
    · subst es
      rcases hF with ⟨_, ca, cb⟩ | ⟨e, _⟩
      · refine ⟨_, rfl, p, _, 1, ya, rfl, rfl, .inl (.inl hp), atI_nat (j := 1) rfl, ya, a, rfl, aa, ca, by omega, fun H2 s2 => ?_⟩
        refine ⟨_, rfl, p, _, 2, yb, rfl, rfl, .inl (.inl (s2 _ _ hp)), atI_nat (j := 2) rfl, yb, b, rfl, ab.keep (tups_same s2), cb, by omega, fun H3 s3 => ⟨_, _, rfl, ?_⟩⟩
        have et : tru (.n2 "same" a b) = (wt v0 a).bind fun m => (wt v0 b).bind fun n => some (decide (m = n)) := if_pos rfl
        have z := q H3 (s2.trans s3)
        rw [et] at z
        cases ea : wt v0 a with
        | none =>
          rw [ea] at z
          exact ⟨_, rfl, rfl, _, rfl, iteT (iteT z)⟩
        | some m =>
          refine ⟨_, rfl, rfl, _, rfl, iteF ?_⟩
          cases eb : wt v0 b with
          | none =>
            rw [ea, eb] at z
            exact ⟨_, rfl, rfl, _, rfl, iteT z⟩
          | some k =>
            rw [ea, eb] at z
            refine ⟨_, rfl, rfl, _, rfl, iteF ?_⟩
            refine ⟨_, rfl, _, rfl, rfl, ?_⟩
            have e3 : decide (V.int m = V.int k) = decide (m = k) := decide_eq_decide.mpr ⟨fun z => by injection z, fun z => by rw [z]⟩
            show Q (.bl (decide (V.int m = V.int k))) H3
            rw [e3]
            exact z
      · exact absurd e (by decide +kernel)
    · rcases hF with ⟨e, _⟩ | ⟨ew, fa, fb⟩
      · exact absurd e ns
      · refine ⟨_, rfl, p, _, 1, ya, rfl, rfl, .inl (.inl hp), atI_nat (j := 1) rfl, ya, a, rfl, aa, fa, by omega, fun H2 s2 => ?_⟩
        refine ⟨_, rfl, p, _, 2, yb, rfl, rfl, .inl (.inl (s2 _ _ hp)), atI_nat (j := 2) rfl, yb, b, rfl, ab.keep (tups_same s2), fb, by omega, fun H3 s3 => ⟨_, _, rfl, ?_⟩⟩
        have et : tru (.n2 w a b) = (tru a).bind fun p => (tru b).bind fun q => some (if w = "and" then p && q else q || !p) := if_neg ns
        have z := q H3 (s2.trans s3)
        rw [et] at z
        have hp3 := (s2.trans s3) _ _ hp
        cases ea : tru a with
        | none =>
          rw [ea] at z
          exact ⟨_, rfl, rfl, _, rfl, iteT (iteT z)⟩
        | some x =>
          refine ⟨_, rfl, rfl, _, rfl, iteF ?_⟩
          cases eb : tru b with
          | none =>
            rw [ea, eb] at z
            exact ⟨_, rfl, rfl, _, rfl, iteT z⟩
          | some y =>
            rw [ea, eb] at z
            refine ⟨_, rfl, rfl, _, rfl, iteF ?_⟩
            refine ⟨_, rfl, p, _, 0, _, rfl, rfl, .inl (.inl hp3), head_at _ _, rfl, _, rfl, ?_⟩
            refine eqW (fun e => ?_) (fun ne => ?_)
            · have z : Q (.bl (if w = "and" then x && y else y || !x)) H3 := z
              rw [if_pos e] at z
              refine ⟨_, rfl, x, rfl, ?_⟩
              cases x with
              | true => exact iteT ⟨_, rfl, z⟩
              | false => exact iteF z
            · have z : Q (.bl (if w = "and" then x && y else y || !x)) H3 := z
              rw [if_neg ne] at z
              refine ⟨_, rfl, y, rfl, ?_⟩
              cases y with
              | true => exact iteT z
              | false => exact iteF ⟨_, rfl, x, rfl, z⟩
theorem ok_dues {f g : Addr} {fd gd : FuncData} (F : Fun K "_law_due" "_law_due" sDue f fd) (G : FnOk P w K mg base CX0 12 g gd ["term"] (spRe 12)) (bG : Binds K gd ["term"] []) (kG : PySem.W.keepIn K (.ref g) = true) (mG : mg "_law_reckoned" = some (.ref g))
    (bS : Binds K fd ["saying"] []) (mS : mg "_law_due" = some (.ref f)) : ∀ n : Nat, n ≤ 12 → FnOk P w K mg base CX0 (12 + n) f fd ["saying"] (spDue n)
  | 0, _ => no_calls fun vs H Q E h => by
    obtain ⟨v, t, _, _, _, hd, _⟩ := h
    have := deep_pos t
    omega
  | n + 1, h => ok_due F G bG kG mG (ok_dues F G bG kG mG bS mS n (by omega)) bS mS h
/-! ### _law_told -/
/-- the classes of refusals that the law looks at -/
structure Errs (K : PySem.W.Frag) (mg : Str → Option Value) (TM GE NN NW : Addr) : Prop where
  mT : mg "TooMany" = some (.ref TM)
  mG : mg "GroundError" = some (.ref GE)
  mN : mg "NoNumber" = some (.ref NN)
  mW : mg "NoWorth" = some (.ref NW)
  up : PySem.W.exmOne K (.ref TM) (.ref GE) = some true
  cls : ExcC K TM
  one : PySem.W.kitOne K (.ref TM) (.ref TM) = some true
  any : PySem.W.kitAny K (.ref TM) [.ref NN, .ref NW] = some false
  zIs : mg "isinstance" = none
  zBool : mg "bool" = none
def spTold : Sp := fun vs H Q _ => ∃ (v : V) (t : Tr), vs = [v] ∧ At H t v ∧ t.Fl ∧ t.deep ≤ 12 ∧ ∀ H', Same H H' → Q (bv (tru t)) H'
theorem ok_told {f gt TM GE NN NW : Addr} {fd dt : FuncData} (F : Fun K "_law_told" "_law_told" sTold f fd) (G : FnOk P w K mg base (L2.CX P w) 4 gt dt ["saying"] (spTrue TM)) (bG : Binds K dt ["saying"] []) (kG : PySem.W.keepIn K (.ref gt) = true) (mG : mg "is_true" = some (.ref gt))
    (M : Errs K mg TM GE NN NW) : FnOk P w K mg base CX0 5 f fd ["saying"] spTold := by
  refine F.ok scTold (fun vs H Q E h => ?_) (fun cdv A outer s H vs Q E hr h => ?_)
  · obtain ⟨v, t, rfl, _⟩ := h
    rfl
  obtain ⟨v, t, rfl, hA, hF, hd, q⟩ := h
  refine ⟨_, pss_cons (ps_set (i := 1) scTold.nd rfl (.inl rfl) pe_non)
    (pss_cons (ps_set (i := 2) scTold.nd rfl (.inl rfl) pe_non)
    (pss_cons (ps_try_hold (i := 3) (c := .ref GE) rfl rfl scTold.nd rfl rfl ⟨by rfl, by decide, .inl M.mG⟩ L2.takes0 rfl
      (fun W pn xe tk _ => pss_one (ps_set (i := 1) scTold.nd rfl (.inl rfl) (pe_call (E := fun cls d H => ∀ σ : L2.St, σ.length = 4 → W cls d σ H) G hr (by rfl) mG kG bG .nil (passes_len tk fun cls d σ H l h => h σ l) (pa_cons (pv 0) pa_nil))))
      (fun a oe cls d pn _ _ => pss_one (ps_set (i := 2) scTold.nd rfl (.inl rfl) (pv 3))))
    (pss_cons (ps_if (pt_cmpR op_notN (pv 2) pe_non (nomark _))
      (pss_one (ps_ret (pe_ifExp (PW.pt (pw_and (pt_val (pe_callB call_isH (by rfl) M.zIs (by decide +kernel) (pa_cons (pv 2) (pa_cons (pe_glob (v := .ref TM) (by rfl) M.mT rfl) pa_nil)))) (pw_and1 (pt_not (pt_val (pe_callB call_isHT (by rfl) M.zIs (by decide +kernel) (pa_cons (pv 2) (pa_cons (pe_tup (pa_cons (pe_glob (v := .ref NN) (by rfl) M.mN rfl) (pa_cons (pe_glob (v := .ref NW) (by rfl) M.mW rfl) pa_nil))) pa_nil)))))))) pe_non pe_str))) pss_nil)
    (pss_one (ps_ret (pe_ifExp (pt_val (pe_callB call_isi (by rfl) M.zIs (by decide +kernel) (pa_cons (pv 1) (pa_cons (pe_bltn (v := .ty "bool") (by rfl) M.zBool (by decide +kernel) rfl) pa_nil)))) (pv 1) pe_str)))))), ?_⟩
  refine ⟨_, rfl, v, t, rfl, hA, hF, hd, fun b H' e sm => ?_, fun H' e sm σ l => ?_⟩
  · refine ⟨_, rfl, rfl, _, rfl, iteNS rfl ?_⟩
    refine ⟨_, rfl, _, _, _, _, true, rfl, .ty "bool", .base (.bl b), kit_ty (by decide +kernel), _, rfl, ?_⟩
    refine iteT ⟨_, rfl, ?_⟩
    have z := q H' sm
    rw [e] at z
    exact z
  · refine ⟨true, M.up, fun _ a na => ?_, fun z => by cases z⟩
    match σ, l with
    | [y0, y1, y2, y3], _ =>
      refine ⟨_, rfl, fun _ => ?_⟩
      have sX : Same H' (upd H' a (ExK (.ref TM) none a)) := same_new na
      refine ⟨_, rfl, rfl, _, rfl, ?_⟩
      rw [show decide (V.ref a = V.non) = false from decide_eq_false (fun z => by cases z)]
      refine iteT ?_
      refine ⟨_, rfl, a, TM, _, _, true, rfl, upd_same, M.cls, .own TM, M.one, _, rfl, ?_⟩
      refine iteT ?_
      refine ⟨_, rfl, (by show 2 ≤ sizeLine; decide), fun tp np => ?_⟩
      have sY := same_put (o := .tup [.ref NN, .ref NW]) sX np
      refine ⟨a, TM, tp, _, _, false, rfl, (by rw [upd_ne (ne_of_none (show (upd H' a (ExK (.ref TM) none a)) a = _ from upd_same) np)]; exact upd_same), M.cls, upd_same, .cons (.own NN) (.cons (.own NW) .nil), M.any, _, rfl, ?_⟩
      refine iteT ?_
      have z := q _ (sm.trans sY)
      rw [e] at z
      exact z
end
/-! ### repr of a truth, of nothing -/
def shownT : V → Str
  | .bl b => if b then "True" else "False"
  | _ => "None"
theorem cr_reprT {X : Cx} : CallR X (.builtin "repr") (fun xs H Q => ∃ o : Option Bool, xs = [bv o] ∧ Q (.str (shownT (bv o))) H) := by
  intro pins s σ H xs us Q I rel ⟨o, ex, q⟩
  subst ex
  cases rel with
  | cons r rr =>
    cases rr
    cases o with
    | none =>
      cases r
      exact P.repr_of_none ⟨.str (shownT .non), H, I.tok _, ⟨_, rfl⟩, q⟩
    | some b =>
      cases r
      cases b with
      | false => exact P.repr_of_bool (b := false) ⟨.str (shownT (.bl false)), H, I.tok _, ⟨_, rfl⟩, q⟩
      | true => exact P.repr_of_bool (b := true) ⟨.str (shownT (.bl true)), H, I.tok _, ⟨_, rfl⟩, q⟩
end Kf
set_option Elab.async false
set_option linter.all false
set_option maxRecDepth 100000
set_option maxHeartbeats 4000000
set_option pp.maxSteps 400
/-! k41: trees as data that repr writes. -/
namespace Kf
open PySem PySem.Spec PyProof.Rows L2 Sx
def datV : V → PyData
  | .int i => .int i
  | .str z => .str z
  | _ => .none
def Tr.dat : Tr → PyData
  | .leaf w x => .tuple [.str w, datV x]
  | .n0 w => .tuple [.str w]
  | .n1 w a => .tuple [.str w, a.dat]
  | .n2 w a b => .tuple [.str w, a.dat, b.dat]
theorem leaf_val {w : Str} {x : V} (ok : (Tr.leaf w x).Ok) : (∃ i, x = .int i) ∨ ∃ z, x = .str z := ok.2.elim (fun h => .inl h.1) (fun h => .inr h.1)
theorem At.dp {K : PySem.W.Frag} {H : Hp} : ∀ {t : Tr} {v : V}, t.Ok → At H t v → Dp K H v t.dat
  | .leaf w x, _, ok, ⟨p, e, h⟩ => by
    subst e
    refine .tup (.inl (.inl h)) (.cons (.str w) (.cons ?_ .nil))
    rcases leaf_val ok with ⟨i, rfl⟩ | ⟨z, rfl⟩
    · exact .int i
    · exact .str z
  | .n0 w, _, ok, ⟨p, e, h⟩ => by
    subst e
    exact .tup (.inl (.inl h)) (.cons (.str w) .nil)
  | .n1 w a, _, ok, ⟨p, y, e, h, ha⟩ => by
    subst e
    exact .tup (.inl (.inl h)) (.cons (.str w) (.cons (ha.dp ok.2) .nil))
  | .n2 w a b, _, ok, ⟨p, y, z, e, h, ha, hb⟩ => by
    subst e
    exact .tup (.inl (.inl h)) (.cons (.str w) (.cons (ha.dp ok.2.1) (.cons (hb.dp ok.2.2) .nil)))
abbrev NmOk (z : Str) : Prop := z.cps.all (· < 0x110000) = true
theorem word_shown {w : Str} (h : NmOk w) (l : w.length ≤ 8) : (PyData.shown (.str w)).length ≤ 82 := by
  have all : ∀ c ∈ w.cps.toList, c < 16 ^ 8 := fun c hc => by
    have q := (Array.all_eq_true_iff_forall_mem.mp h) c (Array.mem_toList_iff.mp hc)
    have q2 : c < 0x110000 := by simpa using q
    exact Nat.lt_of_lt_of_le q2 (by decide)
  have z := StrLaws.reprText_len w all
  have e : (PyData.shown (.str w)).length = (reprText w).length := rfl
  rw [e]
  omega
theorem int_shown {n : Int} (h0 : 0 ≤ n) (h1 : n < 10 ^ 60) : (PyData.shown (.int n)).length ≤ 61 := by
  have lt : n.natAbs < 10 ^ 60 := by omega
  have e := int_text_length_le10 (k := 60) (by decide) lt
  show (Str.ofString (toString n)).length ≤ 61
  rw [PySem.ofString_length]
  exact e
theorem int_log {n : Int} (h0 : 0 ≤ n) (h1 : n < 10 ^ 60) : n.natAbs.log2 < 1920 := by
  by_cases z : n.natAbs = 0
  · rw [z]
    decide
  · refine (Nat.log2_lt z).2 ?_
    have lt : n.natAbs < 10 ^ 60 := by omega
    exact Nat.lt_of_lt_of_le lt (Nat.le_trans (show 10 ^ 60 ≤ 2 ^ 200 by decide) (Nat.pow_le_pow_right (by decide) (by decide)))
/-- what repr wants of a tree -/
structure Sh (d : PyData) (n m : Nat) : Prop where
  show_ : d.showable = true
  dict : d.hasDict = false
  deep : d.depth ≤ n
  len : d.shown.length ≤ 200 * m
theorem tup_len (ds : List PyData) : (PyData.shown (.tuple ds)).length ≤ ((PyData.shownAll ds).map (·.length)).sum + 2 * (PyData.shownAll ds).length + 3 := tupleText_len_le _
theorem sh_one {w : Str} {a : PyData} {n m : Nat} (hw : NmOk w ∧ w.length ≤ 8) (A : Sh a n m) : Sh (.tuple [.str w, a]) (n + 1) (m + 1) := by
  have hs := word_shown hw.1 hw.2
  refine ⟨?_, ?_, ?_, ?_⟩
  · show (true && (a.showable && true)) = true
    rw [A.show_]
    rfl
  · show (false || (a.hasDict || false)) = false
    rw [A.dict]
    rfl
  · show max 0 (max a.depth 0) + 1 ≤ n + 1
    have := A.deep
    omega
  · have z := tup_len [.str w, a]
    have e : ((PyData.shownAll [.str w, a]).map (·.length)).sum = (PyData.shown (.str w)).length + (a.shown.length + 0) := rfl
    have e2 : (PyData.shownAll [.str w, a]).length = 2 := rfl
    have l := A.len
    omega
theorem sh_both {w : Str} {a b : PyData} {n m n2 m2 : Nat} (hw : NmOk w ∧ w.length ≤ 8) (A : Sh a n m) (B : Sh b n2 m2) : Sh (.tuple [.str w, a, b]) (max n n2 + 1) (m + m2 + 1) := by
  have hs := word_shown hw.1 hw.2
  refine ⟨?_, ?_, ?_, ?_⟩
  · show (true && (a.showable && (b.showable && true))) = true
    rw [A.show_, B.show_]
    rfl
  · show (false || (a.hasDict || (b.hasDict || false))) = false
    rw [A.dict, B.dict]
    rfl
  · show max 0 (max a.depth (max b.depth 0)) + 1 ≤ max n n2 + 1
    have := A.deep
    have := B.deep
    omega
  · have z := tup_len [.str w, a, b]
    have e : ((PyData.shownAll [.str w, a, b]).map (·.length)).sum = (PyData.shown (.str w)).length + (a.shown.length + (b.shown.length + 0)) := rfl
    have e2 : (PyData.shownAll [.str w, a, b]).length = 3 := rfl
    have l := A.len
    have l2 := B.len
    omega
theorem sh_cl : ∀ (t : Tr), t.Cl → Sh t.dat t.deep t.size
  | .leaf w x, ⟨e, n, ex, h0, h1⟩ => by
    subst e ex
    have hw : NmOk (Str.ofString "num") ∧ (Str.ofString "num").length ≤ 8 := by decide +kernel
    have hs := word_shown hw.1 hw.2
    have l := int_shown h0 h1
    refine ⟨?_, rfl, Nat.le_refl 1, ?_⟩
    · show (true && (PyData.showable (.int n) && true)) = true
      rw [show PyData.showable (.int n) = true from decide_eq_true (int_log h0 h1)]
      rfl
    · have z := tup_len [.str "num", .int n]
      have e : ((PyData.shownAll [.str "num", .int n]).map (·.length)).sum = (PyData.shown (.str "num")).length + ((PyData.shown (.int n)).length + 0) := rfl
      have e2 : (PyData.shownAll [.str "num", .int n]).length = 2 := rfl
      show (PyData.shown (.tuple [.str "num", .int n])).length ≤ 200 * 1
      omega
  | .n0 _, h => h.elim
  | .n1 w a, ⟨e, h⟩ => sh_one (by rw [e]; decide +kernel) (sh_cl a h)
  | .n2 w a b, ⟨e, h, g⟩ => sh_both (by rcases e with e | e <;> rw [e] <;> decide +kernel) (sh_cl a h) (sh_cl b g)
theorem sh_fl : ∀ (t : Tr), t.Fl → Sh t.dat t.deep t.size
  | .leaf _ _, h => h.elim
  | .n0 w, h => by
    have e : w = "no" := h
    have hw : NmOk w ∧ w.length ≤ 8 := by rw [e]; decide +kernel
    have hs := word_shown hw.1 hw.2
    refine ⟨rfl, rfl, Nat.le_refl 1, ?_⟩
    have z := tup_len [.str w]
    have e : ((PyData.shownAll [.str w]).map (·.length)).sum = (PyData.shown (.str w)).length + 0 := rfl
    have e2 : (PyData.shownAll [.str w]).length = 1 := rfl
    show (PyData.shown (.tuple [.str w])).length ≤ 200 * 1
    omega
  | .n1 _ _, h => h.elim
  | .n2 w a b, .inl ⟨e, h, g⟩ => sh_both (by rw [e]; decide +kernel) (sh_cl a h) (sh_cl b g)
  | .n2 w a b, .inr ⟨e, h, g⟩ => sh_both (by rcases e with e | e <;> rw [e] <;> decide +kernel) (sh_fl a h) (sh_fl b g)
theorem sh_fits {t : Tr} (h : t.Fl) (d : t.deep ≤ 14) : t.dat.showable = true ∧ t.dat.hasDict = false ∧ t.dat.depth ≤ 60 ∧ t.dat.shown.length ≤ sizeLine := by
  have S := sh_fl t h
  refine ⟨S.show_, S.dict, Nat.le_trans S.deep (by omega), Nat.le_trans S.len ?_⟩
  have z := size_deep t
  have p : 2 ^ t.deep ≤ 2 ^ 14 := Nat.pow_le_pow_right (by decide) d
  have e : (2 : Nat) ^ 14 = 16384 := by decide
  have : 200 * t.size ≤ 3276800 := by omega
  exact Nat.le_trans this (by decide)
end Kf
set_option Elab.async false
set_option linter.all false
set_option maxRecDepth 100000
set_option maxHeartbeats 8000000
set_option pp.maxSteps 400
/-! k41: the law. -/
namespace Kf
open PySem PySem.Spec PyProof.Rows L2 Sx Gd
abbrev sLaw : Stmt := top 24
abbrev lawN : List Str := ["script", "k", "feed", "great", "saying", "kept"]
theorem scLaw : FnScope lawN ["script"] (defScope sLaw) := ⟨rfl, rfl, rfl, by decide +kernel, rfl, by decide +kernel, by decide +kernel⟩
theorem lo62 {r : Int} (h : 0 ≤ r) : -(2 ^ 62) ≤ r := Int.le_trans (by decide) h
theorem hi62 {r : Int} (h : r ≤ 1000) : r < 2 ^ 62 := Int.lt_of_le_of_lt h (by decide)
def spLaw (K : PySem.W.Frag) : Sp := fun vs H Q _ => ∃ (a : Addr) (ns : List Int), vs = [.ref a] ∧ SqL K H a (ns.map V.int) ∧ ns.length ≤ 63 ∧ (∀ z ∈ ns, Builtin.Int.intBits z ≤ 1048576) ∧ ∀ H', Q (.bl true) H'
theorem same_seq {K : PySem.W.Frag} {a : Addr} {H H' : Hp} {xs : List V} (b : Same H H') (h : SqL K H a xs) : SqL K H' a xs := by
  rcases h with (h | ⟨o, h⟩) | h
  · exact .inl (.inl (b _ _ h))
  · exact .inl (.inr ⟨o, b _ _ h⟩)
  · exact .inr h
theorem same_of {f : Addr} {H H1 H2 : Hp} (a : Same H H1) (n : H f = none) (b : But f H1 H2) : Same H H2 := fun c o e => b c o (ne_of_none e n) (a _ _ e)
section
variable {P : Program} {w : World} {K : PySem.W.Frag} {mg : Str → Option Value} {base : Heap}
structure Calls (P : Program) (w : World) (K : PySem.W.Frag) (mg : Str → Option Value) (base : Heap) (ff fl fd ft : Addr) (df dl dd dt : FuncData) : Prop where
  Fd : FnOk P w K mg base CX0 1 ff df ["script", "k"] (spFeed K)
  bFd : L2.Binds K df ["script", "k"] []
  kFd : PySem.W.keepIn K (.ref ff) = true
  mFd : mg "_law_feed" = some (.ref ff)
  L : FnOk P w K mg base CX0 10 fl dl ["feed", "deep", "great"] (spFlat 5)
  bL : L2.Binds K dl ["feed", "deep", "great"] []
  kL : PySem.W.keepIn K (.ref fl) = true
  mL : mg "_law_flat" = some (.ref fl)
  D : FnOk P w K mg base CX0 24 fd dd ["saying"] (spDue 12)
  bD : L2.Binds K dd ["saying"] []
  kD : PySem.W.keepIn K (.ref fd) = true
  mD : mg "_law_due" = some (.ref fd)
  T : FnOk P w K mg base CX0 5 ft dt ["saying"] spTold
  bT : L2.Binds K dt ["saying"] []
  kT : PySem.W.keepIn K (.ref ft) = true
  mT : mg "_law_told" = some (.ref ft)
  zRange : mg "range" = none
  zMax : mg "max" = none
  zMin : mg "min" = none
  zLen : mg "len" = none
  zRepr : mg "repr" = none
theorem ok_law {f ff fl fg ft : Addr} {fd df dl dd dt : FuncData} (F : Fun K "law" "law" sLaw f fd) (C : Calls P w K mg base ff fl fg ft df dl dd dt) : FnG P w K mg base 25 f fd ["script"] (spLaw K) := by
  refine okG F scLaw (fun vs H Q E h => ?_) (fun cdv A outer s H vs Q gu hr h => ?_)
  · obtain ⟨a, ns, rfl, _⟩ := h
    rfl
  obtain ⟨a, ns, rfl, hS, hlen, hb, q⟩ := h
  have h1 : Room 1 _ := hr.mono (by decide)
  have h5 : Room 5 _ := hr.mono (by decide)
  have h10 : Room 10 _ := hr.mono (by decide)
  have h24 : Room 24 _ := hr.mono (by decide)
  have u1 : (A.deeper (envOfC "law" (defScope sLaw) s.heap.objs.size f cdv)).units + 64 < cLine := by
    have := hr.units
    omega
  refine ⟨_, pss_cons (ps_for PassesOwn.never rfl (pi_range1 (by rfl) C.zRange (pa_cons (pe_callB (call_max2 rfl) (by rfl) C.zMax (by decide +kernel) (pa_cons pe_int (pa_cons (pe_callB (call_min2 rfl) (by rfl) C.zMin (by decide +kernel) (pa_cons pe_int (pa_cons (pe_callB call_len_seq (by rfl) C.zLen PySem.boot_len (pa_cons (pv 0) pa_nil)) pa_nil))) pa_nil))) pa_nil)) (pg_name (i := 1) scLaw.nd rfl (.inl rfl))
      (pss_cons (ps_set (i := 2) scLaw.nd rfl (.inl rfl) (pe_call C.Fd h1 (by rfl) C.mFd C.kFd C.bFd .nil pass0 (pa_cons (pv 0) (pa_cons (pv 1) pa_nil))))
      (pss_one (ps_for PassesOwn.never rfl (pi_list (pe_lst (pa_cons pe_int (pa_cons pe_int pa_nil)))) (pg_name (i := 3) scLaw.nd rfl (.inl rfl))
        (pss_cons (ps_set (i := 4) scLaw.nd rfl (.inl rfl) (pe_call C.L h10 (by rfl) C.mL C.kL C.bL .nil pass0 (pa_cons (pv 2) (pa_cons pe_int (pa_cons (pv 3) pa_nil)))))
        (pss_cons (ps_set (i := 5) scLaw.nd rfl (.inl rfl) (pe_callB (cr_reprD gu u1) (by rfl) C.zRepr (by decide +kernel) (pa_cons (pv 4) pa_nil)))
        (pss_one (ps_if (PW.pt (pw_or (pt_cmpR op_ne (pe_callB cr_reprT (by rfl) C.zRepr (by decide +kernel) (pa_cons (pe_call C.T h5 (by rfl) C.mT C.kT C.bT .nil pass0 (pa_cons (pv 4) pa_nil)) pa_nil)) (pe_callB cr_reprT (by rfl) C.zRepr (by decide +kernel) (pa_cons (pe_call C.D h24 (by rfl) C.mD C.kD C.bD .nil pass0 (pa_cons (pv 4) pa_nil)) pa_nil)) (nomark _))
          (pw_or1 (pt_cmpR op_ne (pe_callB (cr_reprD gu u1) (by rfl) C.zRepr (by decide +kernel) (pa_cons (pv 4) pa_nil)) (pv 5) (nomark _))))) (pss_one (ps_ret pe_bl)) pss_nil))))))))
    (pss_one (ps_ret pe_bl)), ?_⟩
  have bounds : ∀ n : Int, 0 ≤ n → (2 : Int) ≤ (if (if n < 6 then n else 6) > 2 then (if n < 6 then n else 6) else 2) ∧ (if (if n < 6 then n else 6) > 2 then (if n < 6 then n else 6) else 2) ≤ 6 := fun n _ => by
    split
    · split <;> omega
    · omega
  obtain ⟨bn1, bn2⟩ := bounds ((ns.map V.int).length : Nat) (Int.natCast_nonneg _)
  refine ⟨_, rfl, a, _, rfl, .inl hS, _, _, rfl, _, _, rfl, _, rfl, lo62 (by omega), hi62 (by omega), ?_⟩
  generalize (if (if (((ns.map V.int).length : Nat) : Int) < 6 then (((ns.map V.int).length : Nat) : Int) else 6) > 2 then (if (((ns.map V.int).length : Nat) : Int) < 6 then (((ns.map V.int).length : Nat) : Int) else 6) else 2) = turns at bn1 bn2 ⊢
  refine for_range (lo := 0) (n := turns.toNat) (fun i σ H' => ∃ y1 y2 y3 y4 y5 : Option V, σ = [some (.ref a), y1, y2, y3, y4, y5] ∧ Same H H')
    ⟨none, none, none, none, none, rfl, fun _ _ e => e⟩ ?_ ?_
  · rintro i σ H0 hi ⟨y1, y2, y3, y4, y5, rfl, e0⟩
    refine ⟨_, rfl, _, rfl, a, ns, i, (by show [V.ref a, V.int (0 + (i : Int))] = _; rw [Int.zero_add]), same_seq e0 hS, hb, by omega, fun f H1 s1 nf hF1 => ?_⟩
    refine ⟨(by show 2 ≤ sizeLine; decide), fun l nl => ?_⟩
    have nlf : l ≠ f := hF1.ne nl
    have s2 : Same H1 (upd H1 l (.lst [.int 2, .int 12])) := same_new nl
    have hF2 := hF1.same s2
    generalize hH2 : upd H1 l (.lst [.int 2, .int 12]) = H2 at s2 hF2
    have hl2 : H2 l = some (.lst [.int 2, .int 12]) := by rw [← hH2, upd_same]
    have S2 : Same H0 H2 := s1.trans s2
    clear hH2 nl hF1 s2 s1
    refine ⟨l, rfl, ⟨_, .inl (.inl hl2)⟩, for_list (K := K) (a := l) (xs := [.int 2, .int 12]) (fun j σ H' => ∃ y3 y4 y5 : Option V, σ = [some (.ref a), some (.int (0 + (i : Int))), some (.ref f), y3, y4, y5] ∧ But f H2 H' ∧ FeedAt H' f)
      ⟨_, _, _, rfl, fun _ _ _ e => e, hF2⟩ (fun j σ H' _ ⟨_, _, _, _, b, _⟩ => .inl (.inl (b _ _ nlf hl2))) ?_ ?_⟩
    · rintro j x σ H8 hx ⟨y3, y4, y5, rfl, b8, hF8⟩
      have gx : ∃ g : Int, x = .int g ∧ 0 < g ∧ g ≤ 1000 := by
        have mem := List.mem_of_getElem? hx
        rcases List.mem_cons.mp mem with e | e
        · exact ⟨2, e, by decide, by decide⟩
        · exact ⟨12, List.mem_singleton.mp e, by decide, by decide⟩
      obtain ⟨g, rfl, g0, g1⟩ := gx
      refine ⟨_, rfl, _, rfl, f, 4, g, rfl, by decide, g0, g1, hF8, fun t v H9 fl dp at9 b9 hF9 => ?_⟩
      have hO := fl_ok fl
      obtain ⟨f1, f2, f3, f4⟩ := sh_fits fl (by omega)
      obtain ⟨p, _, rfl, _⟩ := at9.view hO
      refine ⟨_, rfl, p, t.dat, rfl, at9.dp hO, f1, f2, f3, f4, ?_⟩
      refine ⟨_, rfl, _, t, rfl, at9, fl, by omega, fun Ha sa => ⟨_, rfl, ?_⟩⟩
      have hata := at9.keep (tups_same sa)
      refine ⟨_, rfl, _, t, rfl, hata, fl, by omega, fun Hb sb => ⟨_, rfl, ?_⟩⟩
      have hatb := hata.keep (tups_same sb)
      refine ⟨rfl, _, rfl, iteNS rfl ?_⟩
      refine ⟨_, rfl, p, t.dat, rfl, hatb.dp hO, f1, f2, f3, f4, _, rfl, rfl, _, rfl, iteNS rfl ?_⟩
      exact ⟨_, _, _, rfl, (b8.trans b9).trans (but_same (sa.trans sb)), (hF9.same sa).same sb⟩
    · rintro σ H8 ⟨y3, y4, y5, rfl, b8, hF8⟩
      exact ⟨_, _, _, _, _, rfl, e0.trans (same_of S2 nf b8)⟩
  · rintro σ H0 ⟨y1, y2, y3, y4, y5, rfl, e0⟩
    exact q _
end
end Kf
set_option Elab.async false
set_option linter.all false
set_option maxRecDepth 100000
/-! The top, the end. -/
namespace Kf
open PySem PySem.Spec PyProof.Rows L2 Sx Gd
theorem all_mk {l : PySem.W.OpenLaw} {w : World} {K : PySem.W.Frag} {h : Heap} {mg : Str → Option Value} {fa f1 f2 f3 f4 f5 f6 f7 f8 f9 f10 f11 f12 f13 : Addr} (X : K.In h) (G : h.Ns mainGlobals mg) (hfa : mg "law" = some (.ref fa))
    {od1 an1 od2 an2 od3 an3 od4 an4 od5 an5 od6 an6 od7 an7 od8 an8 od9 an9 od10 an10 od11 an11 od12 an12 od13 an13 : Option Addr} {sl1 sl2 sl3 sl4 sl5 sl6 sl7 sl8 sl9 sl10 sl11 sl12 sl13 : Array (Option Value)} {oc1 kV1 dc1 pm1 cd1 ct1 oc2 kV2 dc2 pm2 cd2 ct2 oc3 kV3 dc3 pm3 cd3 ct3 oc4 kV4 dc4 pm4 cd4 ct4 oc5 kV5 dc5 pm5 cd5 ct5 oc6 kV6 dc6 pm6 cd6 ct6 oc7 kV7 dc7 pm7 cd7 ct7 oc8 kV8 dc8 pm8 cd8 ct8 oc9 kV9 dc9 pm9 cd9 ct9 oc10 kV10 dc10 pm10 cd10 ct10 oc11 kV11 dc11 pm11 cd11 ct11 oc12 kV12 dc12 pm12 cd12 ct12 oc13 kV13 dc13 pm13 cd13 ct13 : Value}
    (a1 : PySem.W.nsIn K mainGlobals "beneath" = some (some (.ref f1))) (l1 : K.lookup f1 = some ⟨oc1, od1, .func (PySem.W.fnOf "beneath" "beneath" (defArgs sBeneath) (defBody sBeneath) (defScope sBeneath) .none kV1 dc1 pm1 an1 cd1 ct1), sl1⟩) (c1 : PySem.W.codeIn K cd1 "beneath" = true) (k1 : PySem.W.keepIn K (.ref f1) = true)
    (a2 : PySem.W.nsIn K mainGlobals "pieces_of" = some (some (.ref f2))) (l2 : K.lookup f2 = some ⟨oc2, od2, .func (PySem.W.fnOf "pieces_of" "pieces_of" (defArgs sPieces) (defBody sPieces) (defScope sPieces) .none kV2 dc2 pm2 an2 cd2 ct2), sl2⟩) (c2 : PySem.W.codeIn K cd2 "pieces_of" = true) (k2 : PySem.W.keepIn K (.ref f2) = true)
    (a3 : PySem.W.nsIn K mainGlobals "worth" = some (some (.ref f3))) (l3 : K.lookup f3 = some ⟨oc3, od3, .func (PySem.W.fnOf "worth" "worth" (defArgs sWorth) (defBody sWorth) (defScope sWorth) .none kV3 dc3 pm3 an3 cd3 ct3), sl3⟩) (c3 : PySem.W.codeIn K cd3 "worth" = true) (k3 : PySem.W.keepIn K (.ref f3) = true)
    (a4 : PySem.W.nsIn K mainGlobals "is_true" = some (some (.ref f4))) (l4 : K.lookup f4 = some ⟨oc4, od4, .func (PySem.W.fnOf "is_true" "is_true" (defArgs sTrue) (defBody sTrue) (defScope sTrue) .none kV4 dc4 pm4 an4 cd4 ct4), sl4⟩) (c4 : PySem.W.codeIn K cd4 "is_true" = true) (k4 : PySem.W.keepIn K (.ref f4) = true)
    (a5 : PySem.W.nsIn K mainGlobals "_law_feed" = some (some (.ref f5))) (l5 : K.lookup f5 = some ⟨oc5, od5, .func (PySem.W.fnOf "_law_feed" "_law_feed" (defArgs sFeed) (defBody sFeed) (defScope sFeed) .none kV5 dc5 pm5 an5 cd5 ct5), sl5⟩) (c5 : PySem.W.codeIn K cd5 "_law_feed" = true) (k5 : PySem.W.keepIn K (.ref f5) = true)
    (a6 : PySem.W.nsIn K mainGlobals "_law_take" = some (some (.ref f6))) (l6 : K.lookup f6 = some ⟨oc6, od6, .func (PySem.W.fnOf "_law_take" "_law_take" (defArgs sTake) (defBody sTake) (defScope sTake) .none kV6 dc6 pm6 an6 cd6 ct6), sl6⟩) (c6 : PySem.W.codeIn K cd6 "_law_take" = true) (k6 : PySem.W.keepIn K (.ref f6) = true)
    (a7 : PySem.W.nsIn K mainGlobals "_law_pick" = some (some (.ref f7))) (l7 : K.lookup f7 = some ⟨oc7, od7, .func (PySem.W.fnOf "_law_pick" "_law_pick" (defArgs sPick) (defBody sPick) (defScope sPick) .none kV7 dc7 pm7 an7 cd7 ct7), sl7⟩) (c7 : PySem.W.codeIn K cd7 "_law_pick" = true) (k7 : PySem.W.keepIn K (.ref f7) = true)
    (a8 : PySem.W.nsIn K mainGlobals "_law_great" = some (some (.ref f8))) (l8 : K.lookup f8 = some ⟨oc8, od8, .func (PySem.W.fnOf "_law_great" "_law_great" (defArgs sGreat) (defBody sGreat) (defScope sGreat) .none kV8 dc8 pm8 an8 cd8 ct8), sl8⟩) (c8 : PySem.W.codeIn K cd8 "_law_great" = true) (k8 : PySem.W.keepIn K (.ref f8) = true)
    (a9 : PySem.W.nsIn K mainGlobals "_law_flat" = some (some (.ref f9))) (l9 : K.lookup f9 = some ⟨oc9, od9, .func (PySem.W.fnOf "_law_flat" "_law_flat" (defArgs sFlat) (defBody sFlat) (defScope sFlat) .none kV9 dc9 pm9 an9 cd9 ct9), sl9⟩) (c9 : PySem.W.codeIn K cd9 "_law_flat" = true) (k9 : PySem.W.keepIn K (.ref f9) = true)
    (a10 : PySem.W.nsIn K mainGlobals "_law_reckoned" = some (some (.ref f10))) (l10 : K.lookup f10 = some ⟨oc10, od10, .func (PySem.W.fnOf "_law_reckoned" "_law_reckoned" (defArgs sRe) (defBody sRe) (defScope sRe) .none kV10 dc10 pm10 an10 cd10 ct10), sl10⟩) (c10 : PySem.W.codeIn K cd10 "_law_reckoned" = true) (k10 : PySem.W.keepIn K (.ref f10) = true)
    (a11 : PySem.W.nsIn K mainGlobals "_law_due" = some (some (.ref f11))) (l11 : K.lookup f11 = some ⟨oc11, od11, .func (PySem.W.fnOf "_law_due" "_law_due" (defArgs sDue) (defBody sDue) (defScope sDue) .none kV11 dc11 pm11 an11 cd11 ct11), sl11⟩) (c11 : PySem.W.codeIn K cd11 "_law_due" = true) (k11 : PySem.W.keepIn K (.ref f11) = true)
    (a12 : PySem.W.nsIn K mainGlobals "_law_told" = some (some (.ref f12))) (l12 : K.lookup f12 = some ⟨oc12, od12, .func (PySem.W.fnOf "_law_told" "_law_told" (defArgs sTold) (defBody sTold) (defScope sTold) .none kV12 dc12 pm12 an12 cd12 ct12), sl12⟩) (c12 : PySem.W.codeIn K cd12 "_law_told" = true) (k12 : PySem.W.keepIn K (.ref f12) = true)
    (a13 : PySem.W.nsIn K mainGlobals "law" = some (some (.ref f13))) (l13 : K.lookup f13 = some ⟨oc13, od13, .func (PySem.W.fnOf "law" "law" (defArgs sLaw) (defBody sLaw) (defScope sLaw) .none kV13 dc13 pm13 an13 cd13 ct13), sl13⟩) (c13 : PySem.W.codeIn K cd13 "law" = true) (k13 : PySem.W.keepIn K (.ref f13) = true)
    (zrange : PySem.W.nsIn K mainGlobals "range" = some none)
    (zmax : PySem.W.nsIn K mainGlobals "max" = some none)
    (zmin : PySem.W.nsIn K mainGlobals "min" = some none)
    (zlen : PySem.W.nsIn K mainGlobals "len" = some none)
    (zabs : PySem.W.nsIn K mainGlobals "abs" = some none)
    (zrepr : PySem.W.nsIn K mainGlobals "repr" = some none)
    (zisinstance : PySem.W.nsIn K mainGlobals "isinstance" = some none)
    (zbool : PySem.W.nsIn K mainGlobals "bool" = some none)
    {LV BV : Addr} {ddL ddB : Option Addr} {slL slB : Array (Option Value)} {nL nB : Nat} {t1 t2 t3 t4 t5 : Tok} (aL : PySem.W.nsIn K mainGlobals "LEAVES" = some (some (.ref LV))) (oL : K.lookup LV = some ⟨.type "tuple", ddL, .seq #[.str "num" t1, .str "name" t2, .str "bound" t3] nL, slL⟩)
    (aB : PySem.W.nsIn K mainGlobals "BINDERS" = some (some (.ref BV))) (oB : K.lookup BV = some ⟨.type "tuple", ddB, .seq #[.str "all" t4, .str "some" t5] nB, slB⟩)
    {TM : Addr} {tG : Tok} {gN : Int} (aTM : PySem.W.nsIn K mainGlobals "TooMany" = some (some (.ref TM))) (kTM : PySem.W.keepIn K (.ref TM) = true) (xTM : PySem.W.excIn K TM [.type "ValueError", .type "Exception", .type "BaseException", .type "object"] "ValueError.__new__" = true) (sTM : PySem.W.subIn K (.ref TM) (.type "BaseException") = some true) (yTM : PySem.W.typeIn K (.ref TM) = some (.type "type")) (oTM : PySem.W.exmOne K (.ref TM) (.ref TM) = some true) (aTG : PySem.W.nsIn K mainGlobals "TOO_GREAT" = some (some (.int gN tG))) (eTG : gN = TG)
    {GE NN NW : Addr} (aGE : PySem.W.nsIn K mainGlobals "GroundError" = some (some (.ref GE))) (aNN : PySem.W.nsIn K mainGlobals "NoNumber" = some (some (.ref NN))) (aNW : PySem.W.nsIn K mainGlobals "NoWorth" = some (some (.ref NW))) (uTM : PySem.W.exmOne K (.ref TM) (.ref GE) = some true)
    (e1 : PySem.W.findIn K (.ref TM) "__getattribute__" = some (some (.builtin "BaseException.__getattribute__"))) (e2 : PySem.W.findIn K (.ref TM) "__getattr__" = some none) (e3 : PySem.W.hasDictIn K TM = true) (e4 : PySem.W.findIn K (.ref TM) "__class__" = some (some (.builtin "object.__class__"))) (e5 : PySem.W.specialIn K (.builtin "object.__class__") "__get__" = some (some (.builtin "getset_descriptor.__get__"))) (e6 : PySem.W.takesIn K (.builtin "object.__class__") = some true) (e7 : PySem.W.mroIn K TM (.type "object") = some true) (i1 : PySem.W.kitOne K (.ref TM) (.ref TM) = some true) (i2 : PySem.W.kitAny K (.ref TM) [.ref NN, .ref NW] = some false) :
    LawG l w K 25 63 "script" mg fa h := by
  have e := hfa.symm.trans (PySem.W.mg_of X G a13)
  cases e
  have F1 := fun_mk (st := sBeneath) l1 c1 k1
  have b1 := F1.binds (ps := ["piece", "around"]) fun _ _ _ _ _ _ us hl => match us, hl with | [_, _], _ => rfl
  have m1 := PySem.W.mg_of X G a1
  have F2 := fun_mk (st := sPieces) l2 c2 k2
  have b2 := F2.binds (ps := ["thing"]) fun _ _ _ _ _ _ us hl => match us, hl with | [_], _ => rfl
  have m2 := PySem.W.mg_of X G a2
  have F3 := fun_mk (st := sWorth) l3 c3 k3
  have b3 := F3.binds (ps := ["term", "numbers"]) fun _ _ _ _ _ _ us hl => match us, hl with | [_, _], _ => rfl
  have m3 := PySem.W.mg_of X G a3
  have F4 := fun_mk (st := sTrue) l4 c4 k4
  have b4 := F4.binds (ps := ["saying"]) fun _ _ _ _ _ _ us hl => match us, hl with | [_], _ => rfl
  have m4 := PySem.W.mg_of X G a4
  have F5 := fun_mk (st := sFeed) l5 c5 k5
  have b5 := F5.binds (ps := ["script", "k"]) fun _ _ _ _ _ _ us hl => match us, hl with | [_, _], _ => rfl
  have m5 := PySem.W.mg_of X G a5
  have F6 := fun_mk (st := sTake) l6 c6 k6
  have b6 := F6.binds (ps := ["feed", "many"]) fun _ _ _ _ _ _ us hl => match us, hl with | [_, _], _ => rfl
  have m6 := PySem.W.mg_of X G a6
  have F7 := fun_mk (st := sPick) l7 c7 k7
  have b7 := F7.binds (ps := ["feed", "some"]) fun _ _ _ _ _ _ us hl => match us, hl with | [_, _], _ => rfl
  have m7 := PySem.W.mg_of X G a7
  have F8 := fun_mk (st := sGreat) l8 c8 k8
  have b8 := F8.binds (ps := ["feed", "deep"]) fun _ _ _ _ _ _ us hl => match us, hl with | [_, _], _ => rfl
  have m8 := PySem.W.mg_of X G a8
  have F9 := fun_mk (st := sFlat) l9 c9 k9
  have b9 := F9.binds (ps := ["feed", "deep", "great"]) fun _ _ _ _ _ _ us hl => match us, hl with | [_, _, _], _ => rfl
  have m9 := PySem.W.mg_of X G a9
  have F10 := fun_mk (st := sRe) l10 c10 k10
  have b10 := F10.binds (ps := ["term"]) fun _ _ _ _ _ _ us hl => match us, hl with | [_], _ => rfl
  have m10 := PySem.W.mg_of X G a10
  have F11 := fun_mk (st := sDue) l11 c11 k11
  have b11 := F11.binds (ps := ["saying"]) fun _ _ _ _ _ _ us hl => match us, hl with | [_], _ => rfl
  have m11 := PySem.W.mg_of X G a11
  have F12 := fun_mk (st := sTold) l12 c12 k12
  have b12 := F12.binds (ps := ["saying"]) fun _ _ _ _ _ _ us hl => match us, hl with | [_], _ => rfl
  have m12 := PySem.W.mg_of X G a12
  have F13 := fun_mk (st := sLaw) l13 c13 k13
  have m13 := PySem.W.mg_of X G a13
  have grange := PySem.W.mg_none_of X G zrange
  have gmax := PySem.W.mg_none_of X G zmax
  have gmin := PySem.W.mg_none_of X G zmin
  have glen := PySem.W.mg_none_of X G zlen
  have gabs := PySem.W.mg_none_of X G zabs
  have grepr := PySem.W.mg_none_of X G zrepr
  have gisinstance := PySem.W.mg_none_of X G zisinstance
  have gbool := PySem.W.mg_none_of X G zbool
  refine ⟨PySem.W.fnOf "law" "law" (defArgs sLaw) (defBody sLaw) (defScope sLaw) .none kV13 dc13 pm13 an13 cd13 ct13, [], spLaw K, fun p hp => (List.not_mem_nil hp).elim, fun p hp => (List.not_mem_nil hp).elim, fun p hp => (List.not_mem_nil hp).elim, fun s v => .of_eq rfl,
    fun H a ns hl hb _ hS => ⟨a, ns, rfl, hS, hl, hb, fun _ => rfl⟩, fun base _ _ _ => ?_⟩

  have T : Txt K mg LV BV := ⟨PySem.W.mg_of X G aL, PySem.W.mg_of X G aB, fun H => .inr ⟨_, _, _, oL, rfl, rfl, (by show 3 ≤ sizeLine; decide), .cons ⟨_, rfl⟩ (.cons ⟨_, rfl⟩ (.cons ⟨_, rfl⟩ .nil))⟩, fun H => .inr ⟨_, _, _, oB, rfl, rfl, (by show 2 ≤ sizeLine; decide), .cons ⟨_, rfl⟩ (.cons ⟨_, rfl⟩ .nil)⟩⟩
  have gTake := ok_take (P := l.prog) (w := w) (base := base) (mg := mg) (j := 0) F6
  have D : Draw l.prog w K mg base f6 f7 _ _ := ⟨gTake, b6, k6, m6, ok_pick F7 gTake b6 k6 m6 glen, b7, k7, m7⟩
  have gBen := ok_beneath (P := l.prog) (w := w) (base := base) (j := 0) F1 T
  have gPie := ok_pieces F2 T gBen b1 k1 m1
  have M : Many K mg TM := ⟨⟨_, _, _, xTM, PySem.F.excBase_ValueError⟩, PySem.W.mg_of X G aTM, kTM, sTM, yTM, oTM⟩
  have mTG : mg "TOO_GREAT" = some (.int TG tG) := by
    rw [← eTG]
    exact PySem.W.mg_of X G aTG
  have gWo := ok_worth F3 gPie b2 k2 m2 M mTG
  have gTr := ok_true F4 gPie b2 k2 m2 gWo b3 k3 m3
  have E : Errs K mg TM GE NN NW := ⟨PySem.W.mg_of X G aTM, PySem.W.mg_of X G aGE, PySem.W.mg_of X G aNN, PySem.W.mg_of X G aNW, uTM, ⟨e1, e2, sTM, e3, e4, e5, e6, e7⟩, i1, i2, gisinstance, gbool⟩
  have gTo := ok_told F12 gTr b4 k4 m4 E
  have gGr := ok_greats F8 D b8 m8
  have gFl := ok_flats F9 D (gGr 3) b8 k8 m8 b9 m9
  have gRe := ok_res (P := l.prog) (w := w) (base := base) F10 b10 m10
  have gDue := ok_dues F11 (gRe 12) b10 k10 m10 b11 m11 12 (Nat.le_refl 12)
  have gFeed := ok_feed (P := l.prog) (w := w) (base := base) (j := 0) F5 glen gabs
  exact ok_law F13 ⟨gFeed, b5, k5, m5, gFl 5, b9, k9, m9, gDue, b11, k11, m11, gTo, b12, k12, m12, grange, gmax, gmin, glen, grepr⟩
theorem walk {l : PySem.W.OpenLaw} {q : Program} {loose : List Str} {XP : (Str → Option Value) → Heap → Prop} {YP : World → Heap → Prop} {d : DefRec} {K : Params → PySem.W.Frag} (hn : l.most = some 63) (hdf : d.params.defaults = [])
    (hY : ∀ (w : World) (h : Heap), YP w h → (K w.params).In h)
    (F : ∀ (w : World) (mg : Str → Option Value) (fa : Addr) (h : Heap), (K w.params).In h → h.Ns mainGlobals mg → mg d.name = some (.ref fa) → LawG l w (K w.params) 25 63 "script" mg fa h) :
    PySem.W.WalkO q loose XP YP l.row.toRowW d [] (fun f vs => PySem.call f vs) :=
  walk_guard [] hn (by decide) hdf ⟨rfl, by decide, by decide⟩ (fun nm h => (List.not_mem_nil h).elim) hY (fun w mg fa h _ KX G hm _ => F w mg fa h KX G hm)
end Kf
open PySem PySem.W PyProof.Rows in
set_option maxRecDepth 100000 in
set_option maxHeartbeats 0 in
theorem PySem.Challenge.cw_prooffruit_k41_truth_of_flat_sayings_holds : PySem.Challenge.rw_prooffruit_k41_truth_of_flat_sayings.Holds := by
  w_on; o_law; k_head; (case hw => w_witness2)
  k_fill
  refine Kf.walk (l := PySem.Challenge.rw_prooffruit_k41_truth_of_flat_sayings) rfl rfl (fun w h Y => PySem.W.kIn_of Y) ?F
  case F =>
    intro w mg fa h KX G hmg
    refine' Kf.all_mk KX G hmg ?a1 ?l1 ?c1 ?k1 ?a2 ?l2 ?c2 ?k2 ?a3 ?l3 ?c3 ?k3 ?a4 ?l4 ?c4 ?k4 ?a5 ?l5 ?c5 ?k5 ?a6 ?l6 ?c6 ?k6 ?a7 ?l7 ?c7 ?k7 ?a8 ?l8 ?c8 ?k8 ?a9 ?l9 ?c9 ?k9 ?a10 ?l10 ?c10 ?k10 ?a11 ?l11 ?c11 ?k11 ?a12 ?l12 ?c12 ?k12 ?a13 ?l13 ?c13 ?k13 ?zrange ?zmax ?zmin ?zlen ?zabs ?zrepr ?zisinstance ?zbool ?aL ?oL ?aB ?oB ?aTM ?kTM ?xTM ?sTM ?yTM ?oTM ?aTG ?eTG ?aGE ?aNN ?aNW ?uTM ?e1 ?e2 ?e3 ?e4 ?e5 ?e6 ?e7 ?i1 ?i2
    (case a1 => first | k_is | rfl)
    (case l1 => first | k_is | rfl)
    (case c1 => first | k_is | rfl)
    (case k1 => first | k_is | rfl)
    (case a2 => first | k_is | rfl)
    (case l2 => first | k_is | rfl)
    (case c2 => first | k_is | rfl)
    (case k2 => first | k_is | rfl)
    (case a3 => first | k_is | rfl)
    (case l3 => first | k_is | rfl)
    (case c3 => first | k_is | rfl)
    (case k3 => first | k_is | rfl)
    (case a4 => first | k_is | rfl)
    (case l4 => first | k_is | rfl)
    (case c4 => first | k_is | rfl)
    (case k4 => first | k_is | rfl)
    (case a5 => first | k_is | rfl)
    (case l5 => first | k_is | rfl)
    (case c5 => first | k_is | rfl)
    (case k5 => first | k_is | rfl)
    (case a6 => first | k_is | rfl)
    (case l6 => first | k_is | rfl)
    (case c6 => first | k_is | rfl)
    (case k6 => first | k_is | rfl)
    (case a7 => first | k_is | rfl)
    (case l7 => first | k_is | rfl)
    (case c7 => first | k_is | rfl)
    (case k7 => first | k_is | rfl)
    (case a8 => first | k_is | rfl)
    (case l8 => first | k_is | rfl)
    (case c8 => first | k_is | rfl)
    (case k8 => first | k_is | rfl)
    (case a9 => first | k_is | rfl)
    (case l9 => first | k_is | rfl)
    (case c9 => first | k_is | rfl)
    (case k9 => first | k_is | rfl)
    (case a10 => first | k_is | rfl)
    (case l10 => first | k_is | rfl)
    (case c10 => first | k_is | rfl)
    (case k10 => first | k_is | rfl)
    (case a11 => first | k_is | rfl)
    (case l11 => first | k_is | rfl)
    (case c11 => first | k_is | rfl)
    (case k11 => first | k_is | rfl)
    (case a12 => first | k_is | rfl)
    (case l12 => first | k_is | rfl)
    (case c12 => first | k_is | rfl)
    (case k12 => first | k_is | rfl)
    (case a13 => first | k_is | rfl)
    (case l13 => first | k_is | rfl)
    (case c13 => first | k_is | rfl)
    (case k13 => first | k_is | rfl)
    (case zrange => first | k_is | rfl)
    (case zmax => first | k_is | rfl)
    (case zmin => first | k_is | rfl)
    (case zlen => first | k_is | rfl)
    (case zabs => first | k_is | rfl)
    (case zrepr => first | k_is | rfl)
    (case zisinstance => first | k_is | rfl)
    (case zbool => first | k_is | rfl)
    (case aL => first | k_is | rfl)
    (case oL => first | k_is | rfl)
    (case aB => first | k_is | rfl)
    (case oB => first | k_is | rfl)
    (case aTM => first | k_is | rfl)
    (case kTM => first | k_is | rfl | decide +kernel)
    (case xTM => k_exc)
    (case sTM => first | k_is | rfl | decide +kernel)
    (case yTM => first | k_is | rfl | decide +kernel)
    (case oTM => first | k_is | rfl | decide +kernel)
    (case aTG => first | k_is | rfl)
    (case eTG => first | rfl | decide +kernel)
    (case aGE => first | k_is | rfl)
    (case aNN => first | k_is | rfl)
    (case aNW => first | k_is | rfl)
    (case uTM => first | k_is | rfl | decide +kernel)
    (case e1 => first | k_is | rfl | decide +kernel)
    (case e2 => first | k_is | rfl | decide +kernel)
    (case e3 => first | k_is | rfl | decide +kernel)
    (case e4 => first | k_is | rfl | decide +kernel)
    (case e5 => first | k_is | rfl | decide +kernel)
    (case e6 => first | k_is | rfl | decide +kernel)
    (case e7 => first | k_is | rfl | decide +kernel)
    (case i1 => first | k_is | rfl | decide +kernel)
    (case i2 => first | k_is | rfl | decide +kernel)
