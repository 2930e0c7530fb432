import PyProof.Rows.All
import Wide.All
import OpenK.AllK
import Wide.FinOn
import HandS.ForMost
import HandS.SetKeys
import HandS.SetFor
import HandS.Strs
import HandS.More
import HandS.Wide
import HandS.IsInst
import HandS.TupAny
import HandS.EndBits
import HandS.WideBits
import HandS.Lambda
import HandS.Nested
import HandS.Star
import HandS.Flow
import HandS.EndTab
import PyProof.ReprRoads
import HandS.EndOwn
import HandS.Deep
import HandS.DeepEq
import HandS.Style
import KE.KRevSl
import PyProof.ReprLen
import PySem.Challenge.RW_prooffruit_k24_worths_or_not
set_option Elab.async false
set_option linter.all false
set_option maxRecDepth 100000
set_option maxHeartbeats 4000000
/-! Sets of texts, whatever the world's order of them is: set(), set(a list), add, sorted. -/
namespace Sx
open PySem PySem.Spec PyProof.Rows L2
/-- the text of an entry -/
def tx (e : Int × Value) : Str := match e.2 with
  | .str k _ => k
  | _ => Str.empty
def Ent (w : World) (e : Int × Value) : Prop := ∃ k tk, e = (hashStr w k, Value.str k tk)
/-- one text more -/
def ins (k : Str) (ks : List Str) : List Str := if k ∈ ks then ks else k :: ks
theorem ins_mem {k j : Str} {ks : List Str} : j ∈ ins k ks ↔ j = k ∨ j ∈ ks := by
  unfold ins
  split
  · rename_i h
    exact ⟨.inr, fun q => q.elim (fun e => e ▸ h) (fun q => q)⟩
  · exact List.mem_cons
theorem ins_nodup {k : Str} {ks : List Str} (h : ks.Nodup) : (ins k ks).Nodup := by
  unfold ins
  split
  · exact h
  · rename_i q
    exact List.nodup_cons.mpr ⟨q, h⟩
theorem ins_len {k : Str} {ks : List Str} : (ins k ks).length ≤ ks.length + 1 := by
  unfold ins
  split
  · omega
  · exact Nat.le_refl _
/-- the set's table: its rows are the texts ks, it can be walked -/
structure Rows (w : World) (es : Array (Int × Value)) (t : SetTable) (ks : List Str) : Prop where
  ent : ∀ e ∈ es.toList, Ent w e
  perm : (es.toList.map tx).Perm ks
  nd : ks.Nodup
  few : es.size < scanBound
  fit : t.fits es.size = true
  ris : Ris t.place.toList
  led : w.params.followText "set-order" = true ∨ t.led = true
def SetS (w : World) (h : Heap) (a : Addr) (ks : List Str) : Prop := ∃ o es ep t, h.get? a = some o ∧ o.ExactSet ∧ o.data = .set es ep t ∧ Rows w es t ks
section
variable {P : Program} {w : World} {h h' : Heap} {a : Addr} {ks : List Str} {es : Array (Int × Value)} {t : SetTable}
theorem SetS.stay (R : SetS w h a ks) (k : ∀ o, h.get? a = some o → h'.get? a = some o) : SetS w h' a ks := by
  obtain ⟨o, es, ep, t, ho, z⟩ := R
  exact ⟨o, es, ep, t, k o ho, z⟩
theorem Rows.size (r : Rows w es t ks) : es.size = ks.length := by
  have q := r.perm.length_eq
  rw [List.length_map, Array.length_toList] at q
  exact q
theorem ent_is {e : Int × Value} (g : Ent w e) (k : Str) : (PySem.strKind P w).is k e.2 = true ↔ tx e = k := by
  obtain ⟨j, tk, rfl⟩ := g
  show (j == k) = true ↔ j = k
  exact beq_iff_eq
theorem Rows.elems (r : Rows w es t ks) : ElemsOf (PySem.strKind P w) es.toList := by
  intro e he
  obtain ⟨k, tk, rfl⟩ := r.ent e he
  exact ⟨⟨k, strKind_is P w k tk, rfl⟩, rfl⟩
theorem Rows.mem (r : Rows w es t ks) (k : Str) : k ∈ ks ↔ ∃ e ∈ es.toList, (PySem.strKind P w).is k e.2 = true := by
  rw [← r.perm.mem_iff, List.mem_map]
  exact ⟨fun ⟨e, he, q⟩ => ⟨e, he, (ent_is (r.ent e he) k).2 q⟩, fun ⟨e, he, q⟩ => ⟨e, he, (ent_is (r.ent e he) k).1 q⟩⟩
theorem SetS.of (R : SetS w h a ks) : h.SetOf (PySem.strKind P w) a (fun k => decide (k ∈ ks)) ks.length := by
  obtain ⟨o, es, ep, t, ho, hx, hd, r⟩ := R
  exact ⟨o, es, ep, t, ho, hx, hd, r.elems, fun k => by rw [decide_eq_true_iff]; exact r.mem k, r.few, r.fit, r.size⟩
theorem rows_new (w : World) : Rows w #[] (.fresh 0 0 (!w.params.followText "set-order")) [] where
  ent := fun e he => by simp at he
  perm := List.Perm.refl _
  nd := List.nodup_nil
  few := by decide
  fit := rfl
  ris := List.Pairwise.nil
  led := by
    show _ ∨ (!w.params.followText "set-order") = true
    cases w.params.followText "set-order" with
    | true => exact .inl rfl
    | false => exact .inr rfl
end
section
variable {P : Program} {w : World} {A : Around} {E : Value → Shared → Prop} {s : Shared} {a : Addr} {ks : List Str}
/-- the table is stored, and laid anew where it is too full -/
theorem stored {gave : Bool → Sem Unit} (hg : ∀ (b : Bool) (z : Shared) (Y : Unit → Shared → Prop), Y () z → wpAny (model P w) A (gave b) Y E z)
    {o : Obj} {es0 es : Array (Int × Value)} {ep : Nat} {t0 t : SetTable} (ho : s.heap.get? a = some o) (hx : o.ExactSet) (hd : o.data = .set es0 ep t0) (r : Rows w es t ks) {dummy : Bool} {Z : Option Bool → Shared → Prop}
    (hZ : ∀ h', Heap.SameBut a s.heap h' → SetS w h' a ks → Z (some true) { s with heap := h' }) :
    wpAny (model P w) A (do
        storeSet a es t
        if (!dummy && t.tooFull) = true then do
            gave (relayAll t es (SetTable.grown es.size)).2.2
            storeSet a (relayAll t es (SetTable.grown es.size)).1 (relayAll t es (SetTable.grown es.size)).2.1
            pure (some true)
          else pure (some true)) Z E s := by
  have first := Heap.SameBut.update s.heap a (Obj.putSet es t)
  have o1 := store_at (es' := es) (t' := t) ho hd
  refine wpAny_bind (wpAny_storeSet_of ho hd ?_ (fits_of_scanBound r.few))
  by_cases full : (!dummy && t.tooFull) = true
  · rw [if_pos full]
    have r2 : Rows w (relayAll t es (SetTable.grown es.size)).1 (relayAll t es (SetTable.grown es.size)).2.1 ks := by
      have pm := relayAll_perm t es (SetTable.grown es.size)
      have sz : (relayAll t es (SetTable.grown es.size)).1.size = es.size := by
        have q := pm.length_eq
        rw [Array.length_toList, Array.length_toList] at q
        exact q
      exact ⟨fun e he => r.ent e (pm.mem_iff.mp he), (pm.map tx).trans r.perm, r.nd, Nat.lt_of_le_of_lt (Nat.le_of_eq sz) r.few, relayAll_fits _ _ _, relayAll_ris _ _ _, r.led.imp (fun z => z) fun z => (relayAll_led _ _ _).trans z⟩
    refine wpAny_bind (hg _ _ _ (wpAny_bind (wpAny_storeSet_of o1 rfl ?_ (fits_of_scanBound r2.few))))
    exact wpAny_pure (hZ _ (first.trans (Heap.SameBut.update _ a _)) ⟨_, _, _, _, store_at o1 rfl, hx, rfl, r2⟩)
  · rw [if_neg full]
    exact wpAny_pure (hZ _ first ⟨_, _, _, _, o1, hx, rfl, r⟩)
theorem plain_off {w : World} {es : Array (Int × Value)} {t : SetTable} {ks : List Str} (r : Rows w es t ks) : Rows w es { t with plain := false } ks :=
  ⟨r.ent, r.perm, r.nd, r.few, SetTable.fits_plain_off r.fit, r.ris, r.led⟩
/-- a text whose hash is known is added -/
theorem add_at {k : Str} {tk : Tok} {Z : Bool → Shared → Prop} (R : SetS w s.heap a ks) (room : ks.length + 1 < scanBound)
    (hZ : ∀ b h', Heap.SameBut a s.heap h' → SetS w h' a (ins k ks) → Z b { s with heap := h' }) : wpAny (model P w) A (setAddHashed a (.str k tk) (hashStr w k)) Z E s := by
  obtain ⟨o, es, ep, t, ho, hx, hd, r⟩ := R
  have hel : ElemsOf (PySem.strKind P w) es.toList := r.elems
  have hscan : byScan (Value.str k tk) es = true := byScan_of rfl r.few hel
  unfold setAddHashed setAddHashedIn
  refine wpAny_holding (wpAny_bind (wpAny_setState_of ho hd r.fit ?_))
  dsimp only
  rw [hscan]
  simp only [↓reduceIte]
  unfold setAddByScan
  refine wpAny_bind (wpAny_bind (wpAny_rule (wpAny_bind (wpAny_setScan_of (knd := PySem.strKind P w) (k := k) (strKind_is P w k tk) ho hd r.fit hel ?_))))
  cases found : List.findIdx? (fun e => (PySem.strKind P w).is k e.2) es.toList with
  | some j =>
    obtain ⟨lt, hit, _⟩ := List.findIdx?_eq_some_iff_getElem.mp found
    have there : k ∈ ks := (r.mem (P := P) k).2 ⟨_, List.getElem_mem lt, hit⟩
    refine wpAny_pure (wpAny_pure (hZ _ s.heap (Heap.SameBut.refl a s.heap) ⟨o, es, ep, t, ho, hx, hd, ?_⟩))
    unfold ins
    rw [if_pos there]
    exact r
  | none =>
    have away : k ∉ ks := fun z => by
      obtain ⟨e, he, hit⟩ := (r.mem (P := P) k).1 z
      have no := List.findIdx?_eq_none_iff.mp found e he
      rw [hit] at no
      cases no
    have pm0 := layNew_perm t es (hashStr w k) (.str k tk)
    rw [Array.toList_push] at pm0
    have pm := pm0.trans (List.perm_append_singleton (hashStr w k, Value.str k tk) es.toList)
    have r1 : Rows w (layNew t es (hashStr w k) (.str k tk)).1 (layNew t es (hashStr w k) (.str k tk)).2.1 (ins k ks) := by
      have sz : (layNew t es (hashStr w k) (.str k tk)).1.size = ks.length + 1 := by
        have q := pm.length_eq
        rw [Array.length_toList, List.length_cons, Array.length_toList, r.size] at q
        exact q
      refine ⟨fun e he => ?_, ?_, ins_nodup r.nd, Nat.lt_of_le_of_lt (Nat.le_of_eq sz) room, layNew_fits _ _ _ _, layNew_ris _ _ _ _ r.ris, r.led.imp (fun z => z) fun z => (layNew_led _ _ _ _).trans z⟩
      · rcases List.mem_cons.mp (pm.mem_iff.mp he) with z | z
        · exact ⟨k, tk, z⟩
        · exact r.ent e z
      · unfold ins
        rw [if_neg away]
        exact (pm.map tx).trans (List.Perm.cons k r.perm)
    have gw : ∀ (b : Bool) (z : Shared) (Y : Unit → Shared → Prop), Y () z → wpAny (model P w) A (match b with | true => rule "set.scan.the-table-gave-way" | false => pure ()) Y E z := by
      intro b z Y q
      cases b with
      | true => exact wpAny_rule q
      | false => exact wpAny_pure q
    have goal2 : ∀ h', Heap.SameBut a s.heap h' → SetS w h' a (ins k ks) → Z true { s with heap := h' } := fun h' sb r' => hZ true h' sb r'
    dsimp only
    change wpAny _ _ _ _ _ _
    generalize layNew t es (hashStr w k) (.str k tk) = L at r1 ⊢
    obtain ⟨es1, t1, dummy, gave⟩ := L
    dsimp only at r1 ⊢
    refine wpAny_bind (gw _ _ _ ?_)
    by_cases pl : t1.plain = true
    · rw [if_pos pl]
      refine wpAny_bind ?_
      rw [hashByValue_scannable 8 (show (Value.str k tk).scannable = true from rfl)]
      refine wpAny_pure ?_
      refine stored gw ho hx hd (ks := ins k ks) ?_ fun h' sb r' => wpAny_pure (goal2 h' sb r')
      split
      · exact r1
      · exact plain_off r1
    · rw [if_neg pl]
      refine wpAny_bind (wpAny_pure ?_)
      simp only [↓reduceIte]
      exact stored gw ho hx hd (ks := ins k ks) r1 fun h' sb r' => wpAny_pure (goal2 h' sb r')
end
/-- the texts of the first i are put in, one by one -/
def insAll (ks : List Str) : List Str → List Str
  | [] => ks
  | x :: r => insAll (ins x ks) r
theorem insAll_mem {j : Str} : ∀ (xs ks : List Str), j ∈ insAll ks xs ↔ j ∈ xs ∨ j ∈ ks
  | [], ks => by simp [insAll]
  | x :: r, ks => by
    rw [insAll, insAll_mem r, ins_mem, List.mem_cons]
    constructor
    · rintro (h | h | h)
      · exact .inl (.inr h)
      · exact .inl (.inl h)
      · exact .inr h
    · rintro ((h | h) | h)
      · exact .inr (.inl h)
      · exact .inl h
      · exact .inr (.inr h)
theorem insAll_len : ∀ (xs ks : List Str), (insAll ks xs).length ≤ ks.length + xs.length
  | [], ks => Nat.le_refl _
  | x :: r, ks => by
    have h1 := insAll_len r (ins x ks)
    have h2 := ins_len (k := x) (ks := ks)
    rw [insAll, List.length_cons]
    omega
section
variable {P : Program} {w : World} {A : Around} {E : Value → Shared → Prop} {s : Shared}
/-- set.update's own loop over a walk that yields texts -/
theorem feed_loop {I : Addr} {fp wr : List Addr} {G : Array GenState → Array GenState → Prop} {n : Nat} {Y : Nat → Value → Prop} {St : Nat → Shared → Prop} {Z : Result → Shared → Prop}
    (W : WalksS P w A.in1 I fp wr G n Y St) (S : Addr) (out : S ∉ fp) (texts : List Str) (hn : texts.length = n) (hb : n + 1 < scanBound) (hY : ∀ i v, Y i v → ∃ k tk, texts[i]? = some k ∧ v = .str k tk) :
    ∀ (left : Nat) (i : Nat) (ks : List Str) (s : Shared), i + left = n → St i s → SetS w s.heap S ks → ks.length ≤ i →
      (∀ s', Moved (S :: wr) G s s' → SetS w s'.heap S (insAll ks (texts.drop i)) → Z (.ok (.ret .none)) s') → codeAny (model P w) A (.builtin "set.update.loop" ⟨[.ref S, .ref I], []⟩) Z s := by
  have quietS : S ∉ wr := fun z => out (W.sub _ z)
  have more : ∀ b ∈ wr, b ∈ S :: wr := fun b hb => List.mem_cons_of_mem _ hb
  intro left
  induction left with
  | zero =>
    intro i ks s hi hst hS _ hZ
    have e0 : texts.drop i = [] := List.drop_eq_nil_of_le (by omega)
    rw [e0] at hZ
    have e1 : i = n := by omega
    rw [e1] at hst
    refine codeAny_builtin F.entry_set_update_loop ?_
    rw [Around.under_plainId F.plain_set_update_loop _]
    show wpAny _ A.in1 (pyNext (.ref I) >>= _) _ _ s
    refine wpAny_bind (W.done s _ _ hst fun s' mv => wpAny_pure (hZ s' (mv.mono more) (hS.stay fun o e => mv.heap S o quietS e)))
  | succ left ih =>
    intro i ks s hi hst hS hk hZ
    have lt : i < n := by omega
    refine codeAny_builtin F.entry_set_update_loop ?_
    rw [Around.under_plainId F.plain_set_update_loop _]
    show wpAny _ A.in1 (pyNext (.ref I) >>= _) _ _ s
    refine wpAny_bind (W.item i s _ _ lt hst fun v s1 hv hst1 mv => ?_)
    obtain ⟨k, tk, hk1, rfl⟩ := hY i v hv
    have hS1 : SetS w s1.heap S ks := hS.stay fun o e => mv.heap S o quietS e
    have ed : texts.drop i = k :: texts.drop (i + 1) := by
      obtain ⟨lt2, e2⟩ := List.getElem?_eq_some_iff.mp hk1
      rw [← e2]
      exact List.drop_eq_getElem_cons lt2
    rw [ed] at hZ
    show wpAny _ A.in1 (holding [Value.str k tk] (setAdd S (.str k tk)) >>= _) _ _ s1
    unfold setAdd
    refine wpAny_bind (wpAny_holding (wpAny_holding (wpAny_bind ((PySem.strKind P w).pyHash (k := k) (strKind_is P w k tk) ?_))))
    refine add_at (s := { s1 with toks := s1.toks + 1 }) hS1 (by omega) fun b h' sb hS2 => ?_
    refine wpAny_pure ⟨plainId_quiet F.plain_set_update_loop _, ih (i + 1) (ins k ks) _ (by omega) (W.frame _ s1 _ _ hst1 (Nat.le_succ _) fun c hc o e => ?_) hS2 ?_ fun s2 mv2 hS3 => ?_⟩
    · have away : c ≠ S := fun z => out (z ▸ hc)
      rw [sb.2 c away]
      exact e
    · have := ins_len (k := k) (ks := ks)
      omega
    · refine hZ s2 (Moved.trans W.gtrans ((mv.mono more).then_heap (Nat.le_succ _) fun c o hc e => ?_) mv2) hS3
      have away : c ≠ S := fun z => hc (z ▸ List.mem_cons_self)
      rw [sb.2 c away]
      exact e
/-- the empty set, as it is made -/
abbrev bare (w : World) : Obj := { cls := .type "set", dict := none, data := .set #[] 0 (.fresh 0 0 (!w.params.followText "set-order")) }
theorem bare_holds {h : Heap} {a : Addr} (ho : h.get? a = some (bare w)) : SetS w h a [] := ⟨_, _, _, _, ho, ⟨rfl, rfl, rfl⟩, rfl, rows_new w⟩
set_option maxHeartbeats 8000000 in
theorem set_of_list {l : Addr} {items : Array Value} (texts : List Str) {Z : Value → Shared → Prop} (hh : A.handled = none) (hl : s.heap.IsList l items) (ht : StrsAre items.toList texts) (hb : texts.length + 1 < scanBound)
    (hZ : ∀ (h' : Heap) (tk : Nat), SetS w h' s.heap.objs.size (insAll [] texts) → (∀ b o, s.heap.get? b = some o → h'.get? b = some o) → Z (.ref s.heap.objs.size) { s with heap := h', toks := tk }) :
    wpAny (model P w) A (call (.type "set") [.ref l]) Z E s := by
  have count : texts.length = items.size := by
    have q := StrsAre.len_eq ht
    rw [Array.length_toList] at q
    exact q.symm
  obtain ⟨c, tl, hmro⟩ := F.called_set.mro
  have made := F.called_set.made
  have sub := F.called_set.sub
  have noType := F.called_set.notType
  have can := F.called_set.canCreate
  have tcall := F.typeCall_set_1 (.ref l)
  refine wpAny_call (codeAny_of_tree ?_)
  show wpAny _ _ (callAny (.type "set") _) _ _ _
  refine wpAny_pure ⟨Code.quiet_builtin _ (by decide +kernel), codeAny_builtin F.entry_type_call ?_⟩
  rw [Around.under_plain (weight_type_call_type "set" [.ref l] []) rfl]
  repeat (any_goals (first | assumption | wp_step))
  refine codeAny_mono (code_set_led1 (.ref l) (E := E) (Q₁ := fun v z => v = .ref s.heap.objs.size ∧ z = { s with heap := s.heap.push (bare w) }) ⟨rfl, rfl⟩) fun r z hr => ?_
  match r, hr with
  | .error _, hr => exact hr
  | .ok .next, hr => exact hr.elim
  | .ok .brk, hr => exact hr.elim
  | .ok .cont, hr => exact hr.elim
  | .ok (.ret _), hr =>
    obtain ⟨rfl, rfl⟩ := hr
    have hS : (s.heap.push (bare w)).get? s.heap.objs.size = some (bare w) := Heap.get?_push_size _ rfl
    have isSet : Shared.TypeIs { s with heap := s.heap.push (bare w) } (.ref s.heap.objs.size) "set" := ⟨_, hS, rfl⟩
    have initL := F.called_set.init.lookup
    have initB := F.called_set.init.bind (.ref s.heap.objs.size)
    repeat (any_goals (first | assumption | wp_step))
    refine codeAny_mono (codeAny_call_builtin (R := wants (fun v z => v = .none ∧ ∃ h' tk, z = { s with heap := h', toks := tk } ∧ SetS w h' s.heap.objs.size (insAll [] texts) ∧ ∀ b o, s.heap.get? b = some o → h'.get? b = some o) E)
      F.called_set.init.plain F.entry_set_init (check_set_init_1 isSet ?_)) fun r z hr => ?_
    · have hl1 : (s.heap.push (bare w)).IsList l items := hl.push _
      obtain ⟨⟨_, dd, _, sl⟩, hol, rfl, nl, rfl⟩ := id hl
      have hol1 : (s.heap.push (bare w)).get? l = some ⟨.type "list", dd, .seq items nl, sl⟩ := Heap.get?_push_of_some _ hol
      have sub1 := F.sub_list_set
      have sub2 := F.sub_list_frozenset
      have unlike : (Value.type "list" == Value.type "dict") = false := by decide
      unfold Builtin.«set.__init__» noKeywords Builtin.Frozenset.updateFrom
      generalize hPI : pyIter = PI
      wp_walk
      subst hPI
      refine wpAny_pyIter_list hl1 (wpAny_bind (wpAny_runValue ?_))
      have old : l < s.heap.objs.size := Heap.lt_size hol
      have sz1 : (s.heap.push (bare w)).objs.size = s.heap.objs.size + 1 := Heap.size_push ..
      have apart : l ≠ (s.heap.push (bare w)).objs.size := by
        rw [sz1]
        exact Nat.ne_of_lt (Nat.lt_succ_of_lt old)
      have out : s.heap.objs.size ∉ [(s.heap.push (bare w)).objs.size, l] := by
        intro z
        rcases List.mem_cons.mp z with z | z
        · rw [sz1] at z
          omega
        · exact absurd old (by rw [← List.mem_singleton.mp z]; exact Nat.lt_irrefl _)
      have texty : ∀ (i : Nat) (v : Value), items[i]? = some v → ∃ k tk, texts[i]? = some k ∧ v = .str k tk := fun i v hv => by
        have hi : i < texts.length := by
          rw [count]
          exact (Array.getElem?_eq_some_iff.mp hv).1
        obtain ⟨tk, e⟩ := SS.strs_at ht i v (by rw [Array.getElem?_toList]; exact hv)
        refine ⟨texts[i], tk, List.getElem?_eq_getElem hi, ?_⟩
        rw [e, List.getD_eq_getElem?_getD, List.getElem?_eq_getElem hi]
        rfl
      have hh3 : A.in1.in1.in1.handled = none := by simp [hh]
      refine feed_loop ((Walks.list hh3 _ l apart items).toS) s.heap.objs.size out texts count (by rw [← count]; exact hb) texty items.size 0 [] _ (Nat.zero_add _) ⟨⟨_, Heap.get?_push_size _ rfl, rfl, rfl⟩, hl1.push _⟩
        (bare_holds (Heap.get?_push_of_some _ hS)) (Nat.le_refl _) fun s' mv hS' => ?_
      obtain ⟨h', g', d', tk', os'⟩ := s'
      have eg : g' = s.gens := mv.gens
      have ed : d' = s.drawn := mv.drawn
      have eo : os' = s.os := mv.os
      subst eg ed eo
      show wpAny _ _ _ _ _ _
      refine wpAny_pure ?_
      show wpAny _ _ (ret Value.none) _ _ _
      refine wpAny_pure ⟨rfl, h', tk', rfl, hS', fun b o e => ?_⟩
      have lt := Heap.lt_size e
      refine mv.heap b o (fun z => ?_) (Heap.get?_push_of_some _ (Heap.get?_push_of_some _ e))
      rcases List.mem_cons.mp z with z | z
      · rw [z] at lt
        exact Nat.lt_irrefl _ lt
      · have z2 := List.mem_singleton.mp z
        have lt2 : b < (s.heap.push (bare w)).objs.size := by
          rw [sz1]
          exact Nat.lt_succ_of_lt lt
        rw [z2] at lt2
        exact Nat.lt_irrefl _ lt2
    · match r, hr with
      | .error _, hr => exact hr
      | .ok .next, hr => exact hr.elim
      | .ok .brk, hr => exact hr.elim
      | .ok .cont, hr => exact hr.elim
      | .ok (.ret _), hr =>
        obtain ⟨rfl, h', tk, rfl, hS', keep⟩ := hr
        repeat (any_goals (first | assumption | wp_step))
        exact hZ _ _ hS' keep
/-- the texts of values that are texts -/
theorem texts_of : ∀ (vs : List Value), (∀ v ∈ vs, ∃ k tk, v = Value.str k tk) → ∃ ks, StrsAre vs ks ∧ ks = vs.map fun v => tx (0, v)
  | [], _ => ⟨[], .nil, rfl⟩
  | v :: vs, h => by
    obtain ⟨k, tk, rfl⟩ := h v List.mem_cons_self
    obtain ⟨ks, h1, h2⟩ := texts_of vs fun u hu => h u (List.mem_cons_of_mem _ hu)
    exact ⟨k :: ks, .cons k tk h1, by rw [h2]; rfl⟩
theorem sorted_of_set {a : Addr} {ks : List Str} {Z : Value → Shared → Prop} (R : SetS w s.heap a ks) (hh : A.handled = none) (few : ks.length < 64)
    (hZ : ∀ s' p (out : Array Value) (c : Nat) (ys : List Str), (∀ b o, s.heap.get? b = some o → s'.heap.get? b = some o) → s'.gens = s.gens → s'.os = s.os → s.heap.objs.size ≤ p →
      s'.heap.get? p = some (seqObj "list" out c) → StrsAre out.toList ys → ys.Perm ks → sortedS ys = true → Z (.ref p) s') :
    wpAny (model P w) A (call (.builtin "sorted") [.ref a]) Z E s := by
  obtain ⟨o, es, ep, t, ho, hx, hd, r⟩ := R
  refine Calls.call_function_entry kind_sorted plain_sorted entry_sorted (args_sorted1 _) ?_
  unfold Builtin.«sorted»
  refine wpAny_bind (m := checkCount "sorted" 1 1 _) (wpAny_pure ?_)
  refine wpAny_bind (collect_set (A := A.in1) hh ⟨o, ho, hx.1, hd⟩ r.fit r.few r.ris r.led fun s1 vs keep more g1 o1 pm => ?_)
  obtain ⟨texts, isT, eT⟩ := texts_of vs fun v hv => by
    obtain ⟨e, he, q⟩ := List.mem_map.mp (pm.mem_iff.mp hv)
    obtain ⟨k, tk, ee⟩ := r.ent e he
    exact ⟨k, tk, by rw [← q, ee]⟩
  have pT : texts.Perm ks := by
    refine List.Perm.trans ?_ r.perm
    rw [eT]
    have q := pm.map fun v => tx (0, v)
    rw [List.map_map] at q
    exact q
  have len : vs.length = ks.length := by
    rw [StrsAre.len_eq isT]
    exact pT.length_eq
  have line : vs.length ≤ sizeLine := by
    rw [len, sizeLine_eq]
    omega
  have hL : (s1.heap.push (seqObj "list" vs.toArray 0)).get? s1.heap.objs.size = some (seqObj "list" vs.toArray 0) := Heap.get?_push_size _ rfl
  refine wpAny_bind (wpAny_newList ?_ line)
  refine wpAny_bind (wpAny_holding (wpAny_call_entry slot_list_sort ⟨_, hL, rfl⟩ entry_list_sort (list_sort_treeK strKind_oneLt hL isT.keysOf (fun v₁ v₂ rest e => keyKind_strs (by rw [← e]; exact isT)) (by rw [len]; exact few) fun st hp hs => ?_) (args_list_sort _)))
  obtain ⟨ys, y1, y2, y3⟩ := sorted_out_str isT hp hs
  obtain ⟨c, hc⟩ := sortedHeap_at (vs := vs) (out := (arrOf st).map (·.2)) hL
  refine ⟨_, rfl, wpAny_pure ⟨_, rfl, hZ _ s1.heap.objs.size _ c ys (fun b u e => ?_) g1 o1 more hc y1 (y2.trans pT) y3⟩⟩
  have q := keep b u e
  have lt := Heap.lt_size q
  show (sortedHeap (s1.heap.push (seqObj "list" vs.toArray 0)) s1.heap.objs.size vs _).get? b = some u
  rw [sortedHeap_old (Nat.ne_of_lt lt) (by rw [Heap.size_push]; exact Nat.lt_succ_of_lt lt)]
  exact Heap.get?_push_of_some _ q
end
end Sx
set_option Elab.async false
set_option linter.all false
set_option maxRecDepth 100000
set_option maxHeartbeats 4000000
/-! The rules over sets of texts. -/
namespace Sx
open PySem PySem.Spec PyProof.Rows L2
/-- a set of the texts ks stands at a -/
def SetX (w : World) (a : Addr) (ks : List Str) : HO := .ext fun h => SetS w h a ks
section
variable {X : Cx}
theorem setX_new {w : World} {P : Program} {H : Hp} {h : Heap} {a : Addr} {ks : List Str} (R : SetS w h a ks) : ObjOk P w H h a (SetX w a ks) := by
  have ⟨o, _, _, _, ho, _⟩ := R
  exact ⟨R, ⟨o, ho⟩, fun _ _ r k => SetS.stay r k⟩
theorem setX_get {pins : List (Addr × Obj)} {σ : L2.St} {H : Hp} {s : Shared} {a : Addr} {ks : List Str} (I : Inv X pins σ H s) (e : H a = some (SetX X.w a ks)) : SetS X.w s.heap a ks := (I.hok a _ e).1
/-- set() -/
def rNewX (w : World) : List V → Hp → VK → Prop := fun xs H Q => xs = [] ∧ ∀ p, H p = none → Q (.ref p) (upd H p (SetX w p []))
theorem cr_newX : CallR X (.type "set") (rNewX X.w) := by
  intro pins s σ H xs us Q I r ⟨e, q⟩
  subst e
  cases r
  refine setR_new fun _ => ⟨.ref _, upd H s.heap.objs.size (SetX X.w s.heap.objs.size []), ?_, rfl, q _ (I.hok.fresh (Nat.le_refl _))⟩
  exact I.laid (t' := s.toks) (fun b u e => Heap.get?_push_of_some _ e) (Nat.le_refl _) (setX_new (bare_holds (Heap.get?_push_size _ rfl)))
/-- set(a list of texts) -/
def rOfX (K : PySem.W.Frag) (w : World) : List V → Hp → VK → Prop := fun xs H Q => ∃ (l : Addr) (texts : List Str), xs = [.ref l] ∧ SqL K H l (texts.map V.str) ∧ texts.length + 1 < scanBound ∧
  ∀ p, H p = none → Q (.ref p) (upd H p (SetX w p (insAll [] texts)))
theorem cr_ofX (hc : X.calm = true) : CallR X (.type "set") (rOfX X.K X.w) := by
  intro pins s σ H xs us Q I r ⟨l, texts, e, hq, few, q⟩
  subst e
  rw [Vals.ref1 r]
  obtain ⟨its, rv, pl, _⟩ := I.list hq
  refine set_of_list texts (I.ok.hd hc) pl.isList (by simpa using strsAre_of rv) few fun h' tk hS keep => ?_
  exact ⟨.ref _, upd H s.heap.objs.size (SetX X.w s.heap.objs.size (insAll [] texts)), I.laid (t' := tk) keep (Nat.le_refl _) (setX_new hS), rfl, q _ (I.hok.fresh (Nat.le_refl _))⟩
/-- found.add(text) -/
def rAddX (w : World) : V → List V → Hp → VK → Prop := fun x xs H Q => ∃ (a : Addr) (k : Str) (ks : List Str), x = V.ref a ∧ xs = [V.str k] ∧ H a = some (SetX w a ks) ∧ ks.length + 1 < scanBound ∧ Q .non (upd H a (SetX w a (ins k ks)))
theorem mt_addX : MtR X "set.add" (rAddX X.w) := by
  intro pins s σ H x xs v us Q I rx rxs ⟨a, k, ks, e1, e2, ha, room, q⟩
  subst e1 e2
  cases rx
  obtain ⟨u, rfl, tk, rfl⟩ := vals1 rxs
  have R := setX_get I ha
  refine wpAny_call_entry F.slot_set_add (R.of (P := X.prog)).typeIs F.entry_set_add ?_ (F.args_set_add_2 _ _)
  unfold Builtin.«set.add» Builtin.Frozenset.oneOther
  simp only [List.isEmpty_nil, bind_assoc]
  unfold Builtin.Frozenset.addrOf setAdd
  refine wpAny_bind (wpAny_pure ?_)
  try dsimp only
  refine wpAny_bind (wpAny_pure ?_)
  try dsimp only
  refine wpAny_bind (wpAny_holding (wpAny_bind ((PySem.strKind X.prog X.w).pyHash (strKind_is X.prog X.w k tk) ?_)))
  refine add_at (s := { s with toks := s.toks + 1 }) R room fun b h' sb new => ?_
  show wpAny _ _ (ret Value.none) _ _ _
  have there : ∃ u, h'.get? a = some u := by
    obtain ⟨o, _, _, _, ho, _⟩ := new
    exact ⟨o, ho⟩
  exact wpAny_pure ⟨_, rfl, .non, upd H a (SetX X.w a (ins k ks)), I.write (e := a) (t' := s.toks + 1) (by rw [ha]; trivial) (.inl rfl) (fun c u hc hu => (sb.2 c hc).trans hu) there (setX_new new), rfl, q⟩
def tAddX (w : World) (to : TE) (t : TA) : TE := fun σ H Q => to σ H fun x H1 => (∃ a ks, x = V.ref a ∧ H1 a = some (SetX w a ks)) ∧ t σ H1 fun xs H2 => rAddX w x xs H2 Q
theorem pe_addX {o e : Expr} {to : TE} {t : TA} {apos cpos : Pos} (ho : PE X o to) (ha : PA X [e] t)
    (h1 : attributeBase o "add" X.env (eval o X.env) = eval o X.env := by rfl)
    (h2 : ((backTo cpos (starEach [e] X.env)).all (fun x => !x.1) && (backToKw cpos (keywordEach [] X.env)).all (fun x => x.1.isSome) && decide ([e].length + ([] : List Keyword).length + (if ([] : List Keyword).isEmpty then 0 else 1) < 30)) = true := by rfl)
    (h3 : (apos.endLine == cpos.line) = true := by rfl) (h4 : starEach [e] X.env = (false, eval e X.env) :: starEach [] X.env := by rfl) (h5 : (backTo cpos (starEach [] X.env)).any (·.1) = false := by rfl) :
    PE X (.Call (.Attribute o "add" apos) [e] [] cpos) (tAddX X.w to t) := by
  refine ⟨fun pins s σ H Q I h => wpAny_Call_method_late h1 h2 h3 rfl (thn (ho.run pins s σ H _ I h) fun v s1 ⟨x, H1, I1, r1, ⟨a, ks, ex, hka⟩, q1⟩ => ?_)⟩
  subst ex
  cases r1
  have R := (setX_get I1 hka).of (P := X.prog)
  have run := ha.run cpos pins s1 σ H1 _ I1 q1
  refine ⟨"set", "set.add", F.plainAttrs_set, F.slot_set_add, F.type_set_add, R.typeIs, R.noDict, ?_⟩
  rw [h4] at run ⊢
  refine Calls.callWith_builtin (by show (false || (backTo cpos (starEach [] X.env)).any (·.1)) = false; rw [h5]; rfl) (Calls.evalArgs_plain (thn run fun us s2 ⟨vs, H2, I2, r2, q2⟩ => ?_))
  exact mt_addX pins s2 σ H2 (.ref a) vs (.ref a) us Q I2 rfl r2 q2
/-- sorted(a set of texts) -/
def rSortX (w : World) : List V → Hp → VK → Prop := fun vs H Q => ∃ (a : Addr) (ks : List Str), vs = [V.ref a] ∧ H a = some (SetX w a ks) ∧ ks.length < 64 ∧
  ∀ (ys : List Str) (p : Addr), ys.Perm ks → ys.Nodup → sortedS ys = true → H p = none → Q (.ref p) (upd H p (.lst (ys.map V.str)))
theorem cr_sortX (hc : X.calm = true) : CallR X (.builtin "sorted") (rSortX X.w) := by
  intro pins s σ H vs us Q I r ⟨a, ks, e, ha, few, q⟩
  subst e
  rw [Vals.ref1 r]
  have R := setX_get I ha
  have nd : ks.Nodup := by
    obtain ⟨_, _, _, _, _, _, _, rows⟩ := R
    exact rows.nd
  refine sorted_of_set R (I.ok.hd hc) few fun s' p out c ys keep g1 o1 old hp y1 y2 y3 => ?_
  have line : (ys.map V.str).length ≤ sizeLine := by
    rw [List.length_map, y2.length_eq]
    exact small64 few
  have free : H p = none := I.hok.fresh old
  have J : Inv X pins σ (upd H p (.lst (ys.map V.str))) { s with heap := s'.heap, gens := s'.gens, drawn := s'.drawn, toks := s'.toks } :=
    I.call (ch := []) (Un.laid keep old free) (I.hok.laid keep old ⟨line, out.toList, c, vals_of_strs y1, hp⟩) (by rw [g1]; exact I.bare) (fun _ z => nomatch z)
  have back : s' = { s with heap := s'.heap, gens := s'.gens, drawn := s'.drawn, toks := s'.toks } := by
    cases s'
    cases s
    cases o1
    rfl
  rw [back]
  exact ⟨.ref p, _, J, rfl, q ys p y2 (y2.nodup_iff.mpr nd) y3 free⟩
end
end Sx
set_option Elab.async false
set_option linter.all false
set_option maxRecDepth 100000
set_option maxHeartbeats 4000000
/-! Trees, heaps: what the defs of these laws share. -/
namespace Kf
open PySem PySem.Spec PyProof.Rows L2 Sx
/-! ### lists, pair by pair -/
inductive All2 {α β : Type} (F : α → β → Prop) : List α → List β → Prop
  | nil : All2 F [] []
  | cons {a : α} {b : β} {l : List α} {m : List β} : F a b → All2 F l m → All2 F (a :: l) (b :: m)
section
variable {α β : Type} {F G : α → β → Prop}
theorem All2.len : ∀ {l : List α} {m : List β}, All2 F l m → l.length = m.length
  | _, _, .nil => rfl
  | _, _, .cons _ t => congrArg Nat.succ t.len
theorem All2.app : ∀ {l l2 : List α} {m m2 : List β}, All2 F l m → All2 F l2 m2 → All2 F (l ++ l2) (m ++ m2)
  | _, _, _, _, .nil, h => h
  | _, _, _, _, .cons r t, h => .cons r (t.app h)
theorem All2.mono (f : ∀ a b, F a b → G a b) : ∀ {l : List α} {m : List β}, All2 F l m → All2 G l m
  | _, _, .nil => .nil
  | _, _, .cons r t => .cons (f _ _ r) (t.mono f)
theorem All2.one {a : α} {b : β} (h : F a b) : All2 F [a] [b] := .cons h .nil
theorem All2.rev : ∀ {l : List α} {m : List β}, All2 F l m → All2 F l.reverse m.reverse
  | _, _, .nil => .nil
  | _, _, .cons r t => by
    rw [List.reverse_cons, List.reverse_cons]
    exact t.rev.app (.one r)
theorem All2.last {l : List α} {m : List β} {y : β} (h : All2 F l (m ++ [y])) : ∃ k x, l = k ++ [x] ∧ All2 F k m ∧ F x y := by
  have q := h.rev
  rw [List.reverse_append, List.reverse_singleton, List.singleton_append] at q
  generalize hr : l.reverse = r at q
  cases q with
  | @cons x _ k _ r t =>
    have t2 := t.rev
    rw [List.reverse_reverse] at t2
    refine ⟨k.reverse, x, ?_, t2, r⟩
    have e := congrArg List.reverse hr
    rw [List.reverse_reverse, List.reverse_cons] at e
    exact e
theorem All2.get : ∀ {l : List α} {m : List β} {i : Nat} {y : β}, All2 F l m → m[i]? = some y → ∃ x, l[i]? = some x ∧ F x y
  | _, _, _, _, .nil, h => by simp at h
  | _, _, 0, _, .cons r _, h => ⟨_, rfl, (Option.some.inj h) ▸ r⟩
  | _, _, i + 1, _, .cons _ t, h => t.get (i := i) (by simpa using h)
end
/-! ### heaps -/
/-- all but what stands at f is as it was -/
def But (f : Addr) (H H' : Hp) : Prop := ∀ b o, b ≠ f → H b = some o → H' b = some o
/-- all tuples stand -/
def Tups (H H' : Hp) : Prop := ∀ b xs, H b = some (.tup xs) → H' b = some (.tup xs)
section
variable {f : Addr} {H H1 H2 : Hp} {p : Addr} {o : HO}
theorem But.refl (f : Addr) (H : Hp) : But f H H := fun _ _ _ e => e
theorem But.trans (a : But f H H1) (b : But f H1 H2) : But f H H2 := fun c u n e => b c u n (a c u n e)
theorem but_same (a : Same H H1) : But f H H1 := fun c u _ e => a c u e
theorem But.new (a : But f H H1) (h : H1 p = none) : But f H (upd H1 p o) := fun c u n e => by
  have q := a c u n e
  rw [upd_ne (ne_of_none q h)]
  exact q
theorem But.own (a : But f H H1) : But f H (upd H1 f o) := fun c u n e => by
  rw [upd_ne n]
  exact a c u n e
theorem same_new (h : H p = none) : Same H (upd H p o) := fun b u q => by
  rw [upd_ne (ne_of_none q h)]
  exact q
theorem same_put (s : Same H H1) (h : H1 p = none) : Same H (upd H1 p o) := fun b u q => by
  rw [upd_ne (ne_of_none (s b u q) h)]
  exact s b u q
theorem Tups.refl (H : Hp) : Tups H H := fun _ _ e => e
theorem Tups.trans (a : Tups H H1) (b : Tups H1 H2) : Tups H H2 := fun c u e => b c u (a c u e)
theorem tups_same (a : Same H H1) : Tups H H1 := fun c u e => a c _ e
theorem But.tups {xs : List V} (a : But f H H1) (h : H f = some (.lst xs)) : Tups H H1 := fun c u e => a c _ (fun z => by
  rw [z, h] at e
  cases e) e
theorem tups_put (h : ∀ xs, H p ≠ some (.tup xs)) : Tups H (upd H p o) := fun c u e => by
  rw [upd_ne (fun z => h u (by rw [← z]; exact e))]
  exact e
end
/-! ### trees -/
inductive Tr where
  | leaf (w : Str) (x : V)
  | n0 (w : Str)
  | n1 (w : Str) (a : Tr)
  | n2 (w : Str) (a b : Tr)
abbrev leafVs : List V := [.str "num", .str "name", .str "bound"]
abbrev bindVs : List V := [.str "all", .str "some"]
def leafy (w : Str) : Bool := inV (.str w) leafVs
def binds (w : Str) : Bool := inV (.str w) bindVs
/-- how many stand around the parts -/
def inner (w : Str) (r : Nat) : Nat := if binds w = true then r + 1 else r
def Tr.word : Tr → Str
  | .leaf w _ => w
  | .n0 w => w
  | .n1 w _ => w
  | .n2 w _ _ => w
def Tr.kids : Tr → List Tr
  | .leaf _ _ => []
  | .n0 _ => []
  | .n1 _ a => [a]
  | .n2 _ a b => [a, b]
/-- the tree t is the value v -/
def At (H : Hp) : Tr → V → Prop
  | .leaf w x, v => ∃ p, v = .ref p ∧ H p = some (.tup [.str w, x])
  | .n0 w, v => ∃ p, v = .ref p ∧ H p = some (.tup [.str w])
  | .n1 w a, v => ∃ p y, v = .ref p ∧ H p = some (.tup [.str w, y]) ∧ At H a y
  | .n2 w a b, v => ∃ p y z, v = .ref p ∧ H p = some (.tup [.str w, y, z]) ∧ At H a y ∧ At H b z
theorem At.keep {H H' : Hp} (k : Tups H H') : ∀ {t : Tr} {v : V}, At H t v → At H' t v
  | .leaf _ _, _, ⟨p, e, h⟩ => ⟨p, e, k _ _ h⟩
  | .n0 _, _, ⟨p, e, h⟩ => ⟨p, e, k _ _ h⟩
  | .n1 _ _, _, ⟨p, y, e, h, a⟩ => ⟨p, y, e, k _ _ h, a.keep k⟩
  | .n2 _ _ _, _, ⟨p, y, z, e, h, a, b⟩ => ⟨p, y, z, e, k _ _ h, a.keep k, b.keep k⟩
/-- leaves by their words -/
def Tr.Ok : Tr → Prop
  | .leaf w x => leafy w = true ∧ ((∃ i, x = .int i) ∧ w ≠ "name" ∨ (∃ z, x = .str z) ∧ w = "name")
  | .n0 w => leafy w = false
  | .n1 w a => leafy w = false ∧ a.Ok
  | .n2 w a b => leafy w = false ∧ a.Ok ∧ b.Ok
/-- how far within one another -/
def Tr.deep : Tr → Nat
  | .leaf _ _ => 1
  | .n0 _ => 1
  | .n1 _ a => a.deep + 1
  | .n2 _ a b => max a.deep b.deep + 1
def Tr.size : Tr → Nat
  | .leaf _ _ => 1
  | .n0 _ => 1
  | .n1 _ a => a.size + 1
  | .n2 _ a b => a.size + b.size + 1
theorem size_deep : ∀ t : Tr, t.size + 1 ≤ 2 ^ t.deep
  | .leaf _ _ => Nat.le_refl _
  | .n0 _ => Nat.le_refl _
  | .n1 _ a => by
    have h := size_deep a
    have p : 2 ^ (a.deep + 1) = 2 ^ a.deep * 2 := Nat.pow_succ _ _
    show a.size + 1 + 1 ≤ 2 ^ (a.deep + 1)
    omega
  | .n2 _ a b => by
    have h := size_deep a
    have h2 := size_deep b
    have p : 2 ^ (max a.deep b.deep + 1) = 2 ^ (max a.deep b.deep) * 2 := Nat.pow_succ _ _
    have q1 : 2 ^ a.deep ≤ 2 ^ (max a.deep b.deep) := Nat.pow_le_pow_right (by decide) (Nat.le_max_left _ _)
    have q2 : 2 ^ b.deep ≤ 2 ^ (max a.deep b.deep) := Nat.pow_le_pow_right (by decide) (Nat.le_max_right _ _)
    show a.size + b.size + 1 + 1 ≤ 2 ^ (max a.deep b.deep + 1)
    omega
def Tr.names : Tr → List Str
  | .leaf w x => if w = "name" then (match x with | .str z => [z] | _ => []) else []
  | .n0 _ => []
  | .n1 _ a => a.names
  | .n2 _ a b => a.names ++ b.names
theorem names_size : ∀ t : Tr, t.names.length ≤ t.size
  | .leaf w x => by
    show (if w = "name" then (match x with | .str z => [z] | _ => []) else ([] : List Str)).length ≤ 1
    split
    · cases x <;> simp
    · simp
  | .n0 _ => Nat.zero_le _
  | .n1 _ a => Nat.le_succ_of_le (names_size a)
  | .n2 _ a b => by
    have h1 := names_size a
    have h2 := names_size b
    show (a.names ++ b.names).length ≤ a.size + b.size + 1
    rw [List.length_append]
    omega
/-! ### the pieces, parts ahead of the whole, from the left; each with how many all and some stand around it -/
def Tr.post : Tr → Nat → List (Tr × Nat)
  | .leaf w x, r => [(.leaf w x, r)]
  | .n0 w, r => [(.n0 w, r)]
  | .n1 w a, r => a.post (inner w r) ++ [(.n1 w a, r)]
  | .n2 w a b, r => a.post (inner w r) ++ b.post (inner w r) ++ [(.n2 w a b, r)]
theorem post_len : ∀ (t : Tr) (r : Nat), (t.post r).length = t.size
  | .leaf _ _, _ => rfl
  | .n0 _, _ => rfl
  | .n1 w a, r => by
    show (a.post _ ++ [_]).length = a.size + 1
    rw [List.length_append, post_len a]
    rfl
  | .n2 w a b, r => by
    show (a.post _ ++ b.post _ ++ [_]).length = a.size + b.size + 1
    rw [List.length_append, List.length_append, post_len a, post_len b]
    rfl
theorem post_kids (t : Tr) (r : Nat) : t.post r = (t.kids.flatMap fun a => a.post (inner t.word r)) ++ [(t, r)] := by
  cases t with
  | leaf w x => rfl
  | n0 w => rfl
  | n1 w a => simp [Tr.post, Tr.kids, Tr.word]
  | n2 w a b => simp [Tr.post, Tr.kids, Tr.word]
/-- what a whole list of pieces has for names -/
def leafName : Tr → List Str
  | .leaf w x => Tr.names (.leaf w x)
  | _ => []
theorem post_names : ∀ (t : Tr) (r : Nat), ((t.post r).flatMap fun (e : Tr × Nat) => leafName e.1) = t.names
  | .leaf w x, r => by simp [Tr.post, leafName]
  | .n0 w, r => by simp [Tr.post, leafName, Tr.names]
  | .n1 w a, r => by
    show ((a.post _ ++ [_]).flatMap fun (e : Tr × Nat) => leafName e.1) = a.names
    rw [List.flatMap_append, post_names a]
    simp [leafName]
  | .n2 w a b, r => by
    show ((a.post _ ++ b.post _ ++ [_]).flatMap fun (e : Tr × Nat) => leafName e.1) = a.names ++ b.names
    rw [List.flatMap_append, List.flatMap_append, post_names a, post_names b]
    simp [leafName]
theorem post_ok : ∀ (t : Tr) (r : Nat), t.Ok → ∀ e ∈ t.post r, e.1.Ok
  | .leaf w x, r, h, e, he => by
    rw [List.mem_singleton.mp he]
    exact h
  | .n0 w, r, h, e, he => by
    rw [List.mem_singleton.mp he]
    exact h
  | .n1 w a, r, h, e, he => by
    rcases List.mem_append.mp he with z | z
    · exact post_ok a _ h.2 e z
    · rw [List.mem_singleton.mp z]
      exact h
  | .n2 w a b, r, h, e, he => by
    rcases List.mem_append.mp he with z | z
    · rcases List.mem_append.mp z with z | z
      · exact post_ok a _ h.2.1 e z
      · exact post_ok b _ h.2.2 e z
    · rw [List.mem_singleton.mp z]
      exact h
theorem no_leaf {w : Str} (h : leafy w = false) (z : leafy w = true) : False := by
  rw [h] at z
  cases z
/-- a tree's own tuple -/
theorem At.view {H : Hp} {t : Tr} {v : V} (h : At H t v) (ok : t.Ok) : ∃ p vs, v = .ref p ∧ H p = some (.tup (.str t.word :: vs)) ∧ vs.length ≤ 2 ∧ (leafy t.word = false → All2 (At H) t.kids vs) ∧ (leafy t.word = true → ∃ x, t = .leaf t.word x ∧ vs = [x]) := by
  cases t with
  | leaf w x =>
    obtain ⟨p, e, h⟩ := h
    exact ⟨p, [x], e, h, Nat.le_succ 1, fun z => (no_leaf z ok.1).elim, fun _ => ⟨x, rfl, rfl⟩⟩
  | n0 w =>
    obtain ⟨p, e, h⟩ := h
    exact ⟨p, [], e, h, Nat.zero_le 2, fun _ => .nil, fun z => (no_leaf ok z).elim⟩
  | n1 w a =>
    obtain ⟨p, y, e, h, ha⟩ := h
    exact ⟨p, [y], e, h, Nat.le_succ 1, fun _ => .one ha, fun z => (no_leaf ok.1 z).elim⟩
  | n2 w a b =>
    obtain ⟨p, y, z, e, h, ha, hb⟩ := h
    exact ⟨p, [y, z], e, h, Nat.le_refl 2, fun _ => .cons ha (.one hb), fun q => (no_leaf ok.1 q).elim⟩
theorem kids_ok {t : Tr} (ok : t.Ok) : ∀ a ∈ t.kids, a.Ok := by
  cases t with
  | leaf w x => intro a h; cases h
  | n0 w => intro a h; cases h
  | n1 w a =>
    intro c h
    rw [List.mem_singleton.mp h]
    exact ok.2
  | n2 w a b =>
    intro c h
    rcases List.mem_cons.mp h with z | z
    · rw [z]
      exact ok.2.1
    · rw [List.mem_singleton.mp z]
      exact ok.2.2
/-! ### sorted lists of texts -/
theorem nodup_le : ∀ (ks ms : List Str), ks.Nodup → (∀ k ∈ ks, k ∈ ms) → ks.length ≤ ms.length
  | [], _, _, _ => Nat.zero_le _
  | k :: r, ms, nd, h => by
    obtain ⟨n1, n2⟩ := List.nodup_cons.mp nd
    have hk : k ∈ ms := h k List.mem_cons_self
    have q := nodup_le r (ms.erase k) n2 fun j hj => (List.mem_erase_of_ne (fun z : j = k => n1 (z ▸ hj))).mpr (h j (List.mem_cons_of_mem _ hj))
    rw [List.length_erase_of_mem hk] at q
    have pos : 0 < ms.length := List.length_pos_of_mem hk
    rw [List.length_cons]
    omega
def Le (a b : Str) : Prop := ltCps b.cps.toList a.cps.toList = false
theorem rising_pairs : ∀ (p : Str) (l : List Str), risingS p l = true → (∀ (a b c : Str), Le a b → Le b c → Le a c) → (p :: l).Pairwise Le
  | p, [], _, _ => List.pairwise_singleton _ _
  | p, x :: r, h, tr => by
    have h' : (!ltCps x.cps.toList p.cps.toList && risingS x r) = true := h
    rw [Bool.and_eq_true] at h'
    have q := rising_pairs x r h'.2 tr
    have px : Le p x := by
      unfold Le
      simpa using h'.1
    refine List.pairwise_cons.mpr ⟨fun y hy => ?_, q⟩
    rcases List.mem_cons.mp hy with z | z
    · rw [z]
      exact px
    · exact tr _ _ _ px (List.rel_of_pairwise_cons q z)
theorem le_iff (a b : Str) : Le a b ↔ a.cps.toList ≤ b.cps.toList := by
  unfold Le
  rw [ltCps_eq]
  simp
theorem le_trans3 (a b c : Str) (h1 : Le a b) (h2 : Le b c) : Le a c := by
  rw [le_iff] at *
  exact List.le_trans h1 h2
theorem le_anti (a b : Str) (h1 : Le a b) (h2 : Le b a) : a = b := by
  rw [le_iff] at *
  have q := List.le_antisymm h1 h2
  cases a with
  | mk x =>
    cases b with
    | mk y =>
      have q' : x.toList = y.toList := q
      rw [Array.toList_inj.mp q']
theorem one_order : ∀ (l m : List Str), l.Pairwise Le → m.Pairwise Le → l.Nodup → m.Nodup → (∀ x, x ∈ l ↔ x ∈ m) → l = m
  | [], [], _, _, _, _, _ => rfl
  | [], y :: m, _, _, _, _, h => by
    have := (h y).2 List.mem_cons_self
    cases this
  | x :: l, [], _, _, _, _, h => by
    have := (h x).1 List.mem_cons_self
    cases this
  | x :: l, y :: m, pl, pm, nl, nm, h => by
    obtain ⟨l1, l2⟩ := List.pairwise_cons.mp pl
    obtain ⟨m1, m2⟩ := List.pairwise_cons.mp pm
    obtain ⟨k1, k2⟩ := List.nodup_cons.mp nl
    obtain ⟨j1, j2⟩ := List.nodup_cons.mp nm
    have exy : x = y := by
      rcases List.mem_cons.mp ((h x).1 List.mem_cons_self) with z | z
      · exact z
      · rcases List.mem_cons.mp ((h y).2 List.mem_cons_self) with q | q
        · exact q.symm
        · exact le_anti _ _ (l1 y q) (m1 x z)
    subst exy
    rw [one_order l m l2 m2 k2 j2 fun z => ?_]
    constructor
    · intro hz
      rcases List.mem_cons.mp ((h z).1 (List.mem_cons_of_mem _ hz)) with e | e
      · exact absurd (e ▸ hz) k1
      · exact e
    · intro hz
      rcases List.mem_cons.mp ((h z).2 (List.mem_cons_of_mem _ hz)) with e | e
      · exact absurd (e ▸ hz) j1
      · exact e
theorem sorted_pairs : ∀ l : List Str, sortedS l = true → l.Pairwise Le
  | [], _ => List.Pairwise.nil
  | x :: r, h => rising_pairs x r h le_trans3
end Kf
set_option Elab.async false
set_option linter.all false
set_option maxRecDepth 100000
set_option maxHeartbeats 3900000
/-! A lambda with parameters and captured names, handed as the second of two to a def, called there. Its frame is begun as that of a def within a def. -/
namespace LmY
open PySem PySem.Spec PyProof.Rows L2 LamX NdefX
/-- the lambda as a def within the def of X, whose code object is k -/
abbrev lamF (X : Cx) (ar : Arguments) (sc : Scope) (k : Addr) : NF := ⟨"<lambda>", X.env.qual ++ "<lambda>", ar, [], sc, cloFrom X.env.cells sc.names [], k⟩
/-- where its body runs: its names are N -/
abbrev lamX (X : Cx) (N : List Str) (ar : Arguments) (sc : Scope) (fo k : Addr) (A : Around) (outer : List Env) (sh : Shared) (hp : Hp) : Cx := ncx L2.CX0 X.prog X.w X.K X.mg X.base N (lamF X ar sc k) fo A outer sh hp L2.E0
/-- where the def runs that got it, entered from X's frame -/
abbrev gotX (X : Cx) (Ng : List Str) (x : Str) (sg : Scope) (g : Addr) (cg : Value) (sh : Shared) (hp : Hp) : Cx := (cxOf L2.CX0 X.prog X.w X.K X.mg X.base Ng x sg g cg X.A X.stack sh hp L2.E0).nox
/-- cells that no def of the text writes hold what they held -/
theorem cells_stay {cl : List (Str × Addr)} {fr : List Str} {ws : List (Option V)} {g g2 : Heap} {hp hp2 : Hp} {fs : List Addr} (un : Un fs [] hp hp2 g g2) (cs : CellsAt cl fr ws g hp) : CellsAt cl fr ws g2 hp2 := by
  have still : ∀ a, hp a = none → ∀ val, g.IsCell a val → g2.IsCell a val := fun a off val ⟨ob, at1, dat⟩ => by
    obtain ⟨_, at2⟩ := un.any at1 off List.not_mem_nil
    exact ⟨_, at2, dat⟩
  refine ⟨cs.len, fun nm a e => ?_, cs.inj, fun j nm e => ?_⟩
  · obtain ⟨off, val, cell⟩ := cs.all nm a e
    obtain ⟨ob, at1, _⟩ := id cell
    exact ⟨un.free a ob at1 off List.not_mem_nil, val, still a off val cell⟩
  · obtain ⟨a, e1, has⟩ := cs.has j nm e
    refine ⟨a, e1, fun z ez => ?_⟩
    obtain ⟨u, rz, cell⟩ := has z ez
    exact ⟨u, rz, still a (cs.all nm a e1).1 _ cell⟩
section
variable {X : Cx} {pins : List (Addr × Obj)} {σ : L2.St} {H : Hp} {s : Shared}
/-- a call that ends without an exception, told to its caller -/
theorem land {fo : Addr} {us : List Value} {Q : VK} (I : Inv X pins σ H s) (run : codeAny (model X.prog X.w) X.A (.call (.ref fo) ⟨us, []⟩) (CR L2.CX0 X.stack X.prog X.w H s Q L2.E0) s) :
    wpAny (model X.prog X.w) X.A (call (.ref fo) us) (EP X pins σ Q) X.xe s :=
  wpAny_call (codeAny_mono run fun res s2 told => match res, told with
    | .ok (.ret _), told => I.after told
    | .ok .next, told => told.elim
    | .ok .brk, told => told.elim
    | .ok .cont, told => told.elim
    | .error _, told => (show False from told).elim)
/-- x(e, ..), in the def that got the lambda as x -/
theorem pe_lact {N ps fr Ng : List Str} {js : List Nat} {qg : Str} {sg : Scope} {g fo k : Addr} {cg pm ctv : Value} {ar : Arguments} {body : Expr} {sc : Scope} {m i : Nat} {a : Str} {tb : TE} {p1 p2 : Pos} {e : Expr} {es : List Expr} {t : TA}
    (I : Inv X pins σ H s) (S : NScope N ps fr sc) (cp : Caps X (cloFrom X.env.cells sc.names []) fr js)
    (at_ : s.heap.get? fo = some (PySem.W.kla_obj "<lambda>" (X.env.qual ++ "<lambda>") ar body sc (cloFrom X.env.cells sc.names []) pm k ctv)) (off : H fo = none) (noF : fo ∉ frs X.stack)
    (bind : ∀ us : List Value, us.length = ps.length → bindArgs (PySem.W.kla_fn "<lambda>" (X.env.qual ++ "<lambda>") ar body sc (cloFrom X.env.cells sc.names []) pm (.ref k) ctv) ⟨us, []⟩ = pure (ps.zip us))
    (room : Room (m + 1) (X.A.deeper (envOfC qg sg s.heap.objs.size g cg)))
    (inner : ∀ (A : Around) (outer : List Env) (sh : Shared) (hp : Hp), Room m (A.deeper (envF (lamF X ar sc k) fo sh.heap.objs.size)) → PE (lamX X N ar sc fo k A outer sh hp) body tb)
    (hN : Ng[i]? = some a) (hv : Vis sg a) (pa : PA (gotX X Ng qg sg g cg s H) (e :: es) t)
    (h1 : (a == ("__debug__" : Str)) = false := by decide) (h2 : (a == ("__classdict__" : Str)) = false := by decide)
    (h3 : starEach (e :: es) (envOfC qg sg s.heap.objs.size g cg) = (false, eval e (envOfC qg sg s.heap.objs.size g cg)) :: starEach es (envOfC qg sg s.heap.objs.size g cg) := by rfl)
    (h4 : (backTo p2 (starEach es (envOfC qg sg s.heap.objs.size g cg))).any (·.1) = false := by rfl) :
    PE (gotX X Ng qg sg g cg s H) (.Call (.Name a p1) (e :: es) [] p2)
      (fun σZ HZ Q => σZ[i]? = some (some (.ref fo)) ∧ t σZ HZ fun vs H1 => vs.length = ps.length ∧ H1 k = some (CodeO k (X.env.qual ++ "<lambda>")) ∧ tb (startF N vs (js.map (slotAt σ))) H1 Q) := by
  refine ⟨fun pinsZ sZ σZ HZ Q IZ ⟨slot, rest⟩ => ?_⟩
  have same : ∀ {pn : List (Addr × Obj)} {τ : L2.St} {hp : Hp} {sh : Shared}, Inv (gotX X Ng qg sg g cg s H) pn τ hp sh → sh.heap.get? fo = some (PySem.W.kla_obj "<lambda>" (X.env.qual ++ "<lambda>") ar body sc (cloFrom X.env.cells sc.names []) pm k ctv) :=
    fun J => J.base.keep fo _ at_ off noF List.not_mem_nil
  have name := (pe_var (X := gotX X Ng qg sg g cg s H) (pos := p1) (i := i) hN hv h1 h2).run pinsZ sZ σZ HZ (fun val hp => val = .ref fo ∧ hp = HZ) IZ ⟨.ref fo, slot, rfl, rfl⟩
  refine wpAny_Call_Name_kw (thn name fun val s1 ⟨_, _, I1, rel, ev, eh⟩ => ?_)
  subst ev eh
  cases (show val = Value.ref fo from rel)
  refine PySem.W.callWith_F (first := []) ⟨_, _, _, _, same I1⟩ (thn (pa.run p2 pinsZ s1 σZ _ _ I1 rest) fun us s2 ⟨vs, H2, I2, rv, len, code, ht⟩ => ⟨⟨_, _, _, _, same I2⟩, land (us := us) I2 ?_⟩) h3 h4
  obtain ⟨⟨oc, fields, tq, o1, o2, o3⟩, _, _⟩ := I2.hok k _ code
  refine PySem.W.kla_callFunE room.depth (same I2) rfl S.co S.gen rfl ⟨k, oc, fields, tq, rfl, o1, o2, o3⟩ ?_
  rw [bind us (rv.length.symm.trans len)]
  refine wpAny_pure (wpAny_newFunctionEnv (fun y hy => S.nocell y hy) (fun y hy => S.par y.1 (List.of_mem_zip hy).1) (fun g1 ns1 more => ⟨I2.nolimit.fresh _ more, ?_⟩) S.kind)
  have grown : ∀ b ob, s2.heap.get? b = some ob → g1.get? b = some ob := fun b ob eb => more.extBut b ob (Nat.ne_of_lt (Heap.lt_size eb)) (Heap.get?_push_of_some _ eb)
  have J := inv_startN (CX := L2.CX0) (E := L2.E0) (tk := s2.toks + (ps.zip us).length) (F := lamF X ar sc k) (f := fo) S room.hd I2.env0 len rv (cells_stay I2.base (cells_of I cp)) ns1 grown
  refine PySem.W.kla_codeExpr (wpAny_mono ((inner _ _ s2 H2 (room.deeper _)).run [] _ _ H2 Q J ht) (fun _ s3 ⟨w3, H3, J3, r3, q3⟩ => ?_) fun _ _ bad => bad)
  exact ⟨w3, H3, J3.os, J3.bare, J3.base, J3.hok, r3, q3⟩
end
/-- what the def that got the lambda makes of its calls: TT -/
def Gives2 (X : Cx) (Ng : List Str) (x : Str) (sg : Scope) (g : Addr) (cg : Value) (bg : List Stmt) (a : Str) (q : Str) (ps : List Str) (m : Nat) (TT : (List V → Hp → VK → Prop) → V → Hp → VK → Prop) : Prop :=
  ∀ (fo k : Addr) (s : Shared) (H : Hp) (v : V) (Q : VK) (tl : List V → Hp → VK → Prop),
    (∀ (p1 p2 : Pos) (e : Expr) (es : List Expr) (t : TA), PA (gotX X Ng x sg g cg s H) (e :: es) t →
      starEach (e :: es) (envOfC x sg s.heap.objs.size g cg) = (false, eval e (envOfC x sg s.heap.objs.size g cg)) :: starEach es (envOfC x sg s.heap.objs.size g cg) → (backTo p2 (starEach es (envOfC x sg s.heap.objs.size g cg))).any (·.1) = false →
      PE (gotX X Ng x sg g cg s H) (.Call (.Name a p1) (e :: es) [] p2) (fun σZ HZ Q => σZ[1]? = some (some (.ref fo)) ∧ t σZ HZ fun vs H1 => vs.length = ps.length ∧ H1 k = some (CodeO k q) ∧ tl vs H1 Q)) →
    Room (m + 1) (X.A.deeper (envOfC x sg s.heap.objs.size g cg)) → H k = some (CodeO k q) → TT tl v H Q →
    ∃ t, PSs (gotX X Ng x sg g cg s H) bg t ∧ t { nx := fun _ H' => Q .non H', rt := Q } (L2.start Ng [v, .ref fo]) H
def tLam2 (T : List (Addr × Str)) (N : List Str) (js : List Nat) (TT : (List V → Hp → VK → Prop) → V → Hp → VK → Prop) (te : TE) (t : TE) : TE := fun σ H Q => te σ H fun v H0 => Tabs T H0 ∧ ∀ H1, ExtN H0 H1 → Tabs T H1 → TT (fun vs H' Q' => t (startF N vs (js.map (slotAt σ))) H' Q') v H1 Q
section
variable {X : Cx}
/-- x(e, lambda ..: body) -/
theorem pe_lamcall2 {T : List (Addr × Str)} {TT : (List V → Hp → VK → Prop) → V → Hp → VK → Prop} {x a0 a : Str} {g c tab : Addr} {m : Nat} {pg : Arguments} {bg : List Stmt} {sg : Scope} {dV kV doc pm cdv ct oc : Value} {an od : Option Addr} {osl : Array (Option Value)} {N Ng ps fr : List Str} {js : List Nat}
    {ar : Arguments} {body e : Expr} {sc : Scope} {te t : TE} {p0 p1 p2 : Pos} (gx : Gl X x) (mx : X.mg x = some (.ref g)) (kx : PySem.W.keepIn X.K (.ref g) = true)
    (look : X.K.lookup g = some ⟨oc, od, .func (PySem.W.fnOf x x pg bg sg dV kV doc pm an cdv ct), osl⟩) (code : PySem.W.codeIn X.K cdv x = true) (bx : L2.Binds X.K (PySem.W.fnOf x x pg bg sg dV kV doc pm an cdv ct) [a0, a] []) (Sg : FnScope Ng [a0, a] sg) (second : Ng[1]? = some a) (seen : Vis sg a)
    (gives : Gives2 X Ng x sg g cdv bg a (X.env.qual ++ "<lambda>") ps m TT) (pe : PE X e te)
    (own : TabB X.base X.mg c tab) (mine : X.env.code = .ref c) (inT : (tab, X.env.qual ++ "<lambda>") ∈ T) (sole : ∀ p ∈ T, p.1 = tab → p.2 = X.env.qual ++ "<lambda>") (room : Room (m + 2) X.A)
    (S : NScope N ps fr sc) (held : ndefB X.env.scope sc fr = true) (slots : js.map (fun j => X.N[j]?) = fr.map some) (plain : defaultsOf ar X.env = ([], []))
    (bind : ∀ (q : Str) (cl : List (Str × Addr)) (pm cv ctv : Value) (us : List Value), us.length = ps.length → bindArgs (PySem.W.kla_fn "<lambda>" q ar body sc cl pm cv ctv) ⟨us, []⟩ = pure (ps.zip us))
    (inner : ∀ (A : Around) (outer : List Env) (sh : Shared) (hp : Hp) (fo k : Addr), Room m (A.deeper (envF (lamF X ar sc k) fo sh.heap.objs.size)) → PE (lamX X N ar sc fo k A outer sh hp) body t)
    (h0 : (x == ("__debug__" : Str)) = false := by decide) (h1 : (a == ("__debug__" : Str)) = false := by decide) (h2 : (a == ("__classdict__" : Str)) = false := by decide)
    (h3 : starEach (e :: [.Lambda ar body sc p1]) X.env = (false, eval e X.env) :: starEach [.Lambda ar body sc p1] X.env := by rfl) :
    PE X (.Call (.Name x p0) [e, .Lambda ar body sc p1] [] p2) (tLam2 T N js TT te t) := by
  refine ⟨fun pins s σ H Q I reading => wpAny_Call_Name_kw (ld_glob I gx mx (PySem.W.callWith_K (h₀ := X.base) I.ok.mod.kin kx ?_ h3 (by rfl)) h0)⟩
  rw [h3]
  show wpAny _ _ (spliced ((false, eval e X.env) :: backTo p2 (starEach [.Lambda ar body sc p1] X.env))) _ _ s
  refine Calls.spliced_cons (thn (pe.run pins s σ H _ I reading) fun u s0 ⟨v, H0, I0, r0, tabs0, later⟩ => ?_)
  show wpAny _ _ (spliced ((false, eval (.Lambda ar body sc p1) X.env) :: backTo p2 (starEach [] X.env))) _ _ s0
  refine Calls.spliced_cons (lam_make2 I0 own mine inT sole tabs0 plain (fun y hy e => (ndef_free held y hy e).elim (fun z => I0.ok.has _ (.inl z)) fun z => I0.ok.has _ (.inr z)) fun fo k pmF ctF H1 s1 I1 grown tabs1 at_ off noF codeK => Calls.spliced_nil ⟨I1.kIn, land I1 ?_⟩)
  refine run_ofS (N := Ng) (ps := [a0, a]) (us := [u, .ref fo]) (vs := [v, .ref fo]) look code Sg room I1.env0 (bx s1 [u, .ref fo] I1.kIn rfl) (.cons r0 (.cons rfl .nil)) rfl fun room1 => ?_
  obtain ⟨ts, run, told⟩ := gives fo k s1 H1 v Q _ (fun q1 q2 e1 es1 t1 pa he hp => pe_lact (i := 1) (js := js) I1 S (Caps.made I1.ok (ndef_free held) (ndef_fr held) slots) at_ off noF (fun us hl => bind _ _ _ _ _ us hl) room1 (fun A outer sh hp2 r2 => inner A outer sh hp2 fo k r2) second seen pa h1 h2 he hp) room1 codeK (later H1 grown tabs1)
  exact ⟨ts, run.nox, told⟩
end
end LmY
set_option Elab.async false
set_option linter.all false
set_option maxRecDepth 100000
set_option maxHeartbeats 3900000
/-! The end of a law whose defs want to know that no repr is under way around them: its def is run from the caller alone. -/
namespace Gd
open PySem PySem.Spec PyProof.Rows L2 LamX LmY
section
variable {P : Program} {w : World} {K : PySem.W.Frag} {mg mb : Str → Option Value} {k : Nat} {fa scr : Addr} {cs : List (Addr × Addr)} {st : Shared} {vs : List Value} {ns : List Int}
/-- what stands in the heap ahead of the law's call -/
structure Ahead (K : PySem.W.Frag) (mg mb : Str → Option Value) (cs : List (Addr × Addr)) (scr : Addr) (vs : List Value) (st : Shared) : Prop where
  kin : K.In st.heap
  glob : st.heap.Ns mainGlobals mg
  blt : st.heap.Ns builtinsNs mb
  boot : ∀ x : Str, x ≠ "__name__" → mb x = bootBuiltins x
  lim : st.heap.NoLimit
  gens : st.gens = #[]
  tabs : ∀ p ∈ cs, st.heap.get? p.2 = some { cls := .none, data := .fields #[] }
  offK : ∀ p ∈ cs, K.lookup p.2 = none
  codes : ∀ p ∈ cs, PySem.W.CodeHd st.heap p.1 p.2
  mod : ∃ (bm : Addr) (ob : Obj), mg "__builtins__" = some (.ref bm) ∧ bm ≠ builtinsNs ∧ st.heap.get? bm = some ob ∧ ob.cls = .type "module" ∧ ob.dict = some builtinsNs ∧ ob.data = .plain
  list : st.heap.get? scr = some { cls := .type "list", data := .seq vs.toArray }
/-- tracked are the script and the tables at most -/
structure Few (K : PySem.W.Frag) (cs : List (Addr × Addr)) (scr : Addr) (H : Hp) : Prop where
  only : ∀ b, H b ≠ none → b = scr ∨ ∃ p ∈ cs, p.2 = b
  notK : H scr ≠ none → K.lookup scr = none
theorem untracked (W : Ahead K mg mb cs scr vs st) {H : Hp} (F : Few K cs scr H) {b : Addr} {ob : Obj} (at_ : st.heap.get? b = some ob) (n1 : ∀ us m, ob.data ≠ .seq us m) (n2 : ob.data ≠ .fields #[]) : H b = none := by
  refine Decidable.byContradiction fun z => ?_
  rcases F.only b z with rfl | ⟨p, hp, rfl⟩
  · rw [W.list] at at_
    cases at_
    exact n1 _ _ rfl
  · rw [W.tabs p hp] at at_
    cases at_
    exact n2 rfl
theorem hid_ns (W : Ahead K mg mb cs scr vs st) {H : Hp} (F : Few K cs scr H) {b : Addr} {m : Str → Option Value} (h : st.heap.Ns b m) : (hidT st.heap H).Ns b m := by
  obtain ⟨ob, es, ep, at_, dat, rest⟩ := h
  refine ⟨ob, es, ep, hidT_get at_ (untracked W F at_ (fun us m z => ?_) fun z => ?_), dat, rest⟩ <;> (rw [dat] at z; cases z)
theorem hid_in (W : Ahead K mg mb cs scr vs st) {H : Hp} (F : Few K cs scr H) : K.In (hidT st.heap H) := fun b ob e => by
  refine hidT_get (W.kin b ob e) (Decidable.byContradiction fun z => ?_)
  rcases F.only b z with rfl | ⟨p, hp, rfl⟩
  · rw [F.notK z] at e
    cases e
  · rw [W.offK p hp] at e
    cases e
theorem hid_tab (W : Ahead K mg mb cs scr vs st) {H : Hp} (F : Few K cs scr H) : ∀ p ∈ cs, TabB (hidT st.heap H) mg p.1 p.2 := fun p hp => by
  have here := W.tabs p hp
  have plainG : ∀ {b : Addr} {ob : Obj}, st.heap.get? b = some ob → (∃ es ep, ob.data = .dict es ep) → b ≠ p.2 := fun e ⟨es, ep, d⟩ z => by
    rw [z, here] at e
    cases e
    cases d
  refine ⟨?_, ?_, ?_⟩
  · obtain ⟨ob, us, file, tf, flags, tg, inF, text, tt, e1, r1, r2, r3, rest⟩ := W.codes p hp
    refine ⟨ob, us, file, tf, flags, tg, inF, text, tt, hidT_get e1 (untracked W F e1 (fun us m z => ?_) fun z => ?_), r1, r2, r3, rest⟩
    · rw [r2] at z
      cases z
    · rw [r2] at z
      cases z
      simp at r3
  · obtain ⟨bm, ob, b1, b2, b3, b4, b5, b6⟩ := W.mod
    refine ⟨bm, ob, b1, b2, fun z => ?_, fun z => ?_, hidT_get b3 (untracked W F b3 (fun us m z => ?_) fun z => ?_), b4, b5, b6⟩
    · obtain ⟨og, es, ep, e, dat, _⟩ := W.glob
      rw [z, e] at b3
      cases b3
      rw [dat] at b6
      cases b6
    · rw [z, here] at b3
      cases b3
      cases b6
    · rw [b6] at z
      cases z
    · rw [b6] at z
      cases z
  · obtain ⟨og, es, ep, e, dat, _⟩ := W.glob
    exact plainG e ⟨es, ep, dat⟩
theorem hid_env (W : Ahead K mg mb cs scr vs st) {H : Hp} (F : Few K cs scr H) (hok : HOk P w H st.heap) : Env0 P w K mg (hidT st.heap H) callerA [] st H :=
  ⟨rfl, ⟨hid_in W F, hid_ns W F W.glob, ⟨mb, hid_ns W F W.blt, W.boot⟩, let ⟨mc, c1, c2⟩ := W.lim; ⟨mc, hid_ns W F c1, c2⟩⟩, fun b ob e => of_hidT e, Nat.le_of_eq (hidT_size _ _), trivial, fun b hb => (List.not_mem_nil (show b ∈ ([] : List Addr) from hb)).elim, hok, .of_eq W.gens⟩
/-- what is told of the heap behind the call -/
theorem behind (W : Ahead K mg mb cs scr vs st) {H : Hp} (F : Few K cs scr H) (hok : HOk P w H st.heap) (tb : ∀ p ∈ cs, H p.2 = some (.tbl #[])) (fz : H scr = none ∨ ∃ ob xs, H scr = some (.frz ob (.lst xs))) {r : Result} {s' : Shared}
    (told : CR L2.CX0 [] P w H st (fun v _ => v = .bl true) L2.E0 r s') : r = .ok (.ret (.bool true)) ∧ OldK st.heap s'.heap ∧ s'.os = st.os ∧ AllBare s'.gens := by
  match r, told with
  | .error _, told => exact (show False from told).elim
  | .ok .next, told => exact (show False from told).elim
  | .ok .brk, told => exact (show False from told).elim
  | .ok .cont, told => exact (show False from told).elim
  | .ok (.ret u), told =>
    obtain ⟨v, H2, os, bare, un, hok2, rel, isT⟩ := told
    have isT : v = .bl true := isT
    subst isT
    obtain rfl : u = Value.bool true := rel
    have noE : ∀ b : Addr, b ∉ ([] : List Addr) := fun _ => List.not_mem_nil
    have grown : ∀ p ∈ cs, ∃ more : Array Value, s'.heap.get? p.2 = some { cls := .none, data := .fields more } := fun p hp => by
      obtain ⟨more, e⟩ := un.tbls p.2 #[] (tb p hp)
      exact ⟨_, hok2 p.2 _ e⟩
    have stays : ∀ b ob, (¬ ∃ p ∈ cs, p.2 = b) → st.heap.get? b = some ob → s'.heap.get? b = some ob := fun b ob far e => by
      by_cases z : H b = none
      · exact un.keep b ob e z (noE b) (noE b)
      · rcases F.only b z with rfl | h
        · rcases fz with f | ⟨o2, xs, f⟩
          · exact absurd f z
          · obtain ⟨e1, _⟩ := hok _ _ f
            obtain ⟨e2, _⟩ := hok2 _ _ (un.frzs _ _ _ f)
            rw [e] at e1
            cases e1
            exact e2
        · exact absurd h far
    refine ⟨rfl, ⟨fun b ob e => ?_, fun b ob e => ?_⟩, os, bare⟩
    · by_cases h : ∃ p ∈ cs, p.2 = b
      · obtain ⟨p, hp, rfl⟩ := h
        obtain ⟨more, hm⟩ := grown p hp
        rw [W.tabs p hp] at e
        cases e
        exact .inr (.inl ⟨((W.codes p hp).tab (W.tabs p hp)).isCodeTable, rfl, #[], more, rfl, by rw [Array.empty_append]; exact hm⟩)
      · exact .inl (stays b ob h e)
    · by_cases h : ∃ p ∈ cs, p.2 = b
      · obtain ⟨p, hp, rfl⟩ := h
        obtain ⟨more, hm⟩ := grown p hp
        exact ⟨_, hm⟩
      · exact ⟨ob, stays b ob h e⟩
open Classical in
/-- THE END: the law's def by its run from the caller alone -/
theorem end_at (W : Ahead K mg mb cs scr vs st) (are : IntsAre vs ns) (short : ns.length ≤ sizeLine)
    (run : ∀ (base : Heap) (H : Hp), K.In base → base.Ns mainGlobals mg → (∀ p ∈ cs, TabB base mg p.1 p.2) → (∀ p ∈ cs, H p.2 = some (.tbl #[])) → SqL K H scr (ns.map V.int) → Env0 P w K mg base callerA [] st H →
      codeAny (model P w) callerA (.call (.ref fa) ⟨[.ref scr], []⟩) (CR L2.CX0 [] P w H st (fun v _ => v = .bl true) L2.E0) st) :
    codeAny (model P w) callerA (.call (.ref fa) ⟨[.ref scr], []⟩) (fun r s' => r = .ok (.ret (.bool true)) ∧ OldK st.heap s'.heap ∧ s'.os = st.os ∧ AllBare s'.gens) st := by
  have rv := vals_ints are
  have same := are.length
  have scrT : ¬ ∃ p ∈ cs, p.2 = scr := fun ⟨p, hp, e⟩ => by
    have z := W.tabs p hp
    rw [e, W.list] at z
    cases z
  have go : ∀ H : Hp, (∀ b, (∃ p ∈ cs, p.2 = b) → H b = some (.tbl #[])) → (∀ b, (¬ ∃ p ∈ cs, p.2 = b) → b ≠ scr → H b = none) → (H scr = none ∨ (K.lookup scr = none ∧ H scr = some (.frz { cls := .type "list", data := .seq vs.toArray } (.lst (ns.map V.int))))) → SqL K H scr (ns.map V.int) →
      codeAny (model P w) callerA (.call (.ref fa) ⟨[.ref scr], []⟩) (fun r s' => r = .ok (.ret (.bool true)) ∧ OldK st.heap s'.heap ∧ s'.os = st.os ∧ AllBare s'.gens) st := by
    intro H isTab noneElse atScr seq
    have few : Few K cs scr H := ⟨fun b z => by
      by_cases h : ∃ p ∈ cs, p.2 = b
      · exact .inr h
      · exact .inl (Decidable.byContradiction fun n => z (noneElse b h n)), fun z => (atScr.resolve_left z).1⟩
    have hok : HOk P w H st.heap := fun b ob e => by
      by_cases h : ∃ p ∈ cs, p.2 = b
      · rw [isTab b h] at e
        cases e
        obtain ⟨p, hp, rfl⟩ := h
        exact W.tabs p hp
      · by_cases n : b = scr
        · subst n
          rcases atScr with z | ⟨_, z⟩
          · rw [z] at e
            cases e
          · rw [z] at e
            cases e
            exact ⟨W.list, by rw [List.length_map]; exact short, vs, _, rv, W.list⟩
        · rw [noneElse b h n] at e
          cases e
    have tb : ∀ p ∈ cs, H p.2 = some (.tbl #[]) := fun p hp => isTab p.2 ⟨p, hp, rfl⟩
    exact codeAny_mono (run _ H (hid_in W few) (hid_ns W few W.glob) (hid_tab W few) tb seq (hid_env W few hok)) fun r s' told => behind W few hok tb (atScr.imp id fun z => ⟨_, _, z.2⟩) told
  cases hk : K.lookup scr with
  | some ob =>
    have e := W.kin scr ob hk
    rw [W.list] at e
    cases e
    exact go (fun b => if ∃ p ∈ cs, p.2 = b then some (.tbl #[]) else none) (fun b h => if_pos h) (fun b h _ => if_neg h) (.inl (if_neg scrT)) (.inr ⟨_, vs.toArray, _, hk, rfl, rfl, rfl, by rw [List.size_toArray, same]; exact short, by simpa using rv⟩)
  | none =>
    refine go (fun b => if b = scr then some (.frz { cls := .type "list", data := .seq vs.toArray } (.lst (ns.map V.int))) else if ∃ p ∈ cs, p.2 = b then some (.tbl #[]) else none) (fun b h => ?_) (fun b h n => ?_) (.inr ⟨hk, if_pos rfl⟩) (.inl (.inr ⟨_, if_pos rfl⟩))
    · exact (if_neg (fun z => scrT (by rw [← z]; exact h))).trans (if_pos h)
    · exact (if_neg n).trans (if_neg h)
end
end Gd
set_option Elab.async false
set_option linter.all false
set_option maxRecDepth 100000
set_option maxHeartbeats 3900000
/-! Defs that are run where no repr is under way; repr of data. -/
namespace Gd
open PySem PySem.Spec PyProof.Rows L2 LamX LmY
/-- as FnOk, where no repr is under way around the call -/
structure FnG (P : Program) (w : World) (K : PySem.W.Frag) (mg : Str → Option Value) (base : Heap) (k : Nat) (f : Addr) (fd : FuncData) (ps : List Str) (sp : Sp) : Prop where
  len : ∀ vs H Q E, sp vs H Q E → vs.length = ps.length
  run : ∀ (A : Around) (outer : List Env) (s : Shared) (H : Hp) (args : Args) (us : List Value) (vs : List V) (Q : VK), A.guards = some [] → Room k A → Env0 P w K mg base A outer s H → BindsTo s fd args (ps.zip us) → Vals vs us → sp vs H Q L2.E0 →
    codeAny (model P w) A (.call (.ref f) args) (CR L2.CX0 outer P w H s Q L2.E0) s
section
variable {P : Program} {w : World} {K : PySem.W.Frag} {mg : Str → Option Value} {base : Heap}
/-- a def of the text, by its body -/
theorem okG {x : Str} {st : Stmt} {f : Addr} {fd : FuncData} {N ps : List Str} {k : Nat} {sp : Sp} (F : Fun K x x st f fd) (S : FnScope N ps (defScope st)) (len : ∀ vs H Q E, sp vs H Q E → vs.length = ps.length)
    (body : ∀ (cdv : Value) (A : Around) (outer : List Env) (s : Shared) (H : Hp) (vs : List V) (Q : VK), A.guards = some [] → Room k (A.deeper (envOfC x (defScope st) s.heap.objs.size f cdv)) → sp vs H Q L2.E0 →
      ∃ t, PSs (cxOf L2.CX0 P w K mg base N x (defScope st) f cdv A outer s H L2.E0).nox (defBody st) t ∧ t { nx := fun _ H' => Q .non H', rt := Q } (L2.start N vs) H) : FnG P w K mg base (k + 1) f fd ps sp := by
  obtain ⟨oc, od, kV, doc, pm, an, cdv, ct, osl, rfl, look, code⟩ := F.ex
  refine ⟨len, fun A outer s H args us vs Q gu room e0 bind rel h => ?_⟩
  refine run_ofS look code S room e0 bind rel (len _ _ _ _ h) fun room1 => ?_
  obtain ⟨t, run, told⟩ := body cdv A outer s H vs Q gu room1 h
  exact ⟨t, run.nox, told⟩
/-- FnOk is more -/
theorem FnG.of {k : Nat} {f : Addr} {fd : FuncData} {ps : List Str} {sp : Sp} (F : FnOk P w K mg base L2.CX0 k f fd ps sp) : FnG P w K mg base k f fd ps sp := ⟨F.len, fun A outer s H args us vs Q _ room e0 bind rel h => F.run A outer s H args us vs Q L2.E0 room e0 bind rel h⟩
end
section
variable {X : Cx}
/-- x(e, ..), x such a def -/
theorem pe_callG {k : Nat} {f : Addr} {fd : FuncData} {ps : List Str} {sp : Sp} {x : Str} {p pos : Pos} {e : Expr} {es : List Expr} {t : TA} (F : FnG X.prog X.w X.K X.mg X.base k f fd ps sp) (gu : X.A.guards = some []) (room : Room k X.A) (gl : Gl X x) (mx : X.mg x = some (.ref f)) (kx : PySem.W.keepIn X.K (.ref f) = true)
    (bind : L2.Binds X.K fd ps []) (pa : PA X (e :: es) t) (h0 : (x == ("__debug__" : Str)) = false := by decide)
    (h1 : starEach (e :: es) X.env = (false, eval e X.env) :: starEach es X.env := by rfl) (h2 : (backTo pos (starEach es X.env)).any (·.1) = false := by rfl) :
    PE X (.Call (.Name x p) (e :: es) [] pos) (fun σ H Q => t σ H fun vs H1 => sp vs H1 Q L2.E0) := by
  refine ⟨fun pins s σ H Q I reading => wpAny_Call_Name_kw (ld_glob I gl mx (PySem.W.callWith_K (h₀ := X.base) I.ok.mod.kin kx (thn (pa.run pos pins s σ H _ I reading) fun us s1 ⟨vs, H1, I1, rel, q⟩ => ⟨I1.kIn, land (us := us) I1 ?_⟩) h1 h2) h0)⟩
  have given := bind s1 us I1.kIn (by rw [List.append_nil]; exact rel.length.symm.trans (F.len _ _ _ _ q))
  rw [List.append_nil] at given
  exact F.run X.A X.stack s1 H1 ⟨us, []⟩ us vs Q gu room I1.env0 given rel q
/-- repr of data, no repr being under way -/
theorem cr_reprD (gu : X.A.guards = some []) (un : X.A.units + 64 < cLine) : CallR X (.builtin "repr") (fun xs H Q => ∃ (a : Addr) (d : PyData), xs = [.ref a] ∧ Dp X.K H (.ref a) d ∧ d.showable = true ∧ d.hasDict = false ∧ d.depth ≤ 60 ∧ d.shown.length ≤ sizeLine ∧ Q (.str d.shown) H) := by
  intro pins s σ H xs us Q I rel ⟨a, d, ex, dp, sh, nd, dd, fits, q⟩
  subst ex
  rw [Vals.ref1 rel]
  obtain ⟨as, rd⟩ := Dp.reads I d (.ref a) (.ref a) dp rfl
  exact repr_of_reads' rd sh (fun e => by rw [nd] at e; cases e) gu (by omega) (fun _ _ e => e) (fun h' u tk kp => ⟨.str d.shown, H, I.kept kp, ⟨u, rfl⟩, q⟩) fits
end
/-- what the end wants of the law's def -/
def LawG (l : PySem.W.OpenLaw) (w : World) (K : PySem.W.Frag) (k n : Nat) (x : Str) (mg : Str → Option Value) (fa : Addr) (h : Heap) : Prop :=
  ∃ (fd : FuncData) (cs : List (Addr × Addr)) (sp : Sp), (∀ p ∈ cs, h.get? p.2 = some { cls := .none, data := .fields #[] }) ∧ (∀ p ∈ cs, K.lookup p.2 = none) ∧ (∀ p ∈ cs, PySem.W.CodeHd h p.1 p.2) ∧ (∀ (s : Shared) (u : Value), BindsTo s fd ⟨[u], []⟩ [(x, u)]) ∧
    (∀ (H : Hp) (a : Addr) (ns : List Int), ns.length ≤ n → (∀ z ∈ ns, Builtin.Int.intBits z ≤ 1048576) → (∀ p ∈ cs, H p.2 = some (.tbl #[])) → SqL K H a (ns.map V.int) → sp [.ref a] H (fun v _ => v = .bl true) L2.E0) ∧
    ∀ base : Heap, K.In base → base.Ns mainGlobals mg → (∀ p ∈ cs, TabB base mg p.1 p.2) → FnG l.prog w K mg base k fa fd [x] sp
/-- the end of a law some defs of which say repr, or hold lambdas: these ones' tables are still empty -/
theorem walk_guard {l : PySem.W.OpenLaw} {n k : Nat} {q : Program} {loose : List Str} {XP : (Str → Option Value) → Heap → Prop} {YP : World → Heap → Prop} {d : DefRec} {K : Params → PySem.W.Frag} {x : Str} (nms : List Str)
    (hn : l.most = some n) (line : n ≤ sizeLine) (hdf : d.params.defaults = []) (room : Room k callerA) (recs : ∀ nm ∈ nms, ((recsOf q).any fun e => e.name == nm) = true) (hY : ∀ (w : World) (h : Heap), YP w h → (K w.params).In h)
    (F : ∀ (w : World) (mg : Str → Option Value) (fa : Addr) (h : Heap), YP w h → (K w.params).In h → h.Ns mainGlobals mg → mg d.name = some (.ref fa) → (∀ nm ∈ nms, ∀ fw, mg nm = some (.ref fw) → OwnTab (K w.params) fw h) → LawG l w (K w.params) k n x mg fa h) :
    PySem.W.WalkO q loose XP YP l.row.toRowW d [] (fun f vs => PySem.call f vs) := by
  refine Att.attach_callB hn hdf fun w s0 s1 mg mb fa o pm cd doc a vs ns G Y ho hd hcd hmg hobj hints hlen hbits hg => ?_
  have KX := hY w _ Y
  have tabs : ∀ nm ∈ nms, ∀ fw, mg nm = some (.ref fw) → OwnTab (K w.params) fw s1.heap := by
    intro nm inn fw hw c P o1 fd1 e dd us sl look isF isC lookC at11
    obtain ⟨dR, mem, same⟩ := List.any_eq_true.mp (recs nm inn)
    have eN : dR.name = nm := beq_iff_eq.mp same
    obtain ⟨a2, o2, fd2, c2, P2, g1, g2, g3, g4, _, ⟨oc, vc, g5, _, g6, g7⟩, empty⟩ := G.T.tab dR mem
    rw [eN] at g1
    cases hw.symm.trans g1
    cases (KX _ _ look).symm.trans g2
    cases isF.symm.trans g3
    cases isC.symm.trans g4
    cases (KX _ _ lookC).symm.trans g5
    cases g6
    cases at11.symm.trans g7
    exact empty
  obtain ⟨fd, cs, sp, hT, nT, hC, hb, hsp, hF⟩ := F w mg fa _ Y KX G.T.g hmg tabs
  exact end_at ⟨KX, G.T.g, G.T.b, G.T.builtins, G.T.nolimit, hg, hT, nT, hC, G.T.bmain, hobj⟩ hints (Nat.le_trans hlen line) fun base H hK hG hB ht hS e0 =>
    (hF base hK hG hB).run callerA [] s1 H ⟨[.ref a], []⟩ [.ref a] [.ref a] _ rfl room e0 (hb s1 (.ref a)) (.cons rfl .nil) (hsp H a ns hlen hbits ht hS)
end Gd
set_option Elab.async false
set_option linter.all false
set_option maxRecDepth 100000
set_option maxHeartbeats 4000000
set_option pp.maxSteps 1500
/-! k24: the dice, a pick. -/
namespace Kf
open PySem PySem.Spec PyProof.Rows L2 Sx
def top (i : Nat) : Stmt := PySem.Challenge.pw_prooffruit_k24_worths_or_not.main.body.getD i (.Pass ⟨0, 0, 0, 0⟩)
abbrev sRoll : Stmt := top 7
abbrev sPick : Stmt := top 8
abbrev rollN : List Str := ["dice", "size", "spot", "cell", "seed", "rest"]
theorem scRoll : FnScope rollN ["dice", "size"] (defScope sRoll) := ⟨rfl, rfl, rfl, by decide +kernel, rfl, by decide +kernel, by decide +kernel⟩
theorem scPick : FnScope ["dice", "some"] ["dice", "some"] (defScope sPick) := ⟨rfl, rfl, rfl, by decide +kernel, rfl, by decide +kernel, by decide +kernel⟩
/-- the dice: its cells, how many are used up, below m -/
def DiceAt (H : Hp) (p L : Addr) (m : Int) : Prop := ∃ (spot n rest : Int) (cells : List Int), H p = some (.lst [.ref L, .int spot, .int n, .int rest]) ∧ L ≠ p ∧ H L = some (.lst (cells.map V.int)) ∧ cells.length ≤ 63 ∧ 0 ≤ spot ∧ spot ≤ m
theorem DiceAt.same {H H' : Hp} {p L : Addr} {m : Int} (h : DiceAt H p L m) (b : Same H H') : DiceAt H' p L m := by
  obtain ⟨x, n, r, cs, e, nl, eL, q⟩ := h
  exact ⟨x, n, r, cs, b _ _ e, nl, b _ _ eL, q⟩
theorem DiceAt.more {H : Hp} {p L : Addr} {m k : Int} (h : DiceAt H p L m) (l : m ≤ k) : DiceAt H p L k := by
  obtain ⟨x, n, r, cs, e, nl, eL, hc, h0, h1⟩ := h
  exact ⟨x, n, r, cs, e, nl, eL, hc, h0, Int.le_trans h1 l⟩
theorem DiceAt.ne {H : Hp} {p q L : Addr} {m : Int} (h : DiceAt H p L m) (e : H q = none) : q ≠ p := fun z => by
  obtain ⟨x, n, r, cs, e2, _⟩ := h
  rw [z, e2] at e
  cases e
theorem DiceAt.tups {H H' : Hp} {p L : Addr} {m : Int} (h : DiceAt H p L m) (b : But p H H') : Tups H H' := by
  obtain ⟨x, n, r, cs, e2, _⟩ := h
  intro c xs e
  refine b _ _ (fun z => ?_) e
  rw [z, e2] at e
  cases e
/-! ### whole numbers as data -/
theorem dp_ints {K : PySem.W.Frag} {H : Hp} {a : Addr} {ns : List Int} (h : SqL K H a (ns.map V.int)) : Dp K H (.ref a) (.list (ns.map PyData.int)) := by
  refine .lst h ?_
  clear h
  induction ns with
  | nil => exact .nil
  | cons x r ih => exact .cons (.int x) ih
theorem lay_ints : ∀ ns : List Int, PyData.canLayAll0 (ns.map .int) = true ∧ PyData.depthAll (ns.map .int) = 0
  | [] => ⟨rfl, rfl⟩
  | z :: r => by
    obtain ⟨h1, h2⟩ := lay_ints r
    refine ⟨?_, ?_⟩
    · show (true && PyData.canLayAll0 (r.map .int)) = true
      rw [h1]
      rfl
    · show max 0 (PyData.depthAll (r.map .int)) = 0
      rw [h2]
      rfl
theorem shaped_ints (ns : List Int) : SeqAt.shaped (.list (ns.map .int)) = true := by
  obtain ⟨h1, h2⟩ := lay_ints ns
  show (PyData.canLayAll0 (ns.map .int) && decide (PyData.depthAll (ns.map .int) + 1 ≤ 64)) = true
  rw [h1, h2]
  rfl
theorem notM {m : Int} (h : 0 < m) : m ≠ 0 := Int.ne_of_gt h
theorem mod_in {i m : Int} (h : 0 < m) : 0 ≤ i.fmod m ∧ i.fmod m < m := by
  rw [Int.fmod_eq_emod_of_nonneg _ (Int.le_of_lt h)]
  exact ⟨Int.emod_nonneg _ (Int.ne_of_gt h), Int.emod_lt_of_pos _ h⟩
theorem atI_in {α : Type} {xs : List α} {r : Int} (h0 : 0 ≤ r) (h1 : r < (xs.length : Int)) : ∃ x ∈ xs, atI xs r = some x := by
  obtain ⟨k, rfl⟩ := Int.eq_ofNat_of_zero_le h0
  have lt : k < xs.length := by omega
  exact ⟨xs[k], List.getElem_mem lt, atI_nat (List.getElem?_eq_getElem lt)⟩
section
variable {P : Program} {w : World} {K : PySem.W.Frag} {mg : Str → Option Value} {base : Heap}
def spRoll : Sp := fun vs H Q _ => ∃ (p L : Addr) (size m : Int), vs = [.ref p, .int size] ∧ 0 < size ∧ size.natAbs < 2 ^ 200 ∧ m < 2 ^ 50 ∧ DiceAt H p L m ∧
  ∀ (r : Int) H', 0 ≤ r → r < size → But p H H' → DiceAt H' p L (m + 1) → Q (.int r) H'
theorem ok_roll {f : Addr} {fd : FuncData} {j : Nat} (F : Fun K "_law_roll" "_law_roll" sRoll f fd) (ml : mg "len" = none) : FnOk P w K mg base CX0 (j + 1) f fd ["dice", "size"] spRoll := by
  refine F.ok scRoll (fun vs H Q E h => ?_) (fun cdv A outer s H vs Q E hr h => ?_)
  · obtain ⟨a, L, z, m, rfl, _⟩ := h
    rfl
  obtain ⟨p, L, size, m, rfl, pos, small, mm, ⟨spot, n, rest, cells, hp, nl, hL, hc, s0, s1⟩, q⟩ := h
  have u1 : (A.deeper (envOfC "_law_roll" (defScope sRoll) s.heap.objs.size f cdv)).units + 64 < cLine := by
    have := hr.units
    omega
  refine ⟨_, pss_cons (ps_if (pt_cmpR op_eq (pe_ix ix_list (pv 0) pe_int (fun _ _ => rfl)) pe_int (nomark _))
      (pss_cons (ps_set (i := 2) scRoll.nd rfl (.inl rfl) (pe_ix ix_list (pv 0) pe_int (fun _ _ => rfl)))
      (pss_cons (ps_asg (pe_op op_add (pv 2) pe_int) (pg_sub (pv 0) pe_int set_list))
      (pss_cons (ps_set (i := 3) scRoll.nd rfl (.inl rfl) pe_int)
      (pss_cons (ps_if (pt_cmpR (op_neD u1) (pe_ix ix_list (pv 0) pe_int (fun _ _ => rfl)) (pe_lst pa_nil) (nomark _))
        (pss_one (ps_set (i := 3) scRoll.nd rfl (.inl rfl) (pe_ix ix_list (pe_ix ix_list (pv 0) pe_int (fun _ _ => rfl)) (pe_op op_modN (pv 2) (pe_callB call_len_seq (by rfl) ml PySem.boot_len (pa_cons (pe_ix ix_list (pv 0) pe_int (fun _ _ => rfl)) pa_nil))) (fun _ _ => rfl)))) pss_nil)
      (pss_cons (ps_if (PW.pt (pw_or (pt_cmpR op_ge (pv 2) (pe_callB call_len_seq (by rfl) ml PySem.boot_len (pa_cons (pe_ix ix_list (pv 0) pe_int (fun _ _ => rfl)) pa_nil)) (nomark _)) (pw_or1 (pt_cmpR op_lt (pv 3) (pe_op op_pow pe_int pe_int) (nomark _)))))
        (pss_cons (ps_set (i := 4) scRoll.nd rfl (.inl rfl) (pe_op op_modN (pe_op op_mul (pe_op op_add (pe_op op_modN (pv 3) pe_int) pe_int) (pe_op op_add (pe_op op_add (pe_op op_mul (pv 2) (pv 2)) (pe_op op_mul pe_int (pv 2))) pe_int)) pe_int))
        (pss_cons (ps_set (i := 4) scRoll.nd rfl (.inl rfl) (pe_op op_modN (pe_op op_pow (pv 4) pe_int) pe_int))
        (pss_one (ps_ret (pe_op op_modN (pe_op op_fdiv (pe_op op_modN (pe_op op_add (pv 4) (pe_op op_mul pe_int (pv 2))) pe_int) pe_int) (pv 1)))))) pss_nil)
      (pss_cons (ps_asg pe_int (pg_sub (pv 0) pe_int set_list))
      (pss_one (ps_asg (pe_op op_sub (pv 3) (pe_op op_pow pe_int pe_int)) (pg_sub (pv 0) pe_int set_list))))))))) pss_nil)
    (pss_cons (ps_asg (pe_op op_sub (pe_ix ix_list (pv 0) pe_int (fun _ _ => rfl)) pe_int) (pg_sub (pv 0) pe_int set_list))
    (pss_cons (ps_set (i := 5) scRoll.nd rfl (.inl rfl) (pe_ix ix_list (pv 0) pe_int (fun _ _ => rfl)))
    (pss_cons (ps_asg (pe_op op_fdivW (pv 5) (pv 1)) (pg_sub (pv 0) pe_int set_list)) (pss_one (ps_ret (pe_op op_modN (pv 5) (pv 1))))))), ?_⟩
  have sq : ∀ (H' : Hp) a b c, H' p = some (.lst [.ref L, a, b, c]) → SqL K H' p [.ref L, a, b, c] := fun H' a b c e => .inl (.inl e)
  have end_ : ∀ (H' : Hp) (x a b : Int), H' p = some (.lst [.ref L, .int x, .int a, .int b]) → But p H H' → 0 ≤ x → x ≤ m + 1 →
      (∃ H2, H2 = upd (upd H' p (.lst [.ref L, .int x, .int (a - 1), .int b])) p (.lst [.ref L, .int x, .int (a - 1), .int (b / size)]) ∧ Q (.int (b.fmod size)) H2) := fun H' x a b e bb x0 x1 => by
    refine ⟨_, rfl, ?_⟩
    refine q _ _ (mod_in pos).1 (mod_in pos).2 ((bb.own).own) ⟨x, a - 1, b / size, cells, upd_same, nl, ?_, hc, x0, x1⟩
    rw [upd_ne nl, upd_ne nl]
    exact bb _ _ nl hL
  have sp : CMul spot spot := .inl ⟨by omega, by omega⟩
  have in64 : ∀ c : Int, -(2 ^ 64) < c.fmod 999953 + 37 ∧ c.fmod 999953 + 37 < 2 ^ 64 := fun c => by
    obtain ⟨a, b⟩ := mod_in (i := c) (m := 999953) (by decide)
    omega
  have pow64 : ∀ c : Int, (c.fmod 1000003).natAbs < 2 ^ 64 := fun c => by
    obtain ⟨a, b⟩ := mod_in (i := c) (m := 1000003) (by decide)
    omega
  refine ⟨_, rfl, p, _, 2, .int n, rfl, rfl, sq _ _ _ _ hp, rfl, rfl, _, rfl, ?_⟩
  refine ite2 (fun c => ?_) (fun c => ?_)
  · refine ⟨_, rfl, p, _, 1, .int spot, rfl, rfl, sq _ _ _ _ hp, rfl, ?_⟩
    refine ⟨_, rfl, _, _, rfl, rfl, _, rfl, p, _, 1, 1, rfl, rfl, hp, rfl, ?_⟩
    have b1 : But p H (upd H p (.lst [.ref L, .int (spot + 1), .int n, .int rest])) := (But.refl p H).own
    have hL1 := b1 _ _ nl hL
    have hp1 : upd H p (.lst [.ref L, .int (spot + 1), .int n, .int rest]) p = some (.lst [.ref L, .int (spot + 1), .int n, .int rest]) := upd_same
    refine ⟨_, rfl, p, _, 0, .ref L, rfl, rfl, sq _ _ _ _ hp1, rfl, (by show 0 ≤ sizeLine; decide), fun e0 ne0 => ?_⟩
    have s2 := same_new (o := .lst []) ne0
    have b2 := b1.new (o := .lst []) ne0
    have hL2 := s2 _ _ hL1
    have hp2 := s2 _ _ hp1
    refine ⟨_, _, dp_ints (.inl (.inl hL2)), .lst (.inl (.inl upd_same)) .nil, shaped_ints _, rfl, _, rfl, ?_⟩
    cases cells with
    | nil =>
      refine iteF ?_
      refine ⟨_, rfl, _, rfl, p, _, 0, .ref L, rfl, rfl, sq _ _ _ _ hp2, rfl, L, _, rfl, .inl (.inl (.inl hL2)), _, _, rfl, rfl, _, rfl, ?_⟩
      refine ite2 (fun c2 => ?_) (fun c2 => (c2 (decide_eq_true s0)).elim)
      refine ⟨_, rfl, _, _, rfl, rfl, notM (by decide), _, _, rfl, rfl, _, rfl, _, rfl, _, _, rfl, rfl, sp, _, rfl, _, _, rfl, rfl, .inl ⟨by decide, by decide⟩, _, _, rfl, rfl, _, _, rfl, rfl, _, _, rfl, rfl, .inl (in64 _), _, _, rfl, rfl, notM (by decide), ?_⟩
      refine ⟨_, rfl, _, _, rfl, rfl, ⟨by decide, by decide, pow64 _⟩, _, _, rfl, rfl, notM (by decide), ?_⟩
      refine ⟨_, rfl, _, rfl, _, _, rfl, rfl, .inl ⟨by decide, by decide⟩, _, _, rfl, rfl, _, _, rfl, rfl, notM (by decide), _, _, rfl, rfl, ⟨by decide, by decide⟩, _, rfl, _, _, rfl, rfl, notM pos, ?_⟩
      exact q _ _ (mod_in pos).1 (mod_in pos).2 b2 ⟨spot + 1, n, rest, _, hp2, nl, hL2, hc, by omega, by omega⟩
    | cons z zs =>
      refine iteT ?_
      refine ⟨_, rfl, p, _, 0, .ref L, rfl, rfl, sq _ _ _ _ hp2, rfl, _, rfl, _, rfl, p, _, 0, .ref L, rfl, rfl, sq _ _ _ _ hp2, rfl, L, _, rfl, .inl (.inl (.inl hL2)), _, _, rfl, rfl, notM (by show (0 : Int) < (((z :: zs).map V.int).length : Nat); rw [List.length_map]; exact Int.natCast_pos.mpr (Nat.succ_pos _)), ?_⟩
      obtain ⟨i0, i1⟩ := mod_in (i := spot) (m := (((z :: zs).map V.int).length : Nat)) (by rw [List.length_map]; exact Int.natCast_pos.mpr (Nat.succ_pos _))
      have item : ∃ y : Int, atI ((z :: zs).map V.int) (spot.fmod (((z :: zs).map V.int).length : Nat)) = some (.int y) := by
        obtain ⟨x, mem, e⟩ := atI_in i0 i1
        obtain ⟨y, _, ey⟩ := List.mem_map.mp mem
        exact ⟨y, by rw [e, ← ey]⟩
      obtain ⟨y, item⟩ := item
      refine ⟨L, _, _, _, rfl, rfl, .inl (.inl hL2), item, ?_⟩
      refine ⟨_, rfl, _, rfl, p, _, 0, .ref L, rfl, rfl, sq _ _ _ _ hp2, rfl, L, _, rfl, .inl (.inl (.inl hL2)), _, _, rfl, rfl, _, rfl, ?_⟩
      refine ite2 (fun c2 => ?_) (fun c2 => ?_)
      · refine ⟨_, rfl, _, _, rfl, rfl, notM (by decide), _, _, rfl, rfl, _, rfl, _, rfl, _, _, rfl, rfl, sp, _, rfl, _, _, rfl, rfl, .inl ⟨by decide, by decide⟩, _, _, rfl, rfl, _, _, rfl, rfl, _, _, rfl, rfl, .inl (in64 _), _, _, rfl, rfl, notM (by decide), ?_⟩
        refine ⟨_, rfl, _, _, rfl, rfl, ⟨by decide, by decide, pow64 _⟩, _, _, rfl, rfl, notM (by decide), ?_⟩
        refine ⟨_, rfl, _, rfl, _, _, rfl, rfl, .inl ⟨by decide, by decide⟩, _, _, rfl, rfl, _, _, rfl, rfl, notM (by decide), _, _, rfl, rfl, ⟨by decide, by decide⟩, _, rfl, _, _, rfl, rfl, notM pos, ?_⟩
        exact q _ _ (mod_in pos).1 (mod_in pos).2 b2 ⟨spot + 1, n, rest, _, hp2, nl, hL2, hc, by omega, by omega⟩
      · refine ⟨_, rfl, _, _, rfl, rfl, ⟨by decide, by decide, by decide⟩, _, _, rfl, rfl, _, rfl, ?_⟩
        refine ite2 (fun c3 => ?_) (fun c3 => ?_)
        · refine ⟨_, rfl, _, _, rfl, rfl, notM (by decide), _, _, rfl, rfl, _, rfl, _, rfl, _, _, rfl, rfl, sp, _, rfl, _, _, rfl, rfl, .inl ⟨by decide, by decide⟩, _, _, rfl, rfl, _, _, rfl, rfl, _, _, rfl, rfl, .inl (in64 _), _, _, rfl, rfl, notM (by decide), ?_⟩
          refine ⟨_, rfl, _, _, rfl, rfl, ⟨by decide, by decide, pow64 _⟩, _, _, rfl, rfl, notM (by decide), ?_⟩
          refine ⟨_, rfl, _, rfl, _, _, rfl, rfl, .inl ⟨by decide, by decide⟩, _, _, rfl, rfl, _, _, rfl, rfl, notM (by decide), _, _, rfl, rfl, ⟨by decide, by decide⟩, _, rfl, _, _, rfl, rfl, notM pos, ?_⟩
          exact q _ _ (mod_in pos).1 (mod_in pos).2 b2 ⟨spot + 1, n, rest, _, hp2, nl, hL2, hc, by omega, by omega⟩
        · refine ⟨_, rfl, p, _, 2, 2, rfl, rfl, hp2, rfl, ?_⟩
          refine ⟨_, rfl, _, _, rfl, rfl, ⟨by decide, by decide, by decide⟩, _, _, rfl, rfl, _, rfl, p, _, 3, 3, rfl, rfl, upd_same, rfl, ?_⟩
          refine ⟨_, rfl, p, _, 2, _, rfl, rfl, sq _ _ _ _ upd_same, rfl, _, _, rfl, rfl, _, rfl, p, _, 2, 2, rfl, rfl, upd_same, rfl, ?_⟩
          refine ⟨_, rfl, p, _, 3, _, rfl, rfl, sq _ _ _ _ upd_same, rfl, ?_⟩
          refine ⟨_, rfl, _, rfl, _, _, rfl, rfl, wide_div pos small (by decide) (by decide), _, rfl, p, _, 3, 3, rfl, rfl, upd_same, rfl, ?_⟩
          refine ⟨_, rfl, _, rfl, _, _, rfl, rfl, notM pos, ?_⟩
          refine q _ _ (mod_in pos).1 (mod_in pos).2 ((((b2.own).own).own).own) ⟨spot + 1, _, _, _, upd_same, nl, ?_, hc, by omega, by omega⟩
          rw [upd_ne nl, upd_ne nl, upd_ne nl, upd_ne nl]
          exact hL2
  · refine ⟨_, rfl, p, _, 2, _, rfl, rfl, sq _ _ _ _ hp, rfl, _, _, rfl, rfl, _, rfl, p, _, 2, 2, rfl, rfl, hp, rfl, ?_⟩
    refine ⟨_, rfl, p, _, 3, _, rfl, rfl, sq _ _ _ _ upd_same, rfl, ?_⟩
    refine ⟨_, rfl, _, rfl, _, _, rfl, rfl, wide_div pos small (by decide) (by decide), _, rfl, p, _, 3, 3, rfl, rfl, upd_same, rfl, ?_⟩
    refine ⟨_, rfl, _, rfl, _, _, rfl, rfl, notM pos, ?_⟩
    refine q _ _ (mod_in pos).1 (mod_in pos).2 ((((But.refl p H).own).own)) ⟨spot, _, _, _, upd_same, nl, ?_, hc, s0, by omega⟩
    rw [upd_ne nl, upd_ne nl]
    exact hL
end
end Kf
set_option Elab.async false
set_option linter.all false
set_option maxRecDepth 100000
set_option maxHeartbeats 4000000
set_option pp.maxSteps 800
/-! Data of any form. -/
namespace Kf
open PySem PySem.Spec PyProof.Rows L2 Sx
section
variable {K : PySem.W.Frag} {H H' : Hp}
theorem sqL_up {a : Addr} {xs : List V} (b : Same H H') (h : SqL K H a xs) : SqL K H' a xs := by
  rcases h with (h | ⟨o, h⟩) | h
  · exact .inl (.inl (b _ _ h))
  · exact .inl (.inr ⟨o, b _ _ h⟩)
  · exact .inr h
theorem sqT_up {a : Addr} {xs : List V} (b : Same H H') (h : SqT K H a xs) : SqT K H' a xs := by
  rcases h with (h | ⟨o, h⟩) | h
  · exact .inl (.inl (b _ _ h))
  · exact .inl (.inr ⟨o, b _ _ h⟩)
  · exact .inr h
mutual
theorem dp_up (s : Same H H') : ∀ (d : PyData) (v : V), Dp K H v d → Dp K H' v d
  | .none, _, h => by cases h; exact .non
  | .bool b, _, h => by cases h; exact .bl b
  | .int b, _, h => by cases h; exact .int b
  | .str b, _, h => by cases h; exact .str b
  | .list ds, _, h => by
    cases h with
    | lst h a => exact .lst (sqL_up s h) (dps_up s ds _ a)
  | .tuple ds, _, h => by
    cases h with
    | tup h a => exact .tup (sqT_up s h) (dps_up s ds _ a)
  | .dict _, _, h => by cases h
theorem dps_up (s : Same H H') : ∀ (ds : List PyData) (vs : List V), DpAll K H vs ds → DpAll K H' vs ds
  | [], _, h => by cases h; exact .nil
  | d :: ds, _, h => by
    cases h with
    | cons a b => exact .cons (dp_up s d _ a) (dps_up s ds _ b)
end
/-- the name of a thing's type -/
def tyN : PyData → String
  | .none => "NoneType"
  | .bool _ => "bool"
  | .int _ => "int"
  | .str _ => "str"
  | .list _ => "list"
  | .tuple _ => "tuple"
  | .dict _ => "dict"
theorem dp_ty {v : V} {d : PyData} (h : Dp K H v d) : TyX K H v (.type (tyN d)) := by
  cases h with
  | non => exact .base .non
  | bl b => exact .base (.bl b)
  | int i => exact .base (.int i)
  | str z => exact .base (.str z)
  | lst h _ =>
    rcases h with (h | ⟨o, h⟩) | ⟨o, its, n, e, c, _⟩
    · exact .base (.lst h)
    · exact .base (.frz h)
    · exact .kList e c
  | tup h _ =>
    rcases h with (h | ⟨o, h⟩) | ⟨o, its, n, e, c, _⟩
    · exact .base (.tup h)
    · exact .fTuple h
    · exact .kTuple e c
def isI : PyData → Bool
  | .int _ | .bool _ => true
  | _ => false
def isB : PyData → Bool
  | .bool _ => true
  | _ => false
def isS : PyData → Bool
  | .str _ => true
  | _ => false
def isTu : PyData → Bool
  | .tuple _ => true
  | _ => false
theorem kit_i (d : PyData) : PySem.W.kitOne K (.type (tyN d)) (.type "int") = some (isI d) := by
  cases d with
  | none => exact kit_ty (show kitB "NoneType" "int" = some false by decide +kernel)
  | bool _ => exact kit_ty (show kitB "bool" "int" = some true by decide +kernel)
  | int _ => exact kit_ty (show kitB "int" "int" = some true by decide +kernel)
  | str _ => exact kit_ty (show kitB "str" "int" = some false by decide +kernel)
  | list _ => exact kit_ty (show kitB "list" "int" = some false by decide +kernel)
  | tuple _ => exact kit_ty (show kitB "tuple" "int" = some false by decide +kernel)
  | dict _ => exact kit_ty (show kitB "dict" "int" = some false by decide +kernel)
theorem kit_b (d : PyData) : PySem.W.kitOne K (.type (tyN d)) (.type "bool") = some (isB d) := by
  cases d with
  | none => exact kit_ty (show kitB "NoneType" "bool" = some false by decide +kernel)
  | bool _ => exact kit_ty (show kitB "bool" "bool" = some true by decide +kernel)
  | int _ => exact kit_ty (show kitB "int" "bool" = some false by decide +kernel)
  | str _ => exact kit_ty (show kitB "str" "bool" = some false by decide +kernel)
  | list _ => exact kit_ty (show kitB "list" "bool" = some false by decide +kernel)
  | tuple _ => exact kit_ty (show kitB "tuple" "bool" = some false by decide +kernel)
  | dict _ => exact kit_ty (show kitB "dict" "bool" = some false by decide +kernel)
theorem kit_s (d : PyData) : PySem.W.kitOne K (.type (tyN d)) (.type "str") = some (isS d) := by
  cases d with
  | none => exact kit_ty (show kitB "NoneType" "str" = some false by decide +kernel)
  | bool _ => exact kit_ty (show kitB "bool" "str" = some false by decide +kernel)
  | int _ => exact kit_ty (show kitB "int" "str" = some false by decide +kernel)
  | str _ => exact kit_ty (show kitB "str" "str" = some true by decide +kernel)
  | list _ => exact kit_ty (show kitB "list" "str" = some false by decide +kernel)
  | tuple _ => exact kit_ty (show kitB "tuple" "str" = some false by decide +kernel)
  | dict _ => exact kit_ty (show kitB "dict" "str" = some false by decide +kernel)
theorem kit_tu (d : PyData) : PySem.W.kitOne K (.type (tyN d)) (.type "tuple") = some (isTu d) := by
  cases d with
  | none => exact kit_ty (show kitB "NoneType" "tuple" = some false by decide +kernel)
  | bool _ => exact kit_ty (show kitB "bool" "tuple" = some false by decide +kernel)
  | int _ => exact kit_ty (show kitB "int" "tuple" = some false by decide +kernel)
  | str _ => exact kit_ty (show kitB "str" "tuple" = some false by decide +kernel)
  | list _ => exact kit_ty (show kitB "list" "tuple" = some false by decide +kernel)
  | tuple _ => exact kit_ty (show kitB "tuple" "tuple" = some true by decide +kernel)
  | dict _ => exact kit_ty (show kitB "dict" "tuple" = some false by decide +kernel)
theorem dps_len : ∀ {vs : List V} {ds : List PyData}, DpAll K H vs ds → vs.length = ds.length
  | _, _, .nil => rfl
  | _, _, .cons _ t => congrArg Nat.succ (dps_len t)
end
/-! ### in a tuple -/
section
variable {X : Cx}
def rInDT (K : PySem.W.Frag) : R2 := fun x y H Q => ∃ d ds, Dp K H x d ∧ Dp K H y (.tuple ds) ∧ SeqAt.shaped d = true ∧ SeqAt.shaped (.list ds) = true ∧ PyData.depthAll ds = 0 ∧ Q (.bl (ds.any fun z => PyData.eqv z d)) H
theorem op_inDT (hu : X.A.units + 64 < cLine) : OpR X (compareOp .In) (rInDT X.K) := by
  intro pins s σ H x y v u Q I rx ry h
  obtain ⟨d, ds, hd, he, sd, se, z0, q⟩ := h
  obtain ⟨as, r1⟩ := Dp.reads I d x v hd rx
  obtain ⟨bs, r2⟩ := Dp.reads I (.tuple ds) y u he ry
  exact SeqAt.in_tuple_reads r2 r1 (SeqAt.canLay_of_shaped se) (SeqAt.canLay_of_shaped sd) (by rw [z0, Nat.zero_min]; omega) ⟨.bl _, H, I, rfl, q⟩
def rNotInDT (K : PySem.W.Frag) : R2 := fun x y H Q => ∃ d ds, Dp K H x d ∧ Dp K H y (.tuple ds) ∧ SeqAt.shaped d = true ∧ SeqAt.shaped (.list ds) = true ∧ PyData.depthAll ds = 0 ∧ Q (.bl (!ds.any fun z => PyData.eqv z d)) H
theorem op_notInDT (hu : X.A.units + 64 < cLine) : OpR X (compareOp .NotIn) (rNotInDT X.K) := by
  intro pins s σ H x y v u Q I rx ry h
  obtain ⟨d, ds, hd, he, sd, se, z0, q⟩ := h
  obtain ⟨as, r1⟩ := Dp.reads I d x v hd rx
  obtain ⟨bs, r2⟩ := Dp.reads I (.tuple ds) y u he ry
  exact SeqAt.notIn_tuple_reads r2 r1 (SeqAt.canLay_of_shaped se) (SeqAt.canLay_of_shaped sd) (by rw [z0, Nat.zero_min]; omega) ⟨.bl _, H, I, rfl, q⟩
end
/-! ### kinds, worths -/
/-- a kind without from -/
def Tr.Kd : Tr → Prop
  | .n0 w => w = "none" ∨ w = "number"
  | .n2 w a b => (w = "pair" ∨ w = "either") ∧ a.Kd ∧ b.Kd
  | _ => False
/-- whether data is a worth of a kind -/
def isW : Tr → PyData → Bool
  | .n0 w, d => if w = "none" then (match d with | .none => true | _ => false) else (match d with | .int i => decide (0 ≤ i) && decide (i < 10 ^ 60) | _ => false)
  | .n2 w a b, .tuple [x, y] => if w = "pair" then isW a x && isW b y else (match x with | .str z => if z = "this" then isW a y else decide (z = "that") && isW b y | _ => false)
  | _, _ => false
def two : PyData → Bool
  | .tuple [_, _] => true
  | _ => false
theorem isW_two {w : Str} {a b : Tr} {d : PyData} (h : two d = false) : isW (.n2 w a b) d = false := by
  unfold two at h
  unfold isW
  split at h
  · cases h
  · rename_i n
    split
    · rename_i e
      cases e
    · rename_i x y e
      exact (n _ _ rfl).elim
    · rfl
theorem two_is {d : PyData} (h : two d = true) : ∃ x y, d = .tuple [x, y] := by
  unfold two at h
  split at h
  · exact ⟨_, _, rfl⟩
  · cases h
end Kf
set_option Elab.async false
set_option linter.all false
set_option maxRecDepth 100000
set_option maxHeartbeats 4000000
set_option pp.maxSteps 1200
/-! k24: is_whole, is_two, is_worth. -/
namespace Kf
open PySem PySem.Spec PyProof.Rows L2 Sx
abbrev sWhole : Stmt := top 2
abbrev sTwo : Stmt := top 4
abbrev sIsWorth : Stmt := top 5
theorem scWhole : FnScope ["thing"] ["thing"] (defScope sWhole) := ⟨rfl, rfl, rfl, by decide +kernel, rfl, by decide +kernel, by decide +kernel⟩
theorem scTwo : FnScope ["thing"] ["thing"] (defScope sTwo) := ⟨rfl, rfl, rfl, by decide +kernel, rfl, by decide +kernel, by decide +kernel⟩
abbrev worthN : List Str := ["kind", "thing", "todo", "piece", "part", "fits"]
theorem scIsWorth : FnScope worthN ["kind", "thing"] (defScope sIsWorth) := ⟨rfl, rfl, rfl, by decide +kernel, rfl, by decide +kernel, by decide +kernel⟩
def whole (d : PyData) : Bool := isI d && !isB d
theorem joinS {C G : L2.St → Hp → Prop} {M : Prop} (main : (∀ σ H, C σ H → G σ H) → M) (rest : ∀ σ H, C σ H → G σ H) : M := main rest
section
variable {P : Program} {w : World} {K : PySem.W.Frag} {mg : Str → Option Value} {base : Heap}
/-- the builtins' names aren't taken -/
structure Blt (mg : Str → Option Value) : Prop where
  zIs : mg "isinstance" = none
  zInt : mg "int" = none
  zBool : mg "bool" = none
  zStr : mg "str" = none
  zTuple : mg "tuple" = none
  zLen : mg "len" = none
def spWhole : Sp := fun vs H Q _ => ∃ (v : V) (d : PyData), vs = [v] ∧ (∃ K, Dp K H v d) ∧ Q (.bl (whole d)) H
theorem ok_whole {f : Addr} {fd : FuncData} {j : Nat} (F : Fun K "is_whole" "is_whole" sWhole f fd) (T : Blt mg) : FnOk P w K mg base CX0 (j + 1) f fd ["thing"] (fun vs H Q _ => ∃ (v : V) (d : PyData), vs = [v] ∧ Dp K H v d ∧ Q (.bl (whole d)) H) := by
  refine F.ok scWhole (fun vs H Q E h => ?_) (fun cdv A outer s H vs Q E hr h => ?_)
  · obtain ⟨v, d, rfl, _⟩ := h
    rfl
  obtain ⟨v, d, rfl, hd, q⟩ := h
  refine ⟨_, pss_one (ps_ret (pe_and (pe_callB call_isi (by rfl) T.zIs (by decide +kernel) (pa_cons (pv 0) (pa_cons (pe_bltn (v := .ty "int") (by rfl) T.zInt (by decide +kernel) rfl) pa_nil)))
    (pe_one (pe_not (pe_callB call_isi (by rfl) T.zIs (by decide +kernel) (pa_cons (pv 0) (pa_cons (pe_bltn (v := .ty "bool") (by rfl) T.zBool (by decide +kernel) rfl) pa_nil))))))), ?_⟩
  refine ⟨_, rfl, _, _, _, _, isI d, rfl, .ty "int", dp_ty hd, kit_i d, _, rfl, ?_⟩
  unfold whole at q
  cases hi : isI d with
  | false =>
    rw [hi] at q
    exact iteF q
  | true =>
    rw [hi] at q
    exact iteT ⟨_, rfl, _, _, _, _, isB d, rfl, .ty "bool", dp_ty hd, kit_b d, _, rfl, q⟩
def spTwo (K : PySem.W.Frag) : Sp := fun vs H Q _ => ∃ (v : V) (d : PyData), vs = [v] ∧ Dp K H v d ∧ Q (.bl (two d)) H
theorem ok_two {f : Addr} {fd : FuncData} {j : Nat} (F : Fun K "is_two" "is_two" sTwo f fd) (T : Blt mg) : FnOk P w K mg base CX0 (j + 1) f fd ["thing"] (spTwo K) := by
  refine F.ok scTwo (fun vs H Q E h => ?_) (fun cdv A outer s H vs Q E hr h => ?_)
  · obtain ⟨v, d, rfl, _⟩ := h
    rfl
  obtain ⟨v, d, rfl, hd, q⟩ := h
  refine ⟨_, pss_one (ps_ret (pe_and (pe_callB call_isi (by rfl) T.zIs (by decide +kernel) (pa_cons (pv 0) (pa_cons (pe_bltn (v := .ty "tuple") (by rfl) T.zTuple (by decide +kernel) rfl) pa_nil)))
    (pe_one (pe_cmpR op_eq (pe_callB call_len_seq (by rfl) T.zLen PySem.boot_len (pa_cons (pv 0) pa_nil)) pe_int (nomark _))))), ?_⟩
  refine ⟨_, rfl, _, _, _, _, isTu d, rfl, .ty "tuple", dp_ty hd, kit_tu d, _, rfl, ?_⟩
  cases d with
  | tuple ds =>
    refine iteT ?_
    cases hd with
    | @tup a xs _ hs ha =>
      have hl := dps_len ha
      refine ⟨_, rfl, a, xs, rfl, .inr hs, rfl, ?_⟩
      have e : decide (V.int ((xs.length : Nat) : Int) = V.int 2) = two (.tuple ds) := by
        rw [hl]
        match ds with
        | [] => rfl
        | [_] => rfl
        | [_, _] => rfl
        | _ :: _ :: _ :: r =>
          refine decide_eq_false (fun z => ?_)
          injection z with z
          simp only [List.length_cons] at z
          omega
      rw [e]
      exact q
  | _ => exact iteF q
end
end Kf
set_option Elab.async false
set_option linter.all false
set_option maxRecDepth 100000
set_option maxHeartbeats 8000000
set_option pp.maxSteps 1200
/-! k24: is_worth. -/
namespace Kf
open PySem PySem.Spec PyProof.Rows L2 Sx
section
variable {P : Program} {w : World} {K : PySem.W.Frag} {mg : Str → Option Value} {base : Heap}
theorem shaped_two {x y : PyData} (h : SeqAt.shaped (.tuple [x, y]) = true) : SeqAt.shaped x = true ∧ SeqAt.shaped y = true := by
  have h2 : ((x.canLay0 && (y.canLay0 && true)) && decide (max x.depth (max y.depth 0) + 1 ≤ 64)) = true := h
  rw [Bool.and_eq_true, Bool.and_eq_true, Bool.and_true, decide_eq_true_eq] at h2
  refine ⟨?_, ?_⟩
  · show (x.canLay0 && decide (x.depth ≤ 64)) = true
    rw [h2.1.1, decide_eq_true (show x.depth ≤ 64 by omega)]
    rfl
  · show (y.canLay0 && decide (y.depth ≤ 64)) = true
    rw [h2.1.2, decide_eq_true (show y.depth ≤ 64 by omega)]
    rfl
def RowW (K : PySem.W.Frag) (H0 H : Hp) (e : Tr × PyData) (v : V) : Prop := ∃ q x y, v = .ref q ∧ H q = some (.tup [x, y]) ∧ At H0 e.1 x ∧ Dp K H0 y e.2
theorem RowW.keep {H0 H H' : Hp} (k : Tups H H') (e : Tr × PyData) (v : V) (h : RowW K H0 H e v) : RowW K H0 H' e v := by
  obtain ⟨q, x, y, e1, e2, a, b⟩ := h
  exact ⟨q, x, y, e1, k _ _ e2, a, b⟩
def sumW (es : List (Tr × PyData)) : Nat := (es.map fun e => e.1.size).sum
theorem sumW_app (es fs : List (Tr × PyData)) : sumW (es ++ fs) = sumW es + sumW fs := by
  unfold sumW
  rw [List.map_append, List.sum_append]
structure TurnW (K : PySem.W.Frag) (H0 H : Hp) (T : Addr) (R : Bool) (m : Nat) (es : List (Tr × PyData)) (vt : List V) : Prop where
  sm : Same H0 H
  lt : H T = some (.lst vt)
  rt : All2 (RowW K H0 H) es vt
  ok : ∀ e ∈ es, e.1.Kd ∧ SeqAt.shaped e.2 = true
  res : es.all (fun e => isW e.1 e.2) = R
  few : sumW es ≤ 1000000
  m : m = sumW es
def spWorthQ (K : PySem.W.Frag) : Sp := fun vs H Q _ => ∃ (v1 v2 : V) (t : Tr) (d : PyData), vs = [v1, v2] ∧ At H t v1 ∧ t.Kd ∧ t.size ≤ 1000000 ∧ Dp K H v2 d ∧ SeqAt.shaped d = true ∧ ∀ H', Same H H' → Q (.bl (isW t d)) H'
theorem kd_ok : ∀ {t : Tr}, t.Kd → t.Ok
  | .leaf _ _, h => h.elim
  | .n0 w, h => by
    show leafy w = false
    rcases (show w = "none" ∨ w = "number" from h) with e | e <;> rw [e] <;> decide +kernel
  | .n1 _ _, h => h.elim
  | .n2 w a b, ⟨e, h, g⟩ => ⟨by rcases e with e | e <;> rw [e] <;> decide +kernel, kd_ok h, kd_ok g⟩
theorem all_snoc {α : Type} {f : α → Bool} {es : List α} {e : α} : (es ++ [e]).all f = (es.all f && f e) := by
  rw [List.all_append]
  simp
theorem size_pos : ∀ t : Tr, 1 ≤ t.size
  | .leaf _ _ => Nat.le_refl 1
  | .n0 _ => Nat.le_refl 1
  | .n1 _ _ => Nat.le_add_left 1 _
  | .n2 _ _ _ => Nat.le_add_left 1 _
structure Pend (K : PySem.W.Frag) (H0 X : Hp) (pt : Addr) (es : List (Tr × PyData)) (vt : List V) : Prop where
  sm : Same H0 X
  lt : X pt = some (.lst vt)
  rt : All2 (RowW K H0 X) es vt
theorem Pend.tup {H0 X : Hp} {pt : Addr} {es : List (Tr × PyData)} {vt : List V} (I : Pend K H0 X pt es vt) {q : Addr} {xs : List V} (nq : X q = none) : Pend K H0 (upd X q (.tup xs)) pt es vt := by
  refine ⟨same_put I.sm nq, ?_, I.rt.mono (RowW.keep (tups_same (same_new nq)))⟩
  rw [upd_ne (ne_of_none I.lt nq)]
  exact I.lt
theorem Pend.push {H0 X : Hp} {pt : Addr} {es : List (Tr × PyData)} {vt : List V} (I : Pend K H0 X pt es vt) (nf : H0 pt = none) {q : Addr} {x y : V} {t : Tr} {d : PyData} (hq : X q = some (.tup [x, y])) (a : At H0 t x) (e : Dp K H0 y d) :
    Pend K H0 (upd X pt (.lst (vt ++ [.ref q]))) pt (es ++ [(t, d)]) (vt ++ [.ref q]) := by
  have k : Tups X (upd X pt (.lst (vt ++ [.ref q]))) := tups_put fun xs z => by
    rw [I.lt] at z
    cases z
  refine ⟨fun b o h => ?_, upd_same, (I.rt.mono (RowW.keep k)).app (.one ⟨q, x, y, rfl, k _ _ hq, a, e⟩)⟩
  rw [upd_ne (ne_of_none h nf)]
  exact I.sm _ _ h
theorem same_wd {k : Str} {A B : Prop} (h : A) : if decide (V.str k = V.str k) = true then A else B := by
  rw [if_pos (decide_eq_true rfl)]
  exact h
theorem other_wd {k l : Str} {A B : Prop} (ne : k ≠ l) (h : B) : if decide (V.str k = V.str l) = true then A else B := by
  rw [if_neg fun z => ne (by have q := of_decide_eq_true z; injection q)]
  exact h
theorem sumW_len : ∀ es : List (Tr × PyData), es.length ≤ sumW es
  | [] => Nat.zero_le _
  | e :: es => by
    have h := sumW_len es
    have p := size_pos e.1
    show es.length + 1 ≤ e.1.size + sumW es
    omega
theorem head_at (x : V) (us : List V) : atI (x :: us) 0 = some x := atI_nat (j := 0) rfl
theorem isW_str {a b : Tr} {z : Str} {y : PyData} : isW (.n2 "either" a b) (.tuple [.str z, y]) = if z = "this" then isW a y else decide (z = "that") && isW b y := if_neg (by decide +kernel)
theorem isW_no {a b : Tr} {x y : PyData} (h : isS x = false) : isW (.n2 "either" a b) (.tuple [x, y]) = false := by
  cases x with
  | str z => cases h
  | _ => exact if_neg (by decide +kernel)
theorem ok_isworth {f gw gt : Addr} {fd dw dt : FuncData} {tk : Tok} (F : Fun K "is_worth" "is_worth" sIsWorth f fd) (B : Blt mg) (mT : mg "TOO_GREAT" = some (.int (10 ^ 60) tk))
    (W : FnOk P w K mg base CX0 1 gw dw ["thing"] (fun vs H Q _ => ∃ (v : V) (d : PyData), vs = [v] ∧ Dp K H v d ∧ Q (.bl (whole d)) H)) (bW : L2.Binds K dw ["thing"] []) (kW : PySem.W.keepIn K (.ref gw) = true) (mW : mg "is_whole" = some (.ref gw))
    (G : FnOk P w K mg base CX0 1 gt dt ["thing"] (spTwo K)) (bG : L2.Binds K dt ["thing"] []) (kG : PySem.W.keepIn K (.ref gt) = true) (mG : mg "is_two" = some (.ref gt)) : FnOk P w K mg base CX0 2 f fd ["kind", "thing"] (spWorthQ K) := by
  refine F.ok scIsWorth (fun vs H Q E h => ?_) (fun cdv A outer s H vs Q E hr h => ?_)
  · obtain ⟨v1, v2, t, d, rfl, _⟩ := h
    rfl
  obtain ⟨v1, v2, t, d, rfl, hA, hK, hz, hD, hS, q⟩ := h
  have h1 : Room 1 _ := hr.mono (by decide)
  have u1 : (A.deeper (envOfC "is_worth" (defScope sIsWorth) s.heap.objs.size f cdv)).units + 64 < cLine := by
    have := hr.units
    omega
  refine ⟨_, pss_cons (ps_set (i := 2) scIsWorth.nd rfl (.inl rfl) (pe_lst (pa_cons (pe_tup (pa_cons (pv 0) (pa_cons (pv 1) pa_nil))) pa_nil)))
    (pss_cons (ps_while PassesOwn.never (pt_truth (pv 2) (by intro _; rfl))
      (pss_cons (ps_asg (pe_bm0 PySem.F.plainAttrs_list PySem.F.slot_list_pop PySem.F.type_list_pop mt_pop (pv 2)) (pg_tup (by rfl) (pgs_cons (pg_name (i := 3) scIsWorth.nd rfl (.inl rfl)) (pgs_cons (pg_name (i := 4) scIsWorth.nd rfl (.inl rfl)) pgs_nil))))
      (pss_cons (ps_if (pt_cmpR op_eq (pe_ix ix_tup (pv 3) pe_int (fun _ _ => rfl)) pe_str (nomark _))
          (pss_one (ps_set (i := 5) scIsWorth.nd rfl (.inl rfl) (pe_cmpR op_isN (pv 4) pe_non (nomark _))))
        (pss_one (ps_if (pt_cmpR op_eq (pe_ix ix_tup (pv 3) pe_int (fun _ _ => rfl)) pe_str (nomark _))
          (pss_one (ps_set (i := 5) scIsWorth.nd rfl (.inl rfl) (pe_and (pe_call W h1 (by rfl) mW kW bW .nil pass0 (pa_cons (pv 4) pa_nil)) (pe_one (pe_chain op_le op_lt pe_int (pv 4) (pe_glob (v := .int (10 ^ 60)) (by rfl) mT ⟨_, rfl⟩))))))
        (pss_one (ps_if (pt_cmpR op_eq (pe_ix ix_tup (pv 3) pe_int (fun _ _ => rfl)) pe_str (nomark _))
          (pss_cons (ps_set (i := 5) scIsWorth.nd rfl (.inl rfl) (pe_call G h1 (by rfl) mG kG bG .nil pass0 (pa_cons (pv 4) pa_nil)))
          (pss_one (ps_if (pt_val (pv 5))
            (pss_cons (ps_expr (pe_bm PySem.F.plainAttrs_list PySem.F.slot_list_append PySem.F.type_list_append mt_append (pv 2) (pa_cons (pe_tup (pa_cons (pe_ix ix_tup (pv 3) pe_int (fun _ _ => rfl)) (pa_cons (pe_ix ix_tup (pv 4) pe_int (fun _ _ => rfl)) pa_nil))) pa_nil)))
            (pss_one (ps_expr (pe_bm PySem.F.plainAttrs_list PySem.F.slot_list_append PySem.F.type_list_append mt_append (pv 2) (pa_cons (pe_tup (pa_cons (pe_ix ix_tup (pv 3) pe_int (fun _ _ => rfl)) (pa_cons (pe_ix ix_tup (pv 4) pe_int (fun _ _ => rfl)) pa_nil))) pa_nil))))) pss_nil)))
          (pss_cons (ps_set (i := 5) scIsWorth.nd rfl (.inl rfl) (pe_and (pe_cmpR op_eq (pe_ix ix_tup (pv 3) pe_int (fun _ _ => rfl)) pe_str (nomark _)) (pe_and (pe_call G h1 (by rfl) mG kG bG .nil pass0 (pa_cons (pv 4) pa_nil))
            (pe_one (pe_cmpR (op_inDT u1) (pe_ix ix_tup (pv 4) pe_int (fun _ _ => rfl)) (pe_tup (pa_cons pe_str (pa_cons pe_str pa_nil))) (by rfl))))))
          (pss_one (ps_if (pt_val (pv 5))
            (pss_one (ps_expr (pe_bm PySem.F.plainAttrs_list PySem.F.slot_list_append PySem.F.type_list_append mt_append (pv 2) (pa_cons (pe_tup (pa_cons (pe_ix ix_tup (pv 3) (pe_ifExp (pt_cmpR op_eq (pe_ix ix_tup (pv 4) pe_int (fun _ _ => rfl)) pe_str (nomark _)) pe_int pe_int) (fun _ _ => rfl)) (pa_cons (pe_ix ix_tup (pv 4) pe_int (fun _ _ => rfl)) pa_nil))) pa_nil)))) pss_nil))))))))
      (pss_one (ps_if (pt_not (pt_val (pv 5))) (pss_one (ps_ret pe_bl)) pss_nil)))))
    (pss_one (ps_ret pe_bl))), ?_⟩
  refine ⟨_, rfl, _, rfl, (by show 2 ≤ sizeLine; decide), fun q0 nq => ?_⟩
  refine ⟨(by show 1 ≤ sizeLine; decide), fun pt nt => ?_⟩
  have s1 : Same H (upd H q0 (.tup [v1, v2])) := same_new nq
  have s2 := same_put (o := .lst [.ref q0]) s1 nt
  have fresh : H pt = none := s1.free nt
  have nqt : q0 ≠ pt := fun z => by
    rw [← z, upd_same] at nt
    cases nt
  refine ⟨fun m σ H' => ∃ (es : List (Tr × PyData)) (vt : List V) (y3 y4 y5 : Option V), σ = [some v1, some v2, some (.ref pt), y3, y4, y5] ∧ TurnW K H H' pt (isW t d) m es vt,
    ⟨_, [(t, d)], [.ref q0], none, none, none, rfl, ⟨s2, upd_same, .one ⟨q0, v1, v2, rfl, ?_, hA, hD⟩, fun e he => by rw [List.mem_singleton.mp he]; exact ⟨hK, hS⟩, (by show (isW t d && true) = isW t d; rw [Bool.and_true]), (by show t.size + 0 ≤ 1000000; omega), rfl⟩⟩, fun m σ H1 hI => ?_⟩
  · rw [upd_ne nqt, upd_same]
  obtain ⟨es, vt, y3, y4, y5, rfl, W0⟩ := hI
  refine ⟨_, rfl, !vt.isEmpty, .inl ⟨vt, .inl (.inl W0.lt), rfl⟩, ?_⟩
  rcases List.eq_nil_or_concat vt with en | ⟨vt0, y, en⟩
  · subst en
    refine iteF ?_
    have ee : es = [] := List.length_eq_zero_iff.mp W0.rt.len
    subst ee
    have r := q H1 W0.sm
    rw [← W0.res] at r
    exact r
  · rw [List.concat_eq_append] at en
    subst en
    rw [show (!(vt0 ++ [y]).isEmpty) = true by simp]
    refine iteT ?_
    obtain ⟨es1, ⟨t1, d1⟩, rfl, rt0, ⟨q1, x1, z1, rfl, hq1, a1, dp1⟩⟩ := W0.rt.last
    obtain ⟨kd1, sh1⟩ := W0.ok (t1, d1) (List.mem_append.mpr (.inr (List.mem_singleton.mpr rfl)))
    have res := W0.res
    rw [all_snoc] at res
    have few := W0.few
    rw [sumW_app, show sumW [(t1, d1)] = t1.size by unfold sumW; simp] at few
    have em := W0.m
    rw [sumW_app, show sumW [(t1, d1)] = t1.size by unfold sumW; simp] at em
    have sp := size_pos t1
    refine ⟨fun σ' H' => ∃ m', m' < m ∧ ∃ (es : List (Tr × PyData)) (vt : List V) (y3 y4 y5 : Option V), σ' = [some v1, some v2, some (.ref pt), y3, y4, y5] ∧ TurnW K H H' pt (isW t d) m' es vt,
      fun σ' H' h => h, ?_⟩
    refine ⟨_, rfl, .inl ⟨rfl, _, .inl (.inl W0.lt)⟩, pt, _, .ref q1, rfl, rfl, W0.lt, by simp, ?_⟩
    rw [List.dropLast_concat]
    have k2 : Tups H1 (upd H1 pt (.lst vt0)) := tups_put fun xs z => by
      rw [W0.lt] at z
      cases z
    have S2 : Same H (upd H1 pt (.lst vt0)) := fun a o e => by
      rw [upd_ne (ne_of_none e fresh)]
      exact W0.sm _ _ e
    have lt2 : (upd H1 pt (.lst vt0)) pt = some (.lst vt0) := upd_same
    have hq2 := k2 _ _ hq1
    have rt2 := rt0.mono (RowW.keep k2)
    have okr : ∀ e ∈ es1, e.1.Kd ∧ SeqAt.shaped e.2 = true := fun e he => W0.ok e (List.mem_append.mpr (.inl he))
    generalize upd H1 pt (.lst vt0) = H2 at k2 S2 lt2 hq2 rt2
    refine ⟨q1, [x1, z1], rfl, .inl (.inl hq2), rfl, x1, _, rfl, z1, [], rfl, rfl, ?_⟩
    have a2 : At H2 t1 x1 := a1.keep (tups_same S2)
    have dp2 := dp_up S2 _ _ dp1
    apply joinS (C := fun σ X => ∃ (b : Bool), σ = [some v1, some v2, some (.ref pt), some x1, some z1, some (.bl b)] ∧ Same H X ∧ (b = false → isW t d = false) ∧
      (b = true → ∃ es vt, TurnW K H X pt (isW t d) (sumW es) es vt ∧ sumW es < m))
    · intro rest
      have bnd : vt0.length + 2 ≤ sizeLine := by
        have l1 := rt2.len
        have l2 := sumW_len es1
        exact Nat.le_trans (m := 1000002) (by omega) (by decide)
      have pend : Pend K H H2 pt es1 vt0 := ⟨S2, lt2, rt2⟩
      -- no row more
      have fin0 : ∀ b : Bool, isW t1 d1 = b → (∀ X', X' = H2 → True) → ∃ C : Prop, C := fun _ _ _ => ⟨True, trivial⟩
      have C0 : ∀ b : Bool, isW t1 d1 = b → Same H H2 ∧ (b = false → isW t d = false) ∧ (b = true → ∃ es vt, TurnW K H H2 pt (isW t d) (sumW es) es vt ∧ sumW es < m) := fun b e => by
        refine ⟨S2, fun z => ?_, fun z => ⟨es1, vt0, ⟨S2, lt2, rt2, okr, ?_, by omega, rfl⟩, by omega⟩⟩
        · rw [e, z, Bool.and_false] at res
          exact res.symm
        · rw [e, z, Bool.and_true] at res
          exact res
      cases t1 with
      | leaf _ _ => exact kd1.elim
      | n1 _ _ => exact kd1.elim
      | n0 w0 =>
        obtain ⟨p, rfl, hp⟩ := a2
        refine ⟨_, rfl, p, _, 0, _, rfl, rfl, .inl (.inl hp), head_at _ _, rfl, _, rfl, ?_⟩
        rcases (show w0 = "none" ∨ w0 = "number" from kd1) with e | e
        · subst e
          refine same_wd ⟨_, rfl, rfl, ?_⟩
          refine rest _ _ ⟨_, rfl, C0 _ ?_⟩
          show isW (.n0 "none") d1 = decide (z1 = V.non)
          cases dp1 with
          | non => rfl
          | _ => exact (decide_eq_false (fun z => by cases z)).symm
        · subst e
          refine other_wd (by decide +kernel) ⟨_, rfl, p, _, 0, _, rfl, rfl, .inl (.inl hp), head_at _ _, rfl, _, rfl, ?_⟩
          refine same_wd ⟨_, rfl, z1, d1, rfl, dp2, _, rfl, ?_⟩
          cases dp1 with
          | int i =>
            refine iteT ⟨_, rfl, _, _, rfl, rfl, _, rfl, ?_⟩
            refine ite2 (fun c => ?_) (fun c => ?_)
            · refine ⟨_, _, rfl, rfl, ?_⟩
              refine rest _ _ ⟨_, rfl, C0 _ ?_⟩
              show (decide (0 ≤ i) && decide (i < 10 ^ 60)) = _
              rw [c]
              rfl
            · refine rest _ _ ⟨_, rfl, C0 _ ?_⟩
              show (decide (0 ≤ i) && decide (i < 10 ^ 60)) = _
              rw [Bool.eq_false_iff.mpr c]
              rfl
          | _ => exact iteF (rest _ _ ⟨_, rfl, C0 _ rfl⟩)
      | n2 w0 ta tb =>
        obtain ⟨ew, ka, kb⟩ := kd1
        obtain ⟨p, xa, xb, rfl, hp, _, _⟩ := a2
        obtain ⟨p', ya, yb, ep, hp', aa, ab⟩ := a1
        cases ep
        have eab : xa = ya ∧ xb = yb := by
          have z := S2 _ _ hp'
          rw [hp] at z
          injection z with z
          injection z with z
          injection z with _ z
          injection z with z1 z
          injection z with z2 _
          exact ⟨z1, z2⟩
        obtain ⟨rfl, rfl⟩ := eab
        have n1 : w0 ≠ "none" := by rcases ew with e | e <;> rw [e] <;> decide +kernel
        have n2 : w0 ≠ "number" := by rcases ew with e | e <;> rw [e] <;> decide +kernel
        refine ⟨_, rfl, p, _, 0, _, rfl, rfl, .inl (.inl hp), head_at _ _, rfl, _, rfl, ?_⟩
        refine other_wd n1 ⟨_, rfl, p, _, 0, _, rfl, rfl, .inl (.inl hp), head_at _ _, rfl, _, rfl, ?_⟩
        refine other_wd n2 ⟨_, rfl, p, _, 0, _, rfl, rfl, .inl (.inl hp), head_at _ _, rfl, _, rfl, ?_⟩
        rcases ew with e | e
        · subst e
          refine same_wd ⟨_, rfl, z1, d1, rfl, dp2, ?_⟩
          refine ⟨_, rfl, _, rfl, ?_⟩
          cases h2 : two d1 with
          | false => exact iteF (rest _ _ ⟨_, rfl, C0 _ (isW_two h2)⟩)
          | true =>
            obtain ⟨dx, dy, rfl⟩ := two_is h2
            obtain ⟨sx, sy⟩ := shaped_two sh1
            cases dp1 with
            | @tup a _ _ hs ha =>
            cases ha with
            | @cons vx _ _ _ hx hr =>
            cases hr with
            | @cons vy _ _ _ hy hn =>
            cases hn
            have hdy : Dp K H vy dy := hy
            have hs2 := sqT_up S2 hs
            refine iteT ?_
            refine ⟨_, rfl, .inl ⟨rfl, _, .inl (.inl lt2)⟩, _, rfl, p, _, 2, _, rfl, rfl, .inl (.inl hp), atI_nat (j := 2) rfl, _, rfl, a, _, 1, _, rfl, rfl, hs2, atI_nat (j := 1) rfl, (by show 2 ≤ sizeLine; decide), fun q3 nq3 => ?_⟩
            have I1 := pend.tup (xs := [xb, vy]) nq3
            refine ⟨pt, vt0, .ref q3, rfl, rfl, I1.lt, Nat.lt_of_lt_of_le (by omega) bnd, ?_⟩
            have I2 := I1.push fresh upd_same ab hdy
            generalize upd (upd H2 q3 (.tup [xb, vy])) pt (.lst (vt0 ++ [.ref q3])) = X2 at I2
            refine ⟨_, rfl, .inl ⟨rfl, _, .inl (.inl I2.lt)⟩, _, rfl, p, _, 1, _, rfl, rfl, .inl (.inl (I2.sm _ _ hp')), atI_nat (j := 1) rfl, _, rfl, a, _, 0, _, rfl, rfl, sqT_up I2.sm hs, head_at _ _, (by show 2 ≤ sizeLine; decide), fun q4 nq4 => ?_⟩
            have I3 := I2.tup (xs := [xa, vx]) nq4
            refine ⟨pt, _, .ref q4, rfl, rfl, I3.lt, Nat.lt_of_lt_of_le (by rw [List.length_append, List.length_singleton]; omega) bnd, ?_⟩
            have I4 := I3.push fresh upd_same aa hx
            refine rest _ _ ⟨true, rfl, I4.sm, (fun z => by cases z), fun _ => ⟨_, _, ⟨I4.sm, I4.lt, I4.rt, fun e he => ?_, ?_, ?_, rfl⟩, ?_⟩⟩
            · rcases List.mem_append.mp he with he | he
              · rcases List.mem_append.mp he with he | he
                · exact okr e he
                · rw [List.mem_singleton.mp he]
                  exact ⟨kb, sy⟩
              · rw [List.mem_singleton.mp he]
                exact ⟨ka, sx⟩
            · rw [all_snoc, all_snoc]
              have e1 : isW (.n2 "pair" ta tb) (.tuple [dx, dy]) = (isW ta dx && isW tb dy) := if_pos rfl
              have res2 := res
              show (((es1.all fun e => isW e.1 e.2) && isW tb dy) && isW ta dx) = _
              rw [← res2]
              show _ = ((es1.all fun e => isW e.1 e.2) && isW (.n2 "pair" ta tb) (.tuple [dx, dy]))
              rw [e1, Bool.and_assoc, Bool.and_comm (isW tb dy)]
            · rw [sumW_app, sumW_app, show sumW [(tb, dy)] = tb.size by unfold sumW; simp, show sumW [(ta, dx)] = ta.size by unfold sumW; simp]
              have z : (Tr.n2 "pair" ta tb).size = ta.size + tb.size + 1 := rfl
              omega
            · rw [sumW_app, sumW_app, show sumW [(tb, dy)] = tb.size by unfold sumW; simp, show sumW [(ta, dx)] = ta.size by unfold sumW; simp]
              have z : (Tr.n2 "pair" ta tb).size = ta.size + tb.size + 1 := rfl
              omega
        · subst e
          refine other_wd (by decide +kernel) ⟨_, rfl, p, _, 0, _, rfl, rfl, .inl (.inl hp), head_at _ _, rfl, _, rfl, ?_⟩
          refine same_wd ⟨_, rfl, z1, d1, rfl, dp2, _, rfl, ?_⟩
          cases h2 : two d1 with
          | false => exact iteF ⟨_, rfl, _, rfl, iteF (rest _ _ ⟨_, rfl, C0 _ (isW_two h2)⟩)⟩
          | true =>
            obtain ⟨dx, dy, rfl⟩ := two_is h2
            obtain ⟨sx, sy⟩ := shaped_two sh1
            cases dp1 with
            | @tup a _ _ hs ha =>
            cases ha with
            | @cons vx _ _ _ hx hr =>
            cases hr with
            | @cons vy _ _ _ hy hn =>
            cases hn
            have hdy : Dp K H vy dy := hy
            have hs2 := sqT_up S2 hs
            refine iteT ⟨_, rfl, a, _, 0, _, rfl, rfl, hs2, head_at _ _, (by show 2 ≤ sizeLine; decide), fun q3 nq3 => ?_⟩
            have I1 := pend.tup (xs := [.str "this", .str "that"]) nq3
            have S1 := I1.sm
            refine ⟨dx, [.str "this", .str "that"], dp_up S1 _ _ hx, .tup (.inl (.inl upd_same)) (.cons (.str _) (.cons (.str _) .nil)), sx, by decide +kernel, rfl, ?_⟩
            refine ⟨_, rfl, _, rfl, ?_⟩
            have pushed : ∀ (b : Bool) (X : Hp) (tk : Tr) (xk : V), Pend K H X pt es1 vt0 → At H tk xk → tk.Kd → tk.size < (Tr.n2 "either" ta tb).size → isW (.n2 "either" ta tb) (.tuple [dx, dy]) = isW tk dy → ∀ q4, X q4 = none →
                ∃ es vt, TurnW K H (upd (upd X q4 (.tup [xk, vy])) pt (.lst (vt0 ++ [.ref q4]))) pt (isW t d) (sumW es) es vt ∧ sumW es < m := fun b X tk xk I atk kdk szk ek q4 nq4 => by
              have I3 := I.tup (xs := [xk, vy]) nq4
              have I4 := I3.push fresh upd_same atk hdy
              refine ⟨_, _, ⟨I4.sm, I4.lt, I4.rt, fun e he => ?_, ?_, ?_, rfl⟩, ?_⟩
              · rcases List.mem_append.mp he with he | he
                · exact okr e he
                · rw [List.mem_singleton.mp he]
                  exact ⟨kdk, sy⟩
              · rw [all_snoc]
                show ((es1.all fun e => isW e.1 e.2) && isW tk dy) = _
                rw [← ek]
                exact res
              · rw [sumW_app, show sumW [(tk, dy)] = tk.size by unfold sumW; simp]
                omega
              · rw [sumW_app, show sumW [(tk, dy)] = tk.size by unfold sumW; simp]
                omega
            have same_ : ∀ q4 xk, (upd H2 q3 (.tup [.str "this", .str "that"])) q4 = none → Same H (upd (upd (upd H2 q3 (.tup [.str "this", .str "that"])) q4 (.tup [xk, vy])) pt (.lst (vt0 ++ [.ref q4]))) := fun q4 xk nq4 b o e => by
              rw [upd_ne (ne_of_none e fresh)]
              exact same_put S1 nq4 _ _ e
            cases dx with
            | str z =>
              show if (PyData.eqv (.str "this") (.str z) || (PyData.eqv (.str "that") (.str z) || false)) = true then _ else _
              cases hx
              have hp3 := S1 _ _ hp'
              have hs3 := sqT_up S1 hs
              by_cases z1 : z = "this"
              · subst z1
                rw [show (PyData.eqv (.str "this") (.str "this") || (PyData.eqv (.str "that") (.str "this") || false)) = true by decide +kernel]
                refine iteT ⟨_, rfl, .inl ⟨rfl, _, .inl (.inl I1.lt)⟩, _, rfl, _, rfl, a, _, 0, _, rfl, rfl, hs3, head_at _ _, rfl, _, rfl, ?_⟩
                refine same_wd ⟨p, _, 1, _, rfl, rfl, .inl (.inl hp3), atI_nat (j := 1) rfl, _, rfl, a, _, 1, _, rfl, rfl, hs3, atI_nat (j := 1) rfl, (by show 2 ≤ sizeLine; decide), fun q4 nq4 => ?_⟩
                refine ⟨pt, vt0, .ref q4, rfl, rfl, (I1.tup nq4).lt, Nat.lt_of_lt_of_le (by omega) bnd, ?_⟩
                refine rest _ _ ⟨true, rfl, same_ q4 xa nq4, (fun z => by cases z), fun _ => pushed true _ ta xa I1 aa ka (by show ta.size < ta.size + tb.size + 1; omega) ?_ q4 nq4⟩
                rw [isW_str, if_pos rfl]
              · by_cases z2 : z = "that"
                · subst z2
                  rw [show (PyData.eqv (.str "this") (.str "that") || (PyData.eqv (.str "that") (.str "that") || false)) = true by decide +kernel]
                  refine iteT ⟨_, rfl, .inl ⟨rfl, _, .inl (.inl I1.lt)⟩, _, rfl, _, rfl, a, _, 0, _, rfl, rfl, hs3, head_at _ _, rfl, _, rfl, ?_⟩
                  refine other_wd z1 ⟨p, _, 2, _, rfl, rfl, .inl (.inl hp3), atI_nat (j := 2) rfl, _, rfl, a, _, 1, _, rfl, rfl, hs3, atI_nat (j := 1) rfl, (by show 2 ≤ sizeLine; decide), fun q4 nq4 => ?_⟩
                  refine ⟨pt, vt0, .ref q4, rfl, rfl, (I1.tup nq4).lt, Nat.lt_of_lt_of_le (by omega) bnd, ?_⟩
                  refine rest _ _ ⟨true, rfl, same_ q4 xb nq4, (fun z => by cases z), fun _ => pushed true _ tb xb I1 ab kb (by show tb.size < ta.size + tb.size + 1; omega) ?_ q4 nq4⟩
                  rw [isW_str, if_neg z1, decide_eq_true rfl, Bool.true_and]
                · have e1 : (Str.ofString "this" == z) = false := beq_eq_false_iff_ne.mpr (fun e => z1 e.symm)
                  have e2 : (Str.ofString "that" == z) = false := beq_eq_false_iff_ne.mpr (fun e => z2 e.symm)
                  show if ((Str.ofString "this" == z) || ((Str.ofString "that" == z) || false)) = true then _ else _
                  rw [e1, e2]
                  refine iteF (rest _ _ ⟨_, rfl, I1.sm, (fun _ => ?_), fun z => ?_⟩)
                  · have r2 := res
                    rw [show isW (.n2 "either" ta tb) (.tuple [.str z, dy]) = false by rw [isW_str, if_neg z1, decide_eq_false z2, Bool.false_and], Bool.and_false] at r2
                    exact r2.symm
                  · have z : ((Str.ofString "this" == _) || ((Str.ofString "that" == _) || false)) = true := z
                    rw [e1, e2] at z
                    cases z
            | _ => exact iteF (rest _ _ ⟨_, rfl, I1.sm, (fun _ => by have r2 := res; rw [isW_no rfl, Bool.and_false] at r2; exact r2.symm), fun z => by cases z⟩)
    · rintro σ X ⟨b, rfl, SX, no, yes⟩
      refine ⟨_, rfl, _, rfl, ?_⟩
      cases b with
      | false =>
        refine iteT ?_
        have r := q X SX
        rw [no rfl] at r
        exact r
      | true =>
        refine iteF ?_
        obtain ⟨es', vt', T, lt'⟩ := yes rfl
        exact ⟨_, lt', es', vt', _, _, _, rfl, T⟩
end
end Kf
set_option Elab.async false
set_option linter.all false
set_option maxRecDepth 100000
set_option maxHeartbeats 8000000
set_option pp.maxSteps 1200
/-! k24: the law's pick, its kinds, its own look. -/
namespace Kf
open PySem PySem.Spec PyProof.Rows L2 Sx
abbrev sKind : Stmt := top 9
abbrev sDue : Stmt := top 11
abbrev kindN : List Str := ["dice", "deep", "whole", "way", "one", "other", "none", "some"]
theorem scKind : FnScope kindN ["dice", "deep", "whole"] (defScope sKind) := ⟨rfl, rfl, rfl, by decide +kernel, rfl, by decide +kernel, by decide +kernel⟩
theorem scDue : FnScope ["kind", "thing"] ["kind", "thing"] (defScope sDue) := ⟨rfl, rfl, rfl, by decide +kernel, rfl, by decide +kernel, by decide +kernel⟩
section
variable {P : Program} {w : World} {K : PySem.W.Frag} {mg : Str → Option Value} {base : Heap}
def spPick (K : PySem.W.Frag) : Sp := fun vs H Q _ => ∃ (p l L : Addr) (xs : List V) (m : Int), vs = [.ref p, .ref l] ∧ SqL K H l xs ∧ l ≠ p ∧ 0 < xs.length ∧ xs.length ≤ 1000 ∧ m < 2 ^ 50 ∧ DiceAt H p L m ∧
  ∀ x ∈ xs, ∀ H', But p H H' → DiceAt H' p L (m + 1) → Q x H'
theorem seq_but {p l : Addr} {H H' : Hp} {xs : List V} (n : l ≠ p) (b : But p H H') (h : SqL K H l xs) : SqL K H' l xs := by
  rcases h with (h | ⟨o, h⟩) | h
  · exact .inl (.inl (b _ _ n h))
  · exact .inl (.inr ⟨o, b _ _ n h⟩)
  · exact .inr h
theorem ok_pick {f g : Addr} {fd gd : FuncData} {j : Nat} (F : Fun K "_law_pick" "_law_pick" sPick f fd) (G : FnOk P w K mg base CX0 (j + 1) g gd ["dice", "size"] spRoll) (bG : Binds K gd ["dice", "size"] []) (kG : PySem.W.keepIn K (.ref g) = true) (mG : mg "_law_roll" = some (.ref g)) (ml : mg "len" = none) :
    FnOk P w K mg base CX0 (j + 2) f fd ["dice", "some"] (spPick K) := by
  refine F.ok scPick (fun vs H Q E h => ?_) (fun cdv A outer s H vs Q E hr h => ?_)
  · obtain ⟨p, l, L, xs, m, rfl, _⟩ := h
    rfl
  obtain ⟨p, l, L, xs, m, rfl, hs, nl, l0, l1, mm, hD, q⟩ := h
  refine ⟨_, pss_one (ps_ret (pe_ix ix_list (pv 1) (pe_call G hr (by rfl) mG kG bG .nil pass0 (pa_cons (pv 0) (pa_cons (pe_callB call_len_seq (by rfl) ml PySem.boot_len (pa_cons (pv 1) pa_nil)) pa_nil))) (fun _ _ => rfl))), ?_⟩
  refine ⟨_, rfl, _, rfl, _, rfl, l, xs, rfl, .inl hs, p, L, ((xs.length : Nat) : Int), m, rfl, by omega, Nat.lt_of_le_of_lt (by rw [Int.natAbs_natCast]; exact l1) (by decide), mm, hD, fun r H' r0 r1 b hD' => ?_⟩
  obtain ⟨x, mem, e⟩ := atI_in r0 r1
  exact ⟨l, xs, r, x, rfl, rfl, seq_but nl b hs, e, q x mem H' b hD'⟩
/-! ### the dice, with all that the draws want -/
structure Draw (P : Program) (w : World) (K : PySem.W.Frag) (mg : Str → Option Value) (base : Heap) (fr fp : Addr) (dr dp : FuncData) : Prop where
  R : FnOk P w K mg base CX0 1 fr dr ["dice", "size"] spRoll
  bR : Binds K dr ["dice", "size"] []
  kR : PySem.W.keepIn K (.ref fr) = true
  mR : mg "_law_roll" = some (.ref fr)
  Pk : FnOk P w K mg base CX0 2 fp dp ["dice", "some"] (spPick K)
  bP : Binds K dp ["dice", "some"] []
  kP : PySem.W.keepIn K (.ref fp) = true
  mP : mg "_law_pick" = some (.ref fp)
theorem no_calls {f : Addr} {fd : FuncData} {k : Nat} {ps : List Str} {sp : Sp} (no : ∀ vs H Q E, ¬ sp vs H Q E) : FnOk P w K mg base CX0 k f fd ps sp :=
  ⟨fun vs H Q E h => absurd h (no vs H Q E), fun A outer s H args us vs Q E _ _ _ _ h => absurd h (no vs H Q E)⟩
theorem Int.one_le_two_pow_ : ∀ d : Nat, (1 : Int) ≤ 2 ^ d
  | 0 => by decide
  | d + 1 => by
    rw [Int.pow_succ]
    have := Int.one_le_two_pow_ d
    omega
theorem join {C G : Hp → Prop} {M : Prop} (main : (∀ H, C H → G H) → M) (rest : ∀ H, C H → G H) : M := main rest
theorem deep_pos : ∀ t : Tr, 1 ≤ t.deep
  | .leaf _ _ => Nat.le_refl _
  | .n0 _ => Nat.le_refl _
  | .n1 _ _ => Nat.le_add_left _ _
  | .n2 _ _ _ => Nat.le_add_left _ _
/-- what a kind so deep may cost -/
def ck (d : Nat) : Int := 4 * 2 ^ d - 2
def OutK (p L : Addr) (H : Hp) (d : Nat) (m : Int) (Q : VK) : Prop := ∀ t v H', t.Kd → t.deep ≤ d → At H' t v → But p H H' → DiceAt H' p L m → Q v H'
def spKind (n : Nat) : Sp := fun vs H Q _ => ∃ (p L : Addr) (d : Nat) (m : Int), vs = [.ref p, .int (d : Int), .bl false] ∧ d + 1 ≤ n ∧ m + ck d < 2 ^ 50 ∧ DiceAt H p L m ∧ OutK p L H (d + 1) (m + ck d) Q
theorem ok_kind {f fr fp : Addr} {fd dr dp : FuncData} {n : Nat} (F : Fun K "_law_kind" "_law_kind" sKind f fd) (D : Draw P w K mg base fr fp dr dp) (S : FnOk P w K mg base CX0 (2 + n) f fd ["dice", "deep", "whole"] (spKind n)) (bS : Binds K fd ["dice", "deep", "whole"] []) (mS : mg "_law_kind" = some (.ref f)) :
    FnOk P w K mg base CX0 (2 + n + 1) f fd ["dice", "deep", "whole"] (spKind (n + 1)) := by
  refine F.ok scKind (fun vs H Q E h => ?_) (fun cdv A outer s H vs Q E hr h => ?_)
  · obtain ⟨p, L, d, m, rfl, _⟩ := h
    rfl
  obtain ⟨p, L, d, m, rfl, dn, mc, hD, q⟩ := h
  have h1 : Room 1 _ := hr.mono (by omega)
  have h2 : Room 2 _ := hr.mono (by omega)
  refine ⟨_, pss_cons (ps_set (i := 3) scKind.nd rfl (.inl rfl) (pe_call D.R h1 (by rfl) D.mR D.kR D.bR .nil pass0 (pa_cons (pv 0) (pa_cons pe_int pa_nil))))
    (pss_cons (ps_if (PW.pt (pw_or (pt_cmpR op_eq (pv 1) pe_int (nomark _)) (pw_or1 (pt_cmpR op_lt (pv 3) pe_int (nomark _))))) (pss_one (ps_ret (pe_tup (pa_cons pe_str pa_nil)))) pss_nil)
    (pss_cons (ps_set (i := 4) scKind.nd rfl (.inl rfl) (pe_call S hr (by rfl) mS F.kp bS .nil pass0 (pa_cons (pv 0) (pa_cons (pe_op op_sub (pv 1) pe_int) (pa_cons (pv 2) pa_nil)))))
    (pss_cons (ps_set (i := 5) scKind.nd rfl (.inl rfl) (pe_call S hr (by rfl) mS F.kp bS .nil pass0 (pa_cons (pv 0) (pa_cons (pe_op op_sub (pv 1) pe_int) (pa_cons (pv 2) pa_nil)))))
    (pss_cons (ps_if (PW.pt (pw_and (pt_cmpR op_eq (pv 3) pe_int (nomark _)) (pw_and1 (pt_val (pv 2))))) (pss_one (ps_ret (pe_tup (pa_cons pe_str (pa_cons (pv 4) (pa_cons (pv 5) pa_nil)))))) pss_nil)
    (pss_cons (ps_if (pt_cmpR op_lt (pv 3) pe_int (nomark _)) (pss_one (ps_ret (pe_tup (pa_cons pe_str (pa_cons (pv 4) (pa_cons (pv 5) pa_nil)))))) pss_nil)
    (pss_cons (ps_set (i := 6) scKind.nd rfl (.inl rfl) (pe_tup (pa_cons pe_str pa_nil)))
    (pss_cons (ps_set (i := 7) scKind.nd rfl (.inl rfl) (pe_lst (pa_cons (pe_tup (pa_cons pe_str (pa_cons (pv 4) (pa_cons (pv 5) pa_nil)))) (pa_cons (pe_tup (pa_cons pe_str (pa_cons (pv 6) (pa_cons (pv 5) pa_nil)))) (pa_cons (pe_tup (pa_cons pe_str (pa_cons (pv 4) (pa_cons (pv 6) pa_nil)))) (pa_cons (pe_tup (pa_cons pe_str (pa_cons (pv 6) (pa_cons (pv 6) pa_nil)))) pa_nil))))))
    (pss_one (ps_ret (pe_call D.Pk h2 (by rfl) D.mP D.kP D.bP .nil pass0 (pa_cons (pv 0) (pa_cons (pv 7) pa_nil)))))))))))), ?_⟩
  have c0 : ∀ d : Nat, 2 ≤ ck d := fun d => by
    have z : (1 : Int) ≤ 2 ^ d := Int.one_le_two_pow_ d
    unfold ck
    omega
  have cS : ∀ d : Nat, ck (d + 1) = 1 + ck d + ck d + 1 := fun d => by
    unfold ck
    rw [Int.pow_succ]
    omega
  have cd := c0 d
  refine ⟨_, rfl, p, L, 8, m, rfl, by decide, by decide, by omega, hD, fun way H1 w0 w8 b1 hD1 => ?_⟩
  have leaf : ∀ t, H1 t = none → Q (.ref t) (upd H1 t (.tup [.str "number"])) := fun t nt =>
    q (.n0 "number") _ _ (.inr rfl) (by show 1 ≤ d + 1; omega) ⟨t, rfl, upd_same⟩ (b1.new nt) ((hD1.same (same_new nt)).more (by omega))
  refine ⟨_, rfl, rfl, _, rfl, ?_⟩
  refine ite2 (fun c => ?_) (fun c => ?_)
  · exact iteT ⟨(by show 1 ≤ sizeLine; decide), leaf⟩
  refine ⟨_, rfl, _, _, rfl, rfl, _, rfl, ?_⟩
  refine ite2 (fun c2 => ?_) (fun c2 => ?_)
  · exact ⟨(by show 1 ≤ sizeLine; decide), leaf⟩
  obtain ⟨e, rfl⟩ : ∃ e, d = e + 1 := by
    cases d with
    | zero => exact (c (decide_eq_true rfl)).elim
    | succ e => exact ⟨e, rfl⟩
  have ce := c0 e
  have cs := cS e
  have down : (((e + 1 : Nat) : Int) - 1) = (e : Int) := by omega
  refine ⟨_, rfl, _, rfl, _, _, rfl, rfl, _, rfl, p, L, e, m + 1, by show [V.ref p, V.int (((e + 1 : Nat) : Int) - 1), V.bl false] = _; rw [down], by omega, by omega, hD1, fun t1 v1 H2 k1 d1 a1 b2 hD2 => ?_⟩
  refine ⟨_, rfl, _, rfl, _, _, rfl, rfl, _, rfl, p, L, e, m + 1 + ck e, by show [V.ref p, V.int (((e + 1 : Nat) : Int) - 1), V.bl false] = _; rw [down], by omega, by omega, hD2, fun t2 v2 H3 k2 d2 a2 b3 hD3 => ?_⟩
  have A1 : At H3 t1 v1 := a1.keep (hD2.tups b3)
  have bb : But p H H3 := (b1.trans b2).trans b3
  apply join (C := fun X => X = H3)
  · intro rest
    refine ⟨_, rfl, rfl, _, rfl, ?_⟩
    exact ite2 (fun _ => ⟨_, rfl, _, rfl, iteF (rest _ rfl)⟩) (fun _ => iteF (rest _ rfl))
  · rintro X rfl
    refine ⟨_, rfl, _, _, rfl, rfl, _, rfl, ?_⟩
    refine ite2 (fun c4 => ?_) (fun c4 => ?_)
    · refine ⟨_, rfl, _, rfl, (by show 3 ≤ sizeLine; decide), fun t nt => ?_⟩
      exact q (.n2 "pair" t1 t2) _ _ ⟨.inl rfl, k1, k2⟩ (by show max t1.deep t2.deep + 1 ≤ e + 1 + 1; omega) ⟨t, v1, v2, rfl, upd_same, A1.keep (tups_same (same_new nt)), a2.keep (tups_same (same_new nt))⟩ (bb.new nt) ((hD3.same (same_new nt)).more (by omega))
    refine ⟨(by show 1 ≤ sizeLine; decide), fun tn nn => ?_⟩
    have s1 := same_new (o := .tup [.str "none"]) nn
    have an : At (upd X tn (.tup [.str "none"])) (.n0 "none") (.ref tn) := ⟨tn, rfl, upd_same⟩
    generalize upd X tn (.tup [.str "none"]) = X1 at s1 an
    refine ⟨_, rfl, _, rfl, (by show 3 ≤ sizeLine; decide), fun q1 n1 => ?_⟩
    have s2 := same_new (o := .tup [.str "either", v1, v2]) n1
    have e1 : upd X1 q1 (.tup [.str "either", v1, v2]) q1 = _ := upd_same
    generalize upd X1 q1 (.tup [.str "either", v1, v2]) = X2 at s2 e1
    refine ⟨_, rfl, _, rfl, (by show 3 ≤ sizeLine; decide), fun q2 n2 => ?_⟩
    have s3 := same_new (o := .tup [.str "either", .ref tn, v2]) n2
    have e2 : upd X2 q2 (.tup [.str "either", .ref tn, v2]) q2 = _ := upd_same
    generalize upd X2 q2 (.tup [.str "either", .ref tn, v2]) = X3 at s3 e2
    refine ⟨_, rfl, _, rfl, (by show 3 ≤ sizeLine; decide), fun q3 n3 => ?_⟩
    have s4 := same_new (o := .tup [.str "either", v1, .ref tn]) n3
    have e3 : upd X3 q3 (.tup [.str "either", v1, .ref tn]) q3 = _ := upd_same
    generalize upd X3 q3 (.tup [.str "either", v1, .ref tn]) = X4 at s4 e3
    refine ⟨_, rfl, _, rfl, (by show 3 ≤ sizeLine; decide), fun q4 n4 => ?_⟩
    have s5 := same_new (o := .tup [.str "either", .ref tn, .ref tn]) n4
    have e4 : upd X4 q4 (.tup [.str "either", .ref tn, .ref tn]) q4 = _ := upd_same
    generalize upd X4 q4 (.tup [.str "either", .ref tn, .ref tn]) = X5 at s5 e4
    refine ⟨(by show 4 ≤ sizeLine; decide), fun l nl => ?_⟩
    have s6 := same_new (o := .lst [.ref q1, .ref q2, .ref q3, .ref q4]) nl
    have sAll : Same X (upd X5 l (.lst [.ref q1, .ref q2, .ref q3, .ref q4])) := s1.trans (s2.trans (s3.trans (s4.trans (s5.trans s6))))
    have hD4 := hD3.same sAll
    have el : upd X5 l (.lst [.ref q1, .ref q2, .ref q3, .ref q4]) l = _ := upd_same
    have nlp : l ≠ p := ((hD3.same (s1.trans (s2.trans (s3.trans (s4.trans s5)))))).ne nl
    have E1 := (s3.trans (s4.trans (s5.trans s6))) _ _ e1
    have E2 := (s4.trans (s5.trans s6)) _ _ e2
    have E3 := (s5.trans s6) _ _ e3
    have E4 := s6 _ _ e4
    have B1 := A1.keep (tups_same sAll)
    have B2 := a2.keep (tups_same sAll)
    have Bn := an.keep (tups_same (s2.trans (s3.trans (s4.trans (s5.trans s6)))))
    generalize upd X5 l (.lst [.ref q1, .ref q2, .ref q3, .ref q4]) = X6 at sAll hD4 el E1 E2 E3 E4 B1 B2 Bn
    have items : ∀ x ∈ ([.ref q1, .ref q2, .ref q3, .ref q4] : List V), ∃ t : Tr, t.Kd ∧ t.deep ≤ e + 1 + 1 ∧ At X6 t x := by
      have p1 := deep_pos t1
      have p2 := deep_pos t2
      have kn : (Tr.n0 "none").Kd := .inl rfl
      intro x hx
      rcases List.mem_cons.mp hx with rfl | hx
      · exact ⟨.n2 "either" t1 t2, ⟨.inr rfl, k1, k2⟩, (by show max t1.deep t2.deep + 1 ≤ e + 1 + 1; omega), q1, v1, v2, rfl, E1, B1, B2⟩
      rcases List.mem_cons.mp hx with rfl | hx
      · exact ⟨.n2 "either" (.n0 "none") t2, ⟨.inr rfl, kn, k2⟩, (by show max 1 t2.deep + 1 ≤ e + 1 + 1; omega), q2, _, v2, rfl, E2, Bn, B2⟩
      rcases List.mem_cons.mp hx with rfl | hx
      · exact ⟨.n2 "either" t1 (.n0 "none"), ⟨.inr rfl, k1, kn⟩, (by show max t1.deep 1 + 1 ≤ e + 1 + 1; omega), q3, v1, _, rfl, E3, B1, Bn⟩
      · rw [List.mem_singleton.mp hx]
        exact ⟨.n2 "either" (.n0 "none") (.n0 "none"), ⟨.inr rfl, kn, kn⟩, (by show max 1 1 + 1 ≤ e + 1 + 1; omega), q4, _, _, rfl, E4, Bn, Bn⟩
    refine ⟨_, rfl, _, rfl, p, l, L, _, m + 1 + ck e + ck e, rfl, .inl (.inl el), nlp, (by show 0 < 4; decide), (by show 4 ≤ 1000; decide), by omega, hD4, fun x mem H' b hD' => ?_⟩
    obtain ⟨t, kt, dt, at_⟩ := items x mem
    refine q t x H' kt dt (at_.keep (hD4.tups b)) ((bb.trans (but_same sAll)).trans b) (hD'.more (by omega))
theorem ok_kinds {f fr fp : Addr} {fd dr dp : FuncData} (F : Fun K "_law_kind" "_law_kind" sKind f fd) (D : Draw P w K mg base fr fp dr dp) (bS : Binds K fd ["dice", "deep", "whole"] []) (mS : mg "_law_kind" = some (.ref f)) : ∀ n : Nat, FnOk P w K mg base CX0 (2 + n) f fd ["dice", "deep", "whole"] (spKind n)
  | 0 => no_calls fun vs H Q E h => by
    obtain ⟨p, L, d, m, _, dn, _⟩ := h
    omega
  | n + 1 => ok_kind F D (ok_kinds F D bS mS n) bS mS
end
end Kf
set_option Elab.async false
set_option linter.all false
set_option maxRecDepth 100000
set_option maxHeartbeats 8000000
set_option pp.maxSteps 1200
/-! k24: the law's own look at worths. -/
namespace Kf
open PySem PySem.Spec PyProof.Rows L2 Sx
section
variable {P : Program} {w : World} {K : PySem.W.Frag} {mg : Str → Option Value} {base : Heap}
def spDue (K : PySem.W.Frag) (n : Nat) : Sp := fun vs H Q _ => ∃ (v1 v2 : V) (t : Tr) (d : PyData), vs = [v1, v2] ∧ At H t v1 ∧ t.Kd ∧ t.deep ≤ n ∧ Dp K H v2 d ∧ ∀ H', Same H H' → Q (.bl (isW t d)) H'
theorem ok_due {f : Addr} {fd : FuncData} {n : Nat} (F : Fun K "_law_due" "_law_due" sDue f fd) (T : Blt mg) (S : FnOk P w K mg base CX0 n f fd ["kind", "thing"] (spDue K n)) (bS : Binds K fd ["kind", "thing"] []) (mS : mg "_law_due" = some (.ref f)) :
    FnOk P w K mg base CX0 (n + 1) f fd ["kind", "thing"] (spDue K (n + 1)) := by
  refine F.ok scDue (fun vs H Q E h => ?_) (fun cdv A outer s H vs Q E hr h => ?_)
  · obtain ⟨v1, v2, t, d, rfl, _⟩ := h
    rfl
  obtain ⟨v1, v2, t, d, rfl, hA, hK, hd, hD, q⟩ := h
  refine ⟨_, pss_cons (ps_if (pt_cmpR op_eq (pe_ix ix_tup (pv 0) pe_int (fun _ _ => rfl)) pe_str (nomark _)) (pss_one (ps_ret (pe_cmpR op_isN (pv 1) pe_non (nomark _)))) pss_nil)
    (pss_cons (ps_if (pt_cmpR op_eq (pe_ix ix_tup (pv 0) pe_int (fun _ _ => rfl)) pe_str (nomark _)) (pss_one (ps_ret (pe_and (pe_callB call_isi (by rfl) T.zIs (by decide +kernel) (pa_cons (pv 1) (pa_cons (pe_bltn (v := .ty "int") (by rfl) T.zInt (by decide +kernel) rfl) pa_nil)))
      (pe_and (pe_not (pe_callB call_isi (by rfl) T.zIs (by decide +kernel) (pa_cons (pv 1) (pa_cons (pe_bltn (v := .ty "bool") (by rfl) T.zBool (by decide +kernel) rfl) pa_nil)))) (pe_one (pe_chain op_le op_lt pe_int (pv 1) (pe_op op_pow pe_int pe_int))))))) pss_nil)
    (pss_cons (ps_if (PW.pt (pw_or (pt_not (pt_val (pe_callB call_isi (by rfl) T.zIs (by decide +kernel) (pa_cons (pv 1) (pa_cons (pe_bltn (v := .ty "tuple") (by rfl) T.zTuple (by decide +kernel) rfl) pa_nil)))))
      (pw_or1 (pt_cmpR op_ne (pe_callB call_len_seq (by rfl) T.zLen PySem.boot_len (pa_cons (pv 1) pa_nil)) pe_int (nomark _))))) (pss_one (ps_ret pe_bl)) pss_nil)
    (pss_cons (ps_if (pt_cmpR op_eq (pe_ix ix_tup (pv 0) pe_int (fun _ _ => rfl)) pe_str (nomark _)) (pss_one (ps_ret (pe_and (pe_call S hr (by rfl) mS F.kp bS .nil pass0 (pa_cons (pe_ix ix_tup (pv 0) pe_int (fun _ _ => rfl)) (pa_cons (pe_ix ix_tup (pv 1) pe_int (fun _ _ => rfl)) pa_nil)))
      (pe_one (pe_call S hr (by rfl) mS F.kp bS .nil pass0 (pa_cons (pe_ix ix_tup (pv 0) pe_int (fun _ _ => rfl)) (pa_cons (pe_ix ix_tup (pv 1) pe_int (fun _ _ => rfl)) pa_nil))))))) pss_nil)
    (pss_cons (ps_if (PW.pt (pw_or (pt_not (pt_val (pe_callB call_isi (by rfl) T.zIs (by decide +kernel) (pa_cons (pe_ix ix_tup (pv 1) pe_int (fun _ _ => rfl)) (pa_cons (pe_bltn (v := .ty "str") (by rfl) T.zStr (by decide +kernel) rfl) pa_nil)))))
      (pw_or1 (pt_cmpR op_notIn_seq (pe_ix ix_tup (pv 1) pe_int (fun _ _ => rfl)) (pe_tup (pa_cons pe_str (pa_cons pe_str pa_nil))) (by rfl))))) (pss_one (ps_ret pe_bl)) pss_nil)
    (pss_one (ps_ret (pe_call S hr (by rfl) mS F.kp bS .nil pass0 (pa_cons (pe_ix ix_tup (pv 0) (pe_op op_add (pe_bm PySem.F.plainAttrs_list PySem.F.slot_list_index PySem.F.type_list_index mt_index (pe_lst (pa_cons pe_str (pa_cons pe_str pa_nil))) (pa_cons (pe_ix ix_tup (pv 1) pe_int (fun _ _ => rfl)) pa_nil)) pe_int) (fun _ _ => rfl))
      (pa_cons (pe_ix ix_tup (pv 1) pe_int (fun _ _ => rfl)) pa_nil))))))))), ?_⟩
  cases t with
  | leaf _ _ => exact hK.elim
  | n1 _ _ => exact hK.elim
  | n0 w0 =>
    obtain ⟨p, rfl, hp⟩ := hA
    refine ⟨_, rfl, p, _, 0, _, rfl, rfl, .inl (.inl hp), head_at _ _, rfl, _, rfl, ?_⟩
    have q0 := q H fun _ _ e => e
    rcases (show w0 = "none" ∨ w0 = "number" from hK) with e | e
    · subst e
      refine same_wd ⟨_, rfl, rfl, ?_⟩
      have e : isW (.n0 "none") d = decide (v2 = V.non) := by
        cases hD with
        | non => rfl
        | _ => exact (decide_eq_false (fun z => by cases z)).symm
      rw [e] at q0
      exact q0
    · subst e
      refine other_wd (by decide +kernel) ⟨_, rfl, p, _, 0, _, rfl, rfl, .inl (.inl hp), head_at _ _, rfl, _, rfl, ?_⟩
      refine same_wd ⟨_, rfl, _, _, _, _, isI d, rfl, .ty "int", dp_ty hD, kit_i d, _, rfl, ?_⟩
      cases hD with
      | int i =>
        refine iteT ⟨_, rfl, _, _, _, _, isB (.int i), rfl, .ty "bool", dp_ty (K := K) (H := H) (.int i), kit_b _, _, rfl, _, rfl, ?_⟩
        refine iteT ⟨_, rfl, _, _, rfl, rfl, _, rfl, ?_⟩
        have e : isW (.n0 "number") (.int i) = (decide (0 ≤ i) && decide (i < 10 ^ 60)) := rfl
        rw [e] at q0
        refine ite2 (fun c => ?_) (fun c => ?_)
        · refine ⟨_, _, rfl, rfl, ⟨by decide, by decide, by decide⟩, _, _, rfl, rfl, ?_⟩
          rw [c] at q0
          exact q0
        · rw [Bool.eq_false_iff.mpr c] at q0
          exact q0
      | bl b => exact iteT ⟨_, rfl, _, _, _, _, isB (.bool b), rfl, .ty "bool", dp_ty (K := K) (H := H) (.bl b), kit_b _, _, rfl, _, rfl, iteF q0⟩
      | _ => exact iteF q0
  | n2 w0 ta tb =>
    obtain ⟨ew, ka, kb⟩ := hK
    obtain ⟨p, xa, xb, rfl, hp, aa, ab⟩ := hA
    have n1 : w0 ≠ "none" := by rcases ew with e | e <;> rw [e] <;> decide +kernel
    have n2 : w0 ≠ "number" := by rcases ew with e | e <;> rw [e] <;> decide +kernel
    have da : ta.deep ≤ n ∧ tb.deep ≤ n := by
      have z : max ta.deep tb.deep + 1 ≤ n + 1 := hd
      omega
    have q0 := q H fun _ _ e => e
    refine ⟨_, rfl, p, _, 0, _, rfl, rfl, .inl (.inl hp), head_at _ _, rfl, _, rfl, ?_⟩
    refine other_wd n1 ⟨_, rfl, p, _, 0, _, rfl, rfl, .inl (.inl hp), head_at _ _, rfl, _, rfl, ?_⟩
    refine other_wd n2 ⟨_, rfl, _, _, _, _, isTu d, rfl, .ty "tuple", dp_ty hD, kit_tu d, _, rfl, ?_⟩
    cases h2 : two d with
    | false =>
      rw [isW_two h2] at q0
      cases hD with
      | @tup a xs ds hs ha =>
        refine iteF ⟨_, rfl, a, xs, rfl, .inr hs, rfl, _, rfl, ?_⟩
        have hl := dps_len ha
        rw [show (!decide (V.int ((xs.length : Nat) : Int) = V.int 2)) = true by
          rw [hl, decide_eq_false]
          · rfl
          · intro z
            injection z with z
            match ds, z, h2 with
            | [_, _], _, h2 => cases h2
            | [], z, _ => cases z
            | [_], z, _ => cases z
            | _ :: _ :: _ :: r, z, _ =>
              simp only [List.length_cons] at z
              omega]
        exact iteT q0
      | _ => exact iteT (iteT q0)
    | true =>
      obtain ⟨dx, dy, rfl⟩ := two_is h2
      cases hD with
      | @tup a _ _ hs ha =>
      cases ha with
      | @cons vx _ _ _ hx hr =>
      cases hr with
      | @cons vy _ _ _ hy hn =>
      cases hn
      have hdy : Dp K H vy dy := hy
      refine iteF ⟨_, rfl, a, _, rfl, .inr hs, rfl, _, rfl, ?_⟩
      refine iteF ⟨_, rfl, p, _, 0, _, rfl, rfl, .inl (.inl hp), head_at _ _, rfl, _, rfl, ?_⟩
      rcases ew with e | e
      · subst e
        refine same_wd ⟨_, rfl, p, _, 1, _, rfl, rfl, .inl (.inl hp), atI_nat (j := 1) rfl, _, rfl, a, _, 0, _, rfl, rfl, hs, head_at _ _, xa, vx, ta, dx, rfl, aa, ka, da.1, hx, fun H1 s1 => ⟨_, rfl, ?_⟩⟩
        have e1 : isW (.n2 "pair" ta tb) (.tuple [dx, dy]) = (isW ta dx && isW tb dy) := if_pos rfl
        rw [e1] at q
        cases hw : isW ta dx with
        | false =>
          have q1 := q H1 s1
          rw [hw] at q1
          exact iteF q1
        | true =>
          refine iteT ⟨_, rfl, p, _, 2, _, rfl, rfl, .inl (.inl (s1 _ _ hp)), atI_nat (j := 2) rfl, _, rfl, a, _, 1, _, rfl, rfl, sqT_up s1 hs, atI_nat (j := 1) rfl, xb, vy, tb, dy, rfl, ab.keep (tups_same s1), kb, da.2, dp_up s1 _ _ hdy, fun H2 s2 => ?_⟩
          have q1 := q H2 (s1.trans s2)
          rw [hw] at q1
          exact q1
      · subst e
        refine other_wd (by decide +kernel) ⟨_, rfl, a, _, 0, _, rfl, rfl, hs, head_at _ _, _, _, _, _, isS dx, rfl, .ty "str", dp_ty hx, kit_s dx, _, rfl, ?_⟩
        cases hx with
        | str z =>
          refine iteF ⟨_, rfl, a, _, 0, _, rfl, rfl, hs, head_at _ _, (by show 2 ≤ sizeLine; decide), fun q3 n3 => ?_⟩
          have s3 := same_new (o := .tup [.str "this", .str "that"]) n3
          have hs3 := sqT_up s3 hs
          have e3 : upd H q3 (.tup [.str "this", .str "that"]) q3 = _ := upd_same
          have hp3 := s3 _ _ hp
          have aa3 := aa.keep (tups_same s3)
          have ab3 := ab.keep (tups_same s3)
          have hy3 := dp_up s3 _ _ hdy
          generalize upd H q3 (.tup [.str "this", .str "that"]) = H3 at s3 hs3 e3 hp3 aa3 ab3 hy3
          refine ⟨q3, [.str "this", .str "that"], rfl, .inr (.inl (.inl e3)), rfl, rfl, _, rfl, ?_⟩
          by_cases z1 : z = "this"
          · subst z1
            rw [show (!inV (.str "this") [.str "this", .str "that"]) = false by decide +kernel]
            refine iteF ⟨_, rfl, (by show 2 ≤ sizeLine; decide), fun l nl => ?_⟩
            have s4 := same_new (o := .lst [.str "this", .str "that"]) nl
            have e4 : upd H3 l (.lst [.str "this", .str "that"]) l = _ := upd_same
            have hs4 := sqT_up s4 hs3
            refine ⟨.inl ⟨rfl, _, .inl (.inl e4)⟩, _, rfl, a, _, 0, _, rfl, rfl, hs4, head_at _ _, l, [.str "this", .str "that"], .str "this", 0, .str "this", rfl, rfl, .inl (.inl e4), rfl, rfl, rfl, (by decide +kernel), (fun m z' lt => absurd lt (Nat.not_lt_zero _)), ?_⟩
            refine ⟨_, _, rfl, rfl, p, _, 1, xa, rfl, rfl, .inl (.inl (s4 _ _ hp3)), atI_nat (j := 1) rfl, _, rfl, a, _, 1, _, rfl, rfl, hs4, atI_nat (j := 1) rfl, xa, vy, ta, dy, rfl, aa3.keep (tups_same s4), ka, da.1, dp_up s4 _ _ hy3, fun H5 s5 => ?_⟩
            have q1 := q H5 (s3.trans (s4.trans s5))
            rw [isW_str, if_pos rfl] at q1
            exact q1
          · by_cases z2 : z = "that"
            · subst z2
              rw [show (!inV (.str "that") [.str "this", .str "that"]) = false by decide +kernel]
              refine iteF ⟨_, rfl, (by show 2 ≤ sizeLine; decide), fun l nl => ?_⟩
              have s4 := same_new (o := .lst [.str "this", .str "that"]) nl
              have e4 : upd H3 l (.lst [.str "this", .str "that"]) l = _ := upd_same
              have hs4 := sqT_up s4 hs3
              refine ⟨.inl ⟨rfl, _, .inl (.inl e4)⟩, _, rfl, a, _, 0, _, rfl, rfl, hs4, head_at _ _, l, [.str "this", .str "that"], .str "that", 1, .str "that", rfl, rfl, .inl (.inl e4), rfl, rfl, rfl, (by decide +kernel), (fun m z' lt e => by cases m with | zero => cases e; decide +kernel | succ m => omega), ?_⟩
              refine ⟨_, _, rfl, rfl, p, _, 2, xb, rfl, rfl, .inl (.inl (s4 _ _ hp3)), atI_nat (j := 2) rfl, _, rfl, a, _, 1, _, rfl, rfl, hs4, atI_nat (j := 1) rfl, xb, vy, tb, dy, rfl, ab3.keep (tups_same s4), kb, da.2, dp_up s4 _ _ hy3, fun H5 s5 => ?_⟩
              have q1 := q H5 (s3.trans (s4.trans s5))
              rw [isW_str, if_neg z1, decide_eq_true rfl, Bool.true_and] at q1
              exact q1
            · have no : inV (.str z) [.str "this", .str "that"] = false := by
                show (eqV _ _ || (eqV _ _ || false)) = false
                have e1 : eqV (.str "this") (.str z) = false := beq_eq_false_iff_ne.mpr (fun e => z1 e.symm)
                have e2 : eqV (.str "that") (.str z) = false := beq_eq_false_iff_ne.mpr (fun e => z2 e.symm)
                first
                  | rw [e1, e2]; rfl
                  | (simp [inV, eqV]; exact ⟨fun e => z1 e.symm, fun e => z2 e.symm⟩)
                  | (simp [inV, eqV]; exact ⟨z1, z2⟩)
              rw [no]
              have q1 := q H3 s3
              rw [isW_str, if_neg z1, decide_eq_false z2, Bool.false_and] at q1
              exact iteT q1
        | _ =>
          rw [isW_no rfl] at q0
          exact iteT (iteT q0)
theorem ok_dues {f : Addr} {fd : FuncData} (F : Fun K "_law_due" "_law_due" sDue f fd) (T : Blt mg) (bS : Binds K fd ["kind", "thing"] []) (mS : mg "_law_due" = some (.ref f)) : ∀ n : Nat, FnOk P w K mg base CX0 n f fd ["kind", "thing"] (spDue K n)
  | 0 => no_calls fun vs H Q E h => by
    obtain ⟨v1, v2, t, d, _, _, _, dn, _⟩ := h
    have := deep_pos t
    omega
  | n + 1 => ok_due F T (ok_dues F T bS mS n) bS mS
end
end Kf
set_option Elab.async false
set_option linter.all false
set_option maxRecDepth 100000
set_option maxHeartbeats 4000000
set_option pp.maxSteps 1200
/-! A tuple from behind: t[::-1]. -/
namespace Kf
open PySem PySem.Spec PyProof.Rows L2 Sx
section
variable {prog : Program} {w : World} {A : Around} {E : Value → Shared → Prop} {s : Shared}
theorem places_rev (n : Nat) : Builtin.Slice.slicePlaces ((n : Int) - 1) (-1) (-1) = n := by
  unfold Builtin.Slice.slicePlaces
  have h1 : ¬ ((-1 : Int) > 0) := by decide
  rw [if_neg h1]
  by_cases h : (n : Int) - 1 > -1
  · rw [if_pos h, show (- -1 : Int) = 1 by decide, Int.ediv_one]
    omega
  · rw [if_neg h]
    omega
theorem sliceApplied_rev {sl : Addr} {vs : Value} {n : Nat} {Q : Int × Int × Nat → Shared → Prop} (hs : s.heap.IsSliceOf sl .none .none vs) (ps : IsPart vs (some (-1)))
    (h : Q ((n : Int) - 1, -1, n) s) : wpAny (model prog w) A (Builtin.Slice.sliceApplied (.ref sl) (pure (n : Int))) Q E s := by
  obtain ⟨os, hos, hcs, hds⟩ := id hs
  unfold Builtin.Slice.sliceApplied Builtin.Slice.sliceFields
  refine wpAny_bind (wpAny_bind (wpAny_field hos hds (x := .none) rfl (wpAny_bind (wpAny_field hos hds (x := .none) rfl (wpAny_bind (wpAny_field hos hds (x := vs) rfl (wpAny_pure ?_)))))))
  refine wpAny_bind (HT.slicePart_ ps ?_)
  show wpAny _ _ (if ((-1 : Int) == 0) = true then _ else _) _ _ s
  rw [if_neg (by decide)]
  refine wpAny_bind (HT.slicePart_ .none (wpAny_bind (HT.slicePart_ .none (wpAny_bind (wpAny_pure ?_)))))
  show wpAny _ _ (pure (((n : Int) - 1), (-1 : Int), Builtin.Slice.slicePlaces ((n : Int) - 1) (-1) (-1))) _ _ s
  rw [places_rev]
  exact wpAny_pure h
theorem fm_congr {α β : Type} {f g : α → Option β} : ∀ l : List α, (∀ x ∈ l, f x = g x) → l.filterMap f = l.filterMap g
  | [], _ => rfl
  | a :: l, h => by
    rw [List.filterMap_cons, List.filterMap_cons, h a List.mem_cons_self, fm_congr l fun x hx => h x (List.mem_cons_of_mem _ hx)]
theorem pick_rev (xs : Array Value) : ((List.range xs.size).filterMap fun (m : Nat) => xs[((xs.size : Int) - 1 + (m : Int) * (-1)).toNat]?).toArray = xs.toList.reverse.toArray := by
  have k := PySem.W.krv_pick xs
  rw [← k]
  unfold slicePick
  rw [PySem.W.krv_bounds]
  show _ = ((sliceRange ((xs.size : Int) - 1) (-1) (-1)).filterMap (xs[·]?)).toArray
  rw [PySem.W.krv_sliceRange, List.filterMap_map]
  congr 1
  refine fm_congr _ fun m hm => ?_
  have lt := List.mem_range.mp hm
  show xs[((xs.size : Int) - 1 + (m : Int) * (-1)).toNat]? = xs[xs.size - 1 - m]?
  rw [show ((xs.size : Int) - 1 + (m : Int) * (-1)).toNat = xs.size - 1 - m by omega]
theorem getItem_tuple_rev {t sl : Addr} {items : Array Value} {vs : Value} {Q : Value → Shared → Prop} (ht : IsTup s.heap t items) (hs : s.heap.IsSliceOf sl .none .none vs) (ps : IsPart vs (some (-1)))
    (h : Q (.ref s.heap.objs.size) { s with heap := s.heap.push { cls := .type "tuple", data := .seq items.toList.reverse.toArray } }) (hsz : items.size ≤ sizeLine) : wpAny (model prog w) A (getItem (.ref t) (.ref sl)) Q E s := by
  have htake : sizeOk (.seq items.toList.reverse.toArray) := by
    show items.toList.reverse.toArray.size ≤ sizeLine
    rw [List.size_toArray, List.length_reverse, Array.length_toList]
    exact hsz
  obtain ⟨os, hos, hcs, hds⟩ := id hs
  have hTs : s.TypeIs (.ref sl) "slice" := ⟨os, hos, hcs⟩
  unfold getItem
  try with_reducible refine wpAny_holding ?_
  first | refine wpAny_bind (wpAny_pure ?_) | skip
  refine wpAny_bind (wpAny_sequenceKey ht.typeIs (by decide) ?_)
  refine wpAny_bind (wpAny_callSpecial?_slot (name := Str.ofString "__getitem__") ht.typeIs PyProof.Rows.slot_tuple_getitem
    (wpAny_call_entry PyProof.Rows.slot_tuple_getitem ht.typeIs entry_tuple_getitem ?_ (args_tuple_getitem _ _)))
  show wpAny _ _ (Builtin.Tuple.tupleItemsOf (.ref t) >>= _) _ _ s
  refine wpAny_bind (tupleItemsOf_ ht ?_)
  refine wpAny_bind (wpAny_typeOf hTs ?_)
  rw [if_pos (by decide)]
  refine wpAny_bind (sliceApplied_rev hs ps ?_)
  have hno : ¬ ((((items.size : Int) - 1) == 0 && (-1 : Int) == 1 && items.size == items.size) = true) := by
    rw [show ((-1 : Int) == 1) = false by decide, Bool.and_false, Bool.false_and]
    exact Bool.false_ne_true
  show wpAny _ _ (if (((items.size : Int) - 1) == 0 && (-1 : Int) == 1 && items.size == items.size) = true then _ else _) _ _ s
  rw [if_neg hno, pick_rev]
  first
    | exact wpAny_bind (m := Builtin.Tuple.tupleExact _) (wpAny_newObj_type (wpAny_pure ⟨_, rfl, wpAny_pure h⟩) htake)
    | exact wpAny_bind (m := Builtin.Tuple.tupleExact _) (wpAny_newObj_type (wpAny_bind (wpAny_pure (wpAny_pure ⟨_, rfl, wpAny_pure h⟩))) htake)
    | exact wpAny_bind (wpAny_bind (m := Builtin.Tuple.tupleExact _) (wpAny_newObj_type (wpAny_pure (wpAny_pure ⟨_, rfl, wpAny_pure h⟩)) htake))
    | exact wpAny_bind (wpAny_bind (m := Builtin.Tuple.tupleExact _) (wpAny_newObj_type (wpAny_pure ⟨_, rfl, wpAny_pure h⟩) htake))
end
section
variable {X : Cx}
def tRevT (K : PySem.W.Frag) (te : TE) : TE := fun σ H Q => te σ H fun x H1 => ∃ a xs, x = .ref a ∧ SqT K H1 a xs ∧ ∀ p, H1 p = none → Q (.ref p) (upd H1 p (.tup xs.reverse))
theorem pe_revT {e : Expr} {te : TE} {k : Nat} {p1 p2 p3 pos : Pos} (he : PE X e te) : PE X (.Subscript e (.Slice none none (some (.UnaryOp .USub (.Constant (.int 1) k p1) p2)) p3) pos) (tRevT X.K te) := by
  refine ⟨fun pins s σ H Q I h => ?_⟩
  refine Subscript_ (thn (he.run pins s σ H _ I h) fun v s1 ⟨x, H1, I1, r1, q1⟩ => ?_)
  obtain ⟨a, xs, ex, hx, q⟩ := q1
  subst ex
  cases r1
  have hst : PO X (some (.UnaryOp .USub (.Constant (.int 1) k p1) p2)) (tPart (tUn (rU fun i => .int (-i)) (tC (.int 1)))) := po_some (pe_un un_neg pe_int)
  refine wpAny_Slice (thn (po_none.run pins s1 σ H1 (fun o H2 => o = none ∧ H2 = H1) I1 ⟨rfl, rfl⟩) fun vl s2 ⟨l, H2, I2, pl, el, e2⟩ => ?_)
  subst el e2
  refine thn (po_none.run pins s2 σ H2 (fun o H3 => o = none ∧ H3 = H2) I2 ⟨rfl, rfl⟩) fun vu s3 ⟨u, H3, I3, pu, eu, e3⟩ => ?_
  subst eu e3
  refine thn (hst.run pins s3 σ H3 (fun o H4 => o = some (-1) ∧ H4 = H3) I3 ⟨1, rfl, -1, rfl, rfl, rfl⟩) fun vs s4 ⟨o, H4, I4, ps, eo, e4⟩ => ?_
  subst eo e4
  have I5 : Inv X pins σ H4 { s4 with heap := s4.heap.push { cls := .type "slice", data := .fields #[vl, vu, vs] } } := I4.kept (t' := s4.toks) fun b ob q => Heap.get?_push_of_some _ q
  obtain ⟨its, r, ht, hz⟩ := I5.tuple hx
  have hlen := r.length
  cases pl
  cases pu
  show wpAny (model X.prog X.w) X.A (subscriptTail e (.Slice none none (some (.UnaryOp .USub (.Constant (.int 1) k p1) p2)) p3) (.ref a) (.ref s4.heap.objs.size)) (EP X pins σ Q) X.xe { s4 with heap := s4.heap.push { cls := .type "slice", data := .fields #[.none, .none, vs] } }
  refine tail_any (ops := [.ref a, .ref s4.heap.objs.size]) ht.typeIs (PySem.F.slot_tuple_getitem.lookup) ?_ (by with_unfolding_all rfl)
  refine getItem_tuple_rev ht (Heap.IsSliceOf.new _ .none .none vs) ps ?_ (by rw [List.size_toArray]; omega)
  refine ⟨.ref _, _, I5.laid (t' := s4.toks) (o := .tup xs.reverse) (fun b ob q => Heap.get?_push_of_some _ q) (Nat.le_refl _) ?_, rfl, q _ (I5.hok.fresh (Nat.le_refl _))⟩
  exact ⟨by rw [List.length_reverse]; exact hz, _, r.reverse, IsTup.new _ _⟩
end
end Kf
set_option Elab.async false
set_option linter.all false
set_option maxRecDepth 100000
set_option maxHeartbeats 4000000
set_option pp.maxSteps 1200
/-! Things that stand beside the dice; how great they are. -/
namespace Kf
open PySem PySem.Spec PyProof.Rows L2 Sx
abbrev NmOk (z : Str) : Prop := z.cps.all (· < 0x110000) = true
/-- the heap without some places -/
def del (H : Hp) (S : List Addr) : Hp := fun c => if c ∈ S then none else H c
theorem del_ne {H : Hp} {S : List Addr} {c : Addr} (n : c ∉ S) : del H S c = H c := if_neg n
theorem del_same {H : Hp} {S : List Addr} : Same (del H S) H := fun c o e => by
  unfold del at e
  split at e
  · cases e
  · exact e
theorem del_but {H H' : Hp} {p : Addr} {S : List Addr} (pS : p ∈ S) (b : But p H H') : Same (del H S) (del H' S) := fun c o e => by
  by_cases n : c ∈ S
  · rw [show del H S c = none from if_pos n] at e
    cases e
  · rw [del_ne n] at e ⊢
    exact b _ _ (fun z => n (by rw [z]; exact pS)) e
/-- these places are lists -/
def LS (H : Hp) (S : List Addr) : Prop := ∀ a ∈ S, ∃ xs, H a = some (.lst xs)
theorem LS.but {H H' : Hp} {p L : Addr} {S : List Addr} {m : Int} (h : LS H S) (b : But p H H') (hD : DiceAt H' p L m) : LS H' S := fun a ha => by
  by_cases e : a = p
  · obtain ⟨x, n, r, cs, e2, _⟩ := hD
    rw [e]
    exact ⟨_, e2⟩
  · obtain ⟨xs, e2⟩ := h a ha
    exact ⟨xs, b _ _ e e2⟩
theorem LS.nin {H : Hp} {S : List Addr} {q : Addr} (h : LS H S) (e : H q = none) : q ∉ S := fun z => by
  obtain ⟨xs, e2⟩ := h q z
  rw [e] at e2
  cases e2
section
variable {K : PySem.W.Frag} {H H' : Hp} {p : Addr} {S : List Addr} {m : Int}
/-- data in the heap, but for these places -/
def Df (K : PySem.W.Frag) (S : List Addr) (H : Hp) (v : V) (d : PyData) : Prop := Dp K (del H S) v d
theorem Df.dp {v : V} {d : PyData} (h : Df K S H v d) : Dp K H v d := dp_up del_same _ _ h
theorem Df.but {v : V} {d : PyData} (pS : p ∈ S) (b : But p H H') (h : Df K S H v d) : Df K S H' v d := dp_up (del_but pS b) _ _ h
theorem del_up (b : Same H H') : Same (del H S) (del H' S) := fun c o e => by
  by_cases n : c ∈ S
  · rw [show del H S c = none from if_pos n] at e
    cases e
  · rw [del_ne n] at e ⊢
    exact b _ _ e
theorem Df.same {v : V} {d : PyData} (b : Same H H') (h : Df K S H v d) : Df K S H' v d := dp_up (del_up b) _ _ h
theorem sqT_del {a : Addr} {xs : List V} (hL : LS H S) (h : SqT K H a xs) : SqT K (del H S) a xs := by
  rcases h with (h | ⟨o, h⟩) | h
  · have ne : a ∉ S := fun z => by
      obtain ⟨ys, e⟩ := hL a z
      rw [e] at h
      cases h
    exact .inl (.inl (by rw [del_ne ne]; exact h))
  · have ne : a ∉ S := fun z => by
      obtain ⟨ys, e⟩ := hL a z
      rw [e] at h
      cases h
    exact .inl (.inr ⟨o, by rw [del_ne ne]; exact h⟩)
  · exact .inr h
def DfAll (K : PySem.W.Frag) (S : List Addr) (H : Hp) (vs : List V) (ds : List PyData) : Prop := DpAll K (del H S) vs ds
theorem df_tup {a : Addr} {xs : List V} {ds : List PyData} (hL : LS H S) (h : SqT K H a xs) (g : DfAll K S H xs ds) : Df K S H (.ref a) (.tuple ds) := .tup (sqT_del hL h) g
theorem df_lst {a : Addr} {xs : List V} {ds : List PyData} (n : a ∉ S) (h : H a = some (.lst xs)) (g : DfAll K S H xs ds) : Df K S H (.ref a) (.list ds) := .lst (.inl (.inl (by rw [del_ne n]; exact h))) g
theorem DfAll.but {vs : List V} {ds : List PyData} (pS : p ∈ S) (b : But p H H') (h : DfAll K S H vs ds) : DfAll K S H' vs ds := dps_up (del_but pS b) _ _ h
theorem dps_app : ∀ {vs ws : List V} {ds es : List PyData}, DpAll K H vs ds → DpAll K H ws es → DpAll K H (vs ++ ws) (ds ++ es)
  | _, _, _, _, .nil, h => h
  | _, _, _, _, .cons a b, h => .cons a (dps_app b h)
theorem dps_take : ∀ (k : Nat) {vs : List V} {ds : List PyData}, DpAll K H vs ds → DpAll K H (vs.take k) (ds.take k)
  | 0, _, _, _ => .nil
  | k + 1, _, _, .nil => .nil
  | k + 1, _, _, .cons a b => .cons a (dps_take k b)
theorem dps_drop : ∀ (k : Nat) {vs : List V} {ds : List PyData}, DpAll K H vs ds → DpAll K H (vs.drop k) (ds.drop k)
  | 0, _, _, h => h
  | k + 1, _, _, .nil => .nil
  | k + 1, _, _, .cons a b => dps_drop k b
theorem dps_rev : ∀ {vs : List V} {ds : List PyData}, DpAll K H vs ds → DpAll K H vs.reverse ds.reverse
  | _, _, .nil => .nil
  | _, _, .cons a b => by
    rw [List.reverse_cons, List.reverse_cons]
    exact dps_app (dps_rev b) (.cons a .nil)
theorem dps_get : ∀ {vs : List V} {ds : List PyData} {i : Nat} {v : V}, DpAll K H vs ds → vs[i]? = some v → ∃ d, ds[i]? = some d ∧ Dp K H v d
  | _, _, _, _, .nil, h => by simp at h
  | _, _, 0, _, .cons a _, h => ⟨_, rfl, (Option.some.inj h) ▸ a⟩
  | _, _, i + 1, _, .cons _ t, h => dps_get (i := i) t (by simpa using h)
end
/-! ### how great -/
def Atm : PyData → Prop
  | .none | .bool _ => True
  | .int i => i.natAbs < 10 ^ 62
  | .str z => NmOk z ∧ z.length ≤ 8
  | _ => False
def Gd (b : Nat) : Nat → PyData → Prop
  | 0, d => Atm d
  | n + 1, d => Atm d ∨ ∃ ds, (d = .tuple ds ∨ d = .list ds) ∧ ds.length ≤ b ∧ ∀ x ∈ ds, Gd b n x
theorem Gd.atm {b : Nat} {d : PyData} (h : Atm d) : ∀ n, Gd b n d
  | 0 => h
  | _ + 1 => .inl h
theorem Gd.mono {b c : Nat} (l : b ≤ c) : ∀ {n k : Nat} {d : PyData}, n ≤ k → Gd b n d → Gd c k d
  | 0, k, d, _, h => .atm h k
  | n + 1, 0, d, hk, _ => absurd hk (Nat.not_succ_le_zero n)
  | n + 1, k + 1, d, hk, .inl h => .inl h
  | n + 1, k + 1, d, hk, .inr ⟨ds, e, len, all⟩ => .inr ⟨ds, e, Nat.le_trans len l, fun x hx => Gd.mono l (Nat.le_of_succ_le_succ hk) (all x hx)⟩
theorem Gd.tup {b n : Nat} {ds : List PyData} (len : ds.length ≤ b) (all : ∀ x ∈ ds, Gd b n x) : Gd b (n + 1) (.tuple ds) := .inr ⟨ds, .inl rfl, len, all⟩
theorem Gd.lst {b n : Nat} {ds : List PyData} (len : ds.length ≤ b) (all : ∀ x ∈ ds, Gd b n x) : Gd b (n + 1) (.list ds) := .inr ⟨ds, .inr rfl, len, all⟩
theorem Gd.untup {b n : Nat} {ds : List PyData} (h : Gd b n (.tuple ds)) : ∃ k, n = k + 1 ∧ ds.length ≤ b ∧ ∀ x ∈ ds, Gd b k x := by
  cases n with
  | zero => exact h.elim
  | succ k =>
    rcases h with h | ⟨es, e | e, len, all⟩
    · exact h.elim
    · injection e with e
      subst e
      exact ⟨k, rfl, len, all⟩
    · cases e
/-- how long the text of one is at most -/
def LL (b : Nat) : Nat → Nat
  | 0 => 90
  | n + 1 => b * LL b n + 2 * b + 90
theorem LL_ge (b : Nat) : ∀ n, 90 ≤ LL b n
  | 0 => Nat.le_refl 90
  | n + 1 => Nat.le_add_left 90 _
structure Fit (d : PyData) (n m : Nat) : Prop where
  lay : d.canLay0 = true
  show_ : d.showable = true
  dict : d.hasDict = false
  deep : d.depth ≤ n
  len : d.shown.length ≤ m
theorem fit_all {n m : Nat} : ∀ ds : List PyData, (∀ x ∈ ds, Fit x n m) → PyData.canLayAll0 ds = true ∧ PyData.showableAll ds = true ∧ PyData.hasDictAll ds = false ∧ PyData.depthAll ds ≤ n ∧ ((PyData.shownAll ds).map (·.length)).sum ≤ ds.length * m ∧ (PyData.shownAll ds).length = ds.length
  | [], _ => ⟨rfl, rfl, rfl, Nat.zero_le _, Nat.zero_le _, rfl⟩
  | d :: ds, h => by
    obtain ⟨a1, a2, a3, a4, a5, a6⟩ := fit_all ds fun x hx => h x (List.mem_cons_of_mem _ hx)
    obtain ⟨b1, b2, b3, b4, b5⟩ := h d List.mem_cons_self
    refine ⟨?_, ?_, ?_, ?_, ?_, ?_⟩
    · show (d.canLay0 && PyData.canLayAll0 ds) = true
      rw [b1, a1]
      rfl
    · show (d.showable && PyData.showableAll ds) = true
      rw [b2, a2]
      rfl
    · show (d.hasDict || PyData.hasDictAll ds) = false
      rw [b3, a3]
      rfl
    · show max d.depth (PyData.depthAll ds) ≤ n
      omega
    · show d.shown.length + ((PyData.shownAll ds).map (·.length)).sum ≤ (ds.length + 1) * m
      rw [Nat.succ_mul]
      omega
    · show (PyData.shownAll ds).length + 1 = ds.length + 1
      rw [a6]
theorem fit_atm {d : PyData} (h : Atm d) : Fit d 0 90 := by
  cases d with
  | none => exact ⟨rfl, rfl, rfl, Nat.le_refl 0, by decide +kernel⟩
  | bool b => exact ⟨rfl, rfl, rfl, Nat.le_refl 0, by cases b <;> decide +kernel⟩
  | int i =>
    refine ⟨rfl, decide_eq_true ?_, rfl, Nat.le_refl 0, ?_⟩
    · by_cases z : i.natAbs = 0
      · rw [z]
        decide
      · refine (Nat.log2_lt z).2 ?_
        exact Nat.lt_of_lt_of_le h (Nat.le_trans (show 10 ^ 62 ≤ 2 ^ 208 by decide) (Nat.pow_le_pow_right (by decide) (by decide)))
    · have e := int_text_length_le10 (k := 62) (by decide) h
      show (Str.ofString (toString i)).length ≤ 90
      rw [PySem.ofString_length]
      exact Nat.le_trans e (by decide)
  | str z =>
    obtain ⟨h1, h2⟩ := h
    refine ⟨h1, rfl, rfl, Nat.le_refl 0, ?_⟩
    have all : ∀ c ∈ z.cps.toList, c < 16 ^ 8 := fun c hc => by
      have q := (Array.all_eq_true_iff_forall_mem.mp h1) c (Array.mem_toList_iff.mp hc)
      have q2 : c < 0x110000 := by simpa using q
      exact Nat.lt_of_lt_of_le q2 (by decide)
    have y := StrLaws.reprText_len z all
    have e : (PyData.shown (.str z)).length = (reprText z).length := rfl
    rw [e]
    omega
  | list _ => exact h.elim
  | tuple _ => exact h.elim
  | dict _ => exact h.elim
theorem Fit.mono {d : PyData} {n m n2 m2 : Nat} (h : Fit d n m) (a : n ≤ n2) (b : m ≤ m2) : Fit d n2 m2 := ⟨h.lay, h.show_, h.dict, Nat.le_trans h.deep a, Nat.le_trans h.len b⟩
theorem fit_gd {b : Nat} : ∀ {n : Nat} {d : PyData}, Gd b n d → Fit d n (LL b n)
  | 0, d, h => fit_atm h
  | n + 1, d, .inl h => (fit_atm h).mono (Nat.zero_le _) (LL_ge b _)
  | n + 1, d, .inr ⟨ds, e, len, all⟩ => by
    obtain ⟨a1, a2, a3, a4, a5, a6⟩ := fit_all ds fun x hx => fit_gd (all x hx)
    have l1 := listText_len_le (PyData.shownAll ds)
    have l2 := tupleText_len_le (PyData.shownAll ds)
    have l3 : ds.length * LL b n ≤ b * LL b n := Nat.mul_le_mul_right _ len
    have e9 : LL b (n + 1) = b * LL b n + 2 * b + 90 := rfl
    rcases e with e | e
    · subst e
      refine ⟨a1, a2, a3, Nat.succ_le_succ a4, ?_⟩
      show (tupleText (PyData.shownAll ds)).length ≤ _
      omega
    · subst e
      refine ⟨a1, a2, a3, Nat.succ_le_succ a4, ?_⟩
      show (listText (PyData.shownAll ds)).length ≤ _
      omega
theorem gd_shaped {b n : Nat} {d : PyData} (h : Gd b n d) (l : n ≤ 64) : SeqAt.shaped d = true := by
  have f := fit_gd h
  show (d.canLay0 && decide (d.depth ≤ 64)) = true
  rw [f.lay, decide_eq_true (Nat.le_trans f.deep l)]
  rfl
theorem gd_repr {n : Nat} {d : PyData} (h : Gd 4 n d) (l : n ≤ 8) : d.showable = true ∧ d.hasDict = false ∧ d.depth ≤ 60 ∧ d.shown.length ≤ sizeLine := by
  have f := fit_gd (h.mono (Nat.le_refl 4) l)
  exact ⟨f.show_, f.dict, Nat.le_trans f.deep (by decide), Nat.le_trans f.len (by decide +kernel)⟩
end Kf
set_option Elab.async false
set_option linter.all false
set_option maxRecDepth 100000
set_option maxHeartbeats 8000000
set_option pp.maxSteps 1200
/-! k24: drawn worths. -/
namespace Kf
open PySem PySem.Spec PyProof.Rows L2 Sx
abbrev sWorthL : Stmt := top 10
theorem scWorthL : FnScope ["dice", "kind", "k"] ["dice", "kind"] (defScope sWorthL) := ⟨rfl, rfl, rfl, by decide +kernel, rfl, by decide +kernel, by decide +kernel⟩
section
variable {P : Program} {w : World} {K : PySem.W.Frag} {mg : Str → Option Value} {base : Heap}
def cw (n : Nat) : Int := 4 * 2 ^ n
def OutW (K : PySem.W.Frag) (S : List Addr) (p L : Addr) (H : Hp) (n : Nat) (m : Int) (Q : VK) : Prop := ∀ v d H', Df K S H' v d → Gd 2 (n - 1) d → But p H H' → DiceAt H' p L m → Q v H'
def spWorthL (K : PySem.W.Frag) (n : Nat) : Sp := fun vs H Q _ => ∃ (p L : Addr) (Z : List Addr) (v1 : V) (t : Tr) (m : Int), p ∈ Z ∧ LS H Z ∧ vs = [.ref p, v1] ∧ At H t v1 ∧ t.Kd ∧ t.deep ≤ n ∧ m + cw n < 2 ^ 50 ∧ DiceAt H p L m ∧ OutW K Z p L H n (m + cw n) Q
theorem ok_worthL {f fr fp : Addr} {fd dr dp : FuncData} {n : Nat} (F : Fun K "_law_worth" "_law_worth" sWorthL f fd) (D : Draw P w K mg base fr fp dr dp) (S : FnOk P w K mg base CX0 (2 + n) f fd ["dice", "kind"] (spWorthL K n)) (bS : Binds K fd ["dice", "kind"] []) (mS : mg "_law_worth" = some (.ref f)) :
    FnOk P w K mg base CX0 (2 + n + 1) f fd ["dice", "kind"] (spWorthL K (n + 1)) := by
  refine F.ok scWorthL (fun vs H Q E h => ?_) (fun cdv A outer s H vs Q E hr h => ?_)
  · obtain ⟨p, L, Z, v1, t, m, _, _, rfl, _⟩ := h
    rfl
  obtain ⟨p, L, Z, v1, t, m, pS, lS, rfl, hA, hK, hd, mc, hD, q⟩ := h
  have h1 : Room 1 _ := hr.mono (by omega)
  have h2 : Room 2 _ := hr.mono (by omega)
  have z1 : (1 : Int) ≤ 2 ^ n := Int.one_le_two_pow_ n
  have cs : cw (n + 1) = cw n + cw n := by
    unfold cw
    rw [Int.pow_succ]
    omega
  have c0 : 4 ≤ cw n := by
    unfold cw
    omega
  refine ⟨_, pss_cons (ps_if (pt_cmpR op_eq (pe_ix ix_tup (pv 1) pe_int (fun _ _ => rfl)) pe_str (nomark _)) (pss_one (ps_ret pe_non)) pss_nil)
    (pss_cons (ps_if (pt_cmpR op_eq (pe_ix ix_tup (pv 1) pe_int (fun _ _ => rfl)) pe_str (nomark _)) (pss_one (ps_ret (pe_call D.Pk h2 (by rfl) D.mP D.kP D.bP .nil pass0 (pa_cons (pv 0) (pa_cons (pe_lst (pa_cons pe_int (pa_cons (pe_call D.R h1 (by rfl) D.mR D.kR D.bR .nil pass0 (pa_cons (pv 0) (pa_cons pe_int pa_nil))) (pa_cons (pe_op op_sub (pe_op op_pow pe_int pe_int) pe_int)
      (pa_cons (pe_call D.R h1 (by rfl) D.mR D.kR D.bR .nil pass0 (pa_cons (pv 0) (pa_cons (pe_op op_pow pe_int pe_int) pa_nil))) pa_nil))))) pa_nil))))) pss_nil)
    (pss_cons (ps_if (pt_cmpR op_eq (pe_ix ix_tup (pv 1) pe_int (fun _ _ => rfl)) pe_str (nomark _)) (pss_one (ps_ret (pe_tup (pa_cons (pe_call S hr (by rfl) mS F.kp bS .nil pass0 (pa_cons (pv 0) (pa_cons (pe_ix ix_tup (pv 1) pe_int (fun _ _ => rfl)) pa_nil)))
      (pa_cons (pe_call S hr (by rfl) mS F.kp bS .nil pass0 (pa_cons (pv 0) (pa_cons (pe_ix ix_tup (pv 1) pe_int (fun _ _ => rfl)) pa_nil))) pa_nil))))) pss_nil)
    (pss_cons (ps_set (i := 2) scWorthL.nd rfl (.inl rfl) (pe_call D.R h1 (by rfl) D.mR D.kR D.bR .nil pass0 (pa_cons (pv 0) (pa_cons pe_int pa_nil))))
    (pss_one (ps_ret (pe_tup (pa_cons (pe_ix ix_list (pe_lst (pa_cons pe_str (pa_cons pe_str pa_nil))) (pv 2) (fun _ _ => rfl)) (pa_cons (pe_call S hr (by rfl) mS F.kp bS .nil pass0 (pa_cons (pv 0) (pa_cons (pe_ix ix_tup (pv 1) (pe_op op_add pe_int (pv 2)) (fun _ _ => rfl)) pa_nil))) pa_nil)))))))), ?_⟩
  cases t with
  | leaf _ _ => exact hK.elim
  | n1 _ _ => exact hK.elim
  | n0 w0 =>
    obtain ⟨p1, rfl, hp⟩ := hA
    refine ⟨_, rfl, p1, _, 0, _, rfl, rfl, .inl (.inl hp), head_at _ _, rfl, _, rfl, ?_⟩
    rcases (show w0 = "none" ∨ w0 = "number" from hK) with e | e
    · subst e
      exact same_wd (q .non .none H .non (Gd.atm (d := .none) trivial _) (But.refl p H) (hD.more (by omega)))
    · subst e
      refine other_wd (by decide +kernel) ⟨_, rfl, p1, _, 0, _, rfl, rfl, .inl (.inl hp), head_at _ _, rfl, _, rfl, ?_⟩
      refine same_wd ⟨_, rfl, _, rfl, p, L, 9, m, rfl, by decide, by decide, by omega, hD, fun r1 H1 r10 r11 b1 hD1 => ?_⟩
      refine ⟨_, _, rfl, rfl, ⟨by decide, by decide, by decide⟩, _, _, rfl, rfl, ?_⟩
      refine ⟨_, rfl, _, _, rfl, rfl, ⟨by decide, by decide, by decide⟩, p, L, 10 ^ 59, m + 1, rfl, by decide, by decide, by omega, hD1, fun r2 H2 r20 r21 b2 hD2 => ?_⟩
      refine ⟨(by show 4 ≤ sizeLine; decide), fun l nl => ?_⟩
      have hD3 := hD2.same (same_new (o := .lst [.int 0, .int r1, .int (10 ^ 60 - 1), .int r2]) nl)
      have nlp := hD2.ne nl
      refine ⟨p, l, L, _, m + 1 + 1, rfl, .inl (.inl upd_same), nlp, (by show 0 < 4; decide), (by show 4 ≤ 1000; decide), by omega, hD3, fun x mem H' b hD' => ?_⟩
      have whl : ∃ i : Int, x = .int i ∧ 0 ≤ i ∧ i < 10 ^ 60 := by
        rcases List.mem_cons.mp mem with rfl | mem
        · exact ⟨0, rfl, by decide, by decide⟩
        rcases List.mem_cons.mp mem with rfl | mem
        · exact ⟨r1, rfl, r10, Int.lt_trans r11 (by decide)⟩
        rcases List.mem_cons.mp mem with rfl | mem
        · exact ⟨10 ^ 60 - 1, rfl, by decide, by decide⟩
        · rw [List.mem_singleton.mp mem]
          exact ⟨r2, rfl, r20, Int.lt_trans r21 (by decide)⟩
      obtain ⟨i, rfl, i0, i1⟩ := whl
      refine q (.int i) (.int i) H' (.int i) (.atm ?_ _) (((b1.trans b2).new nl).trans b) (hD'.more (by omega))
      show i.natAbs < 10 ^ 62
      have : i.natAbs < 10 ^ 60 := by omega
      exact Nat.lt_trans this (by decide)
  | n2 w0 ta tb =>
    obtain ⟨ew, ka, kb⟩ := hK
    obtain ⟨p1, xa, xb, rfl, hp, aa, ab⟩ := hA
    have n1 : w0 ≠ "none" := by rcases ew with e | e <;> rw [e] <;> decide +kernel
    have n2 : w0 ≠ "number" := by rcases ew with e | e <;> rw [e] <;> decide +kernel
    have da : ta.deep ≤ n ∧ tb.deep ≤ n := by
      have z : max ta.deep tb.deep + 1 ≤ n + 1 := hd
      omega
    have n1' : n - 1 + 1 ≤ n + 1 - 1 := by
      have z := deep_pos ta
      omega
    refine ⟨_, rfl, p1, _, 0, _, rfl, rfl, .inl (.inl hp), head_at _ _, rfl, _, rfl, ?_⟩
    refine other_wd n1 ⟨_, rfl, p1, _, 0, _, rfl, rfl, .inl (.inl hp), head_at _ _, rfl, _, rfl, ?_⟩
    refine other_wd n2 ⟨_, rfl, p1, _, 0, _, rfl, rfl, .inl (.inl hp), head_at _ _, rfl, _, rfl, ?_⟩
    rcases ew with e | e
    · subst e
      refine same_wd ⟨_, rfl, _, rfl, p1, _, 1, _, rfl, rfl, .inl (.inl hp), atI_nat (j := 1) rfl, p, L, Z, xa, ta, m, pS, lS, rfl, aa, ka, da.1, by omega, hD, fun v2 d2 H2 g2 s2 b2 hD2 => ?_⟩
      have k2 := hD.tups b2
      refine ⟨_, rfl, _, rfl, p1, _, 2, _, rfl, rfl, .inl (.inl (k2 _ _ hp)), atI_nat (j := 2) rfl, p, L, Z, xb, tb, m + cw n, pS, lS.but b2 hD2, rfl, ab.keep k2, kb, da.2, by omega, hD2, fun v3 d3 H3 g3 s3 b3 hD3 => ?_⟩
      refine ⟨(by show 2 ≤ sizeLine; decide), fun t nt => ?_⟩
      have sn := same_new (o := .tup [v2, v3]) nt
      have hD4 := hD3.same sn
      refine q _ (.tuple [d2, d3]) _ (df_tup (lS.but ((b2.trans b3).new nt) hD4) (.inl (.inl upd_same)) (.cons ((g2.but pS b3).same sn) (.cons (g3.same sn) .nil))) (Gd.mono (Nat.le_refl 2) n1' (.tup (by show 2 ≤ 2; decide) (fun x hx => ?_))) ((b2.trans b3).new nt) (hD4.more (by omega))
      rcases List.mem_cons.mp hx with rfl | hx
      · exact s2
      · rw [List.mem_singleton.mp hx]
        exact s3
    · subst e
      refine other_wd (by decide +kernel) ⟨_, rfl, p, L, 2, m, rfl, by decide, by decide, by omega, hD, fun k H1 k0 k1 b1 hD1 => ?_⟩
      have kk : k = 0 ∨ k = 1 := by omega
      have s3 := hD.tups b1
      refine ⟨(by show 2 ≤ sizeLine; decide), fun l nl => ?_⟩
      have sn := same_new (o := .lst [.str "this", .str "that"]) nl
      have hD2 := hD1.same sn
      have end_ : ∀ (z : Str) (tk : Tr) (xk : V), NmOk z ∧ z.length ≤ 8 → OutW K Z p L (upd H1 l (.lst [.str "this", .str "that"])) n (m + 1 + cw n) fun v H' => (2 : Nat) ≤ sizeLine ∧ ∀ t, H' t = none → Q (.ref t) (upd H' t (.tup [.str z, v])) := fun z tk xk hz v d H' g s b hD' => by
        refine ⟨by decide, fun t nt => ?_⟩
        have sm := same_new (o := .tup [.str z, v]) nt
        have hD4 := hD'.same sm
        refine q _ (.tuple [.str z, d]) _ (df_tup (lS.but (((b1.new nl).trans b).new nt) hD4) (.inl (.inl upd_same)) (.cons (.str z) (.cons (g.same sm) .nil))) (Gd.mono (Nat.le_refl 2) n1' (.tup (by show 2 ≤ 2; decide) (fun x hx => ?_))) (((b1.new nl).trans b).new nt) (hD4.more (by omega))
        rcases List.mem_cons.mp hx with rfl | hx
        · exact Gd.atm (d := .str z) hz _
        · rw [List.mem_singleton.mp hx]
          exact s
      rcases kk with rfl | rfl
      · refine ⟨_, rfl, l, _, 0, _, rfl, rfl, .inl (.inl upd_same), head_at _ _, _, rfl, _, rfl, _, rfl, _, _, rfl, rfl, p1, _, 1, xa, rfl, rfl, .inl (.inl (sn _ _ (s3 _ _ hp))), atI_nat (j := 1) rfl, p, L, Z, xa, ta, m + 1, pS, lS.but (b1.new nl) hD2, rfl, (aa.keep s3).keep (tups_same sn), ka, da.1, by omega, hD2, ?_⟩
        exact end_ "this" ta xa (by decide +kernel)
      · refine ⟨_, rfl, l, _, 1, _, rfl, rfl, .inl (.inl upd_same), atI_nat (j := 1) rfl, _, rfl, _, rfl, _, rfl, _, _, rfl, rfl, p1, _, 2, xb, rfl, rfl, .inl (.inl (sn _ _ (s3 _ _ hp))), atI_nat (j := 2) rfl, p, L, Z, xb, tb, m + 1, pS, lS.but (b1.new nl) hD2, rfl, (ab.keep s3).keep (tups_same sn), kb, da.2, by omega, hD2, ?_⟩
        exact end_ "that" tb xb (by decide +kernel)
theorem ok_worthLs {f fr fp : Addr} {fd dr dp : FuncData} (F : Fun K "_law_worth" "_law_worth" sWorthL f fd) (D : Draw P w K mg base fr fp dr dp) (bS : Binds K fd ["dice", "kind"] []) (mS : mg "_law_worth" = some (.ref f)) : ∀ n : Nat, FnOk P w K mg base CX0 (2 + n) f fd ["dice", "kind"] (spWorthL K n)
  | 0 => no_calls fun vs H Q E h => by
    obtain ⟨p, L, Z, v1, t, m, _, _, _, _, _, dn, _⟩ := h
    have := deep_pos t
    omega
  | n + 1 => ok_worthL F D (ok_worthLs F D bS mS n) bS mS
end
end Kf
set_option Elab.async false
set_option linter.all false
set_option maxRecDepth 100000
set_option maxHeartbeats 8000000
set_option pp.maxSteps 1200
/-! k24: a piece otherwise. -/
namespace Kf
open PySem PySem.Spec PyProof.Rows L2 Sx
abbrev sSpoilt : Stmt := top 12
theorem scSpoilt : FnScope ["dice", "thing", "k", "some"] ["dice", "thing"] (defScope sSpoilt) := ⟨rfl, rfl, rfl, by decide +kernel, rfl, by decide +kernel, by decide +kernel⟩
section
variable {P : Program} {w : World} {K : PySem.W.Frag} {mg : Str → Option Value} {base : Heap}
theorem cut_whole {xs : List V} {lo hi : Option Int} (h : HT.sIx xs.length 0 lo = 0 ∧ HT.sIx xs.length xs.length hi = xs.length) : cutV xs lo hi = xs := by
  unfold cutV
  rw [h.1, h.2]
  simp
theorem sl_out {x : V} {a : Addr} {xs : List V} {lo hi : Option Int} {H : Hp} {Q : VK} (ex : x = .ref a) (h : SqT K H a xs) (q : ∀ b H', Same H H' → SqT K H' b (cutV xs lo hi) → Q (.ref b) H') : rSlA K x lo hi H Q := by
  refine ⟨a, xs, ex, h, fun e => q a H (fun _ _ e => e) (by rw [cut_whole e]; exact h), fun _ b nb => q b _ (same_new nb) (.inl (.inl upd_same))⟩
theorem cat_out {a b : Addr} {xs ys : List V} {H : Hp} {Q : VK} (h : SqT K H a xs) (g : SqT K H b ys) (len : xs.length + ys.length ≤ sizeLine) (q : ∀ c H', Same H H' → SqT K H' c (xs ++ ys) → Q (.ref c) H') : rCatA K (.ref a) (.ref b) H Q := by
  refine ⟨a, b, xs, ys, rfl, rfl, h, g, len, fun e => ?_, fun _ e => ?_, fun _ _ c nc => q c _ (same_new nc) (.inl (.inl upd_same))⟩
  · subst e
    exact q b H (fun _ _ e => e) g
  · subst e
    exact q a H (fun _ _ e => e) (by rw [List.append_nil]; exact h)
def Its (K : PySem.W.Frag) (U : List Addr) (H : Hp) (b n : Nat) (xs : List V) : Prop := ∀ x ∈ xs, ∃ d, Df K U H x d ∧ Gd b n d
theorem Its.but {p : Addr} {U : List Addr} {H H' : Hp} {b n : Nat} {xs : List V} (pS : p ∈ U) (c : But p H H') (h : Its K U H b n xs) : Its K U H' b n xs := fun x hx => by
  obtain ⟨d, a, g⟩ := h x hx
  exact ⟨d, a.but pS c, g⟩
theorem Its.cons {U : List Addr} {H : Hp} {b n : Nat} {x : V} {xs : List V} {d : PyData} (a : Df K U H x d) (g : Gd b n d) (h : Its K U H b n xs) : Its K U H b n (x :: xs) := fun y hy => by
  rcases List.mem_cons.mp hy with rfl | hy
  · exact ⟨d, a, g⟩
  · exact h y hy
theorem Its.nil {U : List Addr} {H : Hp} {b n : Nat} : Its K U H b n [] := fun x hx => (List.not_mem_nil hx).elim
theorem Its.app {U : List Addr} {H : Hp} {b n : Nat} {xs ys : List V} (h : Its K U H b n xs) (g : Its K U H b n ys) : Its K U H b n (xs ++ ys) := fun x hx => (List.mem_append.mp hx).elim (h x) (g x)
theorem cut_to {xs : List V} {k : Nat} : cutV xs none (some (k : Int)) = xs.take k := by
  unfold cutV
  rw [HT.sIx_none, HT.sIx_nat, List.drop_zero, Nat.sub_zero]
  rcases Nat.le_total k xs.length with h | h
  · rw [Nat.min_eq_left h]
  · rw [Nat.min_eq_right h, List.take_length, List.take_of_length_le h]
theorem cut_from {xs : List V} {k : Nat} : cutV xs (some (k : Int)) none = xs.drop k := by
  unfold cutV
  rw [HT.sIx_none, HT.sIx_nat]
  rcases Nat.le_total k xs.length with h | h
  · rw [Nat.min_eq_left h]
    exact List.take_of_length_le (by rw [List.length_drop]; exact Nat.le_refl _)
  · rw [Nat.min_eq_right h, Nat.sub_self, List.take_zero, List.drop_of_length_le h]
def cutD (xs : List PyData) (lo hi : Option Int) : List PyData := (xs.drop (HT.sIx xs.length 0 lo)).take (HT.sIx xs.length xs.length hi - HT.sIx xs.length 0 lo)
theorem cutD_len (xs : List PyData) (lo hi : Option Int) : (cutD xs lo hi).length ≤ xs.length := by
  unfold cutD
  rw [List.length_take, List.length_drop]
  omega
theorem cutD_mem {xs : List PyData} {lo hi : Option Int} {x : PyData} (h : x ∈ cutD xs lo hi) : x ∈ xs := List.mem_of_mem_drop (List.mem_of_mem_take h)
theorem dps_cut {H : Hp} {xs : List V} {ds : List PyData} {lo hi : Option Int} (h : DpAll K H xs ds) : DpAll K H (cutV xs lo hi) (cutD ds lo hi) := by
  unfold cutV cutD
  rw [dps_len h]
  exact dps_take _ (dps_drop _ h)
theorem sqT_put {H : Hp} {a c : Addr} {xs l : List V} {o : HO} (h : SqT K H a xs) (e : H c = some (.lst l)) : SqT K (upd H c o) a xs := by
  rcases h with (h | ⟨o2, h⟩) | h
  · have n : a ≠ c := fun z => by
      rw [z, e] at h
      cases h
    exact .inl (.inl (by rw [upd_ne n]; exact h))
  · have n : a ≠ c := fun z => by
      rw [z, e] at h
      cases h
    exact .inl (.inr ⟨o2, by rw [upd_ne n]; exact h⟩)
  · exact .inr h
theorem few_len {n : Nat} (h : n ≤ 100) : n ≤ sizeLine := Nat.le_trans h (by decide)
theorem _root_.L2.SqT.but {p a L : Addr} {m : Int} {H H' : Hp} {xs : List V} (h : SqT K H a xs) (hD : DiceAt H p L m) (b : But p H H') : SqT K H' a xs := by
  obtain ⟨x, n, r, cs, e, _⟩ := hD
  rcases h with (h | ⟨o, h⟩) | h
  · exact .inl (.inl (b _ _ (fun z => by rw [z, e] at h; cases h) h))
  · exact .inl (.inr ⟨o, b _ _ (fun z => by rw [z, e] at h; cases h) h⟩)
  · exact .inr h
theorem LS.same {H H' : Hp} {S : List Addr} (h : LS H S) (b : Same H H') : LS H' S := fun a ha => by
  obtain ⟨xs, e⟩ := h a ha
  exact ⟨xs, b _ _ e⟩
theorem gd_tup0 {b n : Nat} : Gd b (n + 1) (.tuple []) := .tup (Nat.zero_le _) fun x hx => (List.not_mem_nil hx).elim
theorem gd_lst0 {b n : Nat} : Gd b (n + 1) (.list []) := .lst (Nat.zero_le _) fun x hx => (List.not_mem_nil hx).elim
theorem gd_tup1 {b n : Nat} {x : PyData} (l : 1 ≤ b) (hx : Gd b n x) : Gd b (n + 1) (.tuple [x]) := .tup l fun z hz => by
  rw [List.mem_singleton.mp hz]
  exact hx
theorem gd_tup2 {b n : Nat} {x y : PyData} (l : 2 ≤ b) (hx : Gd b n x) (hy : Gd b n y) : Gd b (n + 1) (.tuple [x, y]) := .tup l fun z hz => by
  rcases List.mem_cons.mp hz with rfl | hz
  · exact hx
  · rw [List.mem_singleton.mp hz]
    exact hy
theorem gd_lst2 {b n : Nat} {x y : PyData} (l : 2 ≤ b) (hx : Gd b n x) (hy : Gd b n y) : Gd b (n + 1) (.list [x, y]) := .lst l fun z hz => by
  rcases List.mem_cons.mp hz with rfl | hz
  · exact hx
  · rw [List.mem_singleton.mp hz]
    exact hy
def cs (n : Nat) : Int := 3 * ((n : Int) + 1)
def spSp (K : PySem.W.Frag) (k : Nat) : Sp := fun vs H Q _ => ∃ (p L : Addr) (U : List Addr) (v : V) (d : PyData) (b n : Nat) (m : Int), p ∈ U ∧ LS H U ∧ vs = [.ref p, v] ∧ Df K U H v d ∧ Gd b n d ∧ 2 ≤ b ∧ b ≤ 10 ∧ n + 1 ≤ k ∧ n ≤ 60 ∧ m + cs n < 2 ^ 50 ∧ DiceAt H p L m ∧
  ∀ v' d' H', Df K U H' v' d' → Gd (b + 1) (n + 2) d' → But p H H' → DiceAt H' p L (m + cs n) → Q v' H'
theorem ok_sp {f fr fp : Addr} {fd dr dp : FuncData} {k : Nat} (F : Fun K "_law_spoilt" "_law_spoilt" sSpoilt f fd) (D : Draw P w K mg base fr fp dr dp) (T : Blt mg) (zl : mg "list" = none) (S : FnOk P w K mg base CX0 (2 + k) f fd ["dice", "thing"] (spSp K k)) (bS : Binds K fd ["dice", "thing"] []) (mS : mg "_law_spoilt" = some (.ref f)) :
    FnOk P w K mg base CX0 (2 + k + 1) f fd ["dice", "thing"] (spSp K (k + 1)) := by
  refine F.ok scSpoilt (fun vs H Q E h => ?_) (fun cdv A outer s H vs Q E hr h => ?_)
  · obtain ⟨p, L, U, v, d, b, n, m, _, _, rfl, _⟩ := h
    rfl
  obtain ⟨p, L, U, v, d, b, n, m, pS, lS, rfl, hd, gd, b2, b10, nk, n60, mc, hD, q⟩ := h
  have h1 : Room 1 _ := hr.mono (by omega)
  have h2 : Room 2 _ := hr.mono (by omega)
  have u1 : (A.deeper (envOfC "_law_spoilt" (defScope sSpoilt) s.heap.objs.size f cdv)).units + 64 < cLine := by
    have := hr.units
    omega
  refine ⟨_, pss_cons (ps_if (PW.pt (pw_and (pt_val (pe_callB call_isi (by rfl) T.zIs (by decide +kernel) (pa_cons (pv 1) (pa_cons (pe_bltn (v := .ty "tuple") (by rfl) T.zTuple (by decide +kernel) rfl) pa_nil))))
      (pw_and (pt_cmpR (op_neD u1) (pv 1) (pe_tup pa_nil) (nomark _)) (pw_and1 (pt_cmpR op_gt (pe_call D.R h1 (by rfl) D.mR D.kR D.bR .nil pass0 (pa_cons (pv 0) (pa_cons pe_int pa_nil))) pe_int (nomark _))))))
      (pss_cons (ps_set (i := 2) scSpoilt.nd rfl (.inl rfl) (pe_call D.R h1 (by rfl) D.mR D.kR D.bR .nil pass0 (pa_cons (pv 0) (pa_cons (pe_callB call_len_seq (by rfl) T.zLen PySem.boot_len (pa_cons (pv 1) pa_nil)) pa_nil))))
      (pss_one (ps_ret (pe_op op_catA (pe_op op_catA (pe_slice sl_tupA (pv 1) po_none (po_some (pv 2))) (pe_tup (pa_cons (pe_call S hr (by rfl) mS F.kp bS .nil pass0 (pa_cons (pv 0) (pa_cons (pe_ix ix_tup (pv 1) (pv 2) (fun _ _ => rfl)) pa_nil))) pa_nil)))
        (pe_slice sl_tupA (pv 1) (po_some (pe_op op_add (pv 2) pe_int)) po_none))))) pss_nil)
    (pss_cons (ps_set (i := 3) scSpoilt.nd rfl (.inl rfl) (pe_lst (pa_cons pe_non (pa_cons pe_int (pa_cons (pe_op op_sub pe_int pe_int) (pa_cons pe_bl (pa_cons pe_bl (pa_cons (pe_op op_pow pe_int pe_int) (pa_cons (pe_op op_sub (pe_op op_pow pe_int pe_int) pe_int) (pa_cons pe_str (pa_cons pe_str (pa_cons pe_str (pa_cons pe_str
      (pa_cons (pe_tup pa_nil) (pa_cons (pe_lst pa_nil) (pa_cons (pe_tup (pa_cons pe_int (pa_cons pe_int pa_nil))) pa_nil))))))))))))))))
    (pss_cons (ps_set (i := 3) scSpoilt.nd rfl (.inl rfl) (pe_op op_cat (pv 3) (pe_lst (pa_cons (pe_tup (pa_cons pe_str (pa_cons pe_non pa_nil))) (pa_cons (pe_tup (pa_cons pe_str pa_nil)) (pa_cons (pe_tup (pa_cons pe_non (pa_cons pe_non pa_nil))) (pa_cons pe_str
      (pa_cons (pe_tup (pa_cons pe_str (pa_cons pe_str pa_nil))) (pa_cons (pe_lst (pa_cons pe_int (pa_cons pe_int pa_nil))) (pa_cons (pe_tup (pa_cons pe_str (pa_cons (pe_tup (pa_cons pe_int (pa_cons pe_int pa_nil))) pa_nil))) (pa_cons pe_int pa_nil)))))))))))
    (pss_cons (ps_if (pt_val (pe_callB call_isi (by rfl) T.zIs (by decide +kernel) (pa_cons (pv 1) (pa_cons (pe_bltn (v := .ty "tuple") (by rfl) T.zTuple (by decide +kernel) rfl) pa_nil))))
      (pss_cons (ps_set (i := 3) scSpoilt.nd rfl (.inl rfl) (pe_op op_cat (pv 3) (pe_lst (pa_cons (pe_callTy call_list_of (by rfl) zl (by decide +kernel) (pa_cons (pv 1) pa_nil)) (pa_cons (pe_op op_catA (pv 1) (pe_tup (pa_cons pe_int pa_nil))) (pa_cons (pe_slice sl_tupA (pv 1) po_none (po_some (pe_un un_neg pe_int)))
        (pa_cons (pe_revT (pv 1)) (pa_cons (pe_op op_catA (pe_tup (pa_cons pe_str pa_nil)) (pe_slice sl_tupA (pv 1) (po_some pe_int) po_none)) pa_nil))))))))
      (pss_one (ps_expr (pe_bm PySem.F.plainAttrs_list PySem.F.slot_list_append PySem.F.type_list_append mt_append (pv 3) (pa_cons (pe_op op_catA (pe_tup (pa_cons pe_str pa_nil)) (pe_slice sl_tupA (pv 1) (po_some pe_int) po_none)) pa_nil))))) pss_nil)
    (pss_one (ps_ret (pe_call D.Pk h2 (by rfl) D.mP D.kP D.bP .nil pass0 (pa_cons (pv 0) (pa_cons (pv 3) pa_nil)))))))), ?_⟩
  refine ⟨_, rfl, _, _, _, _, isTu d, rfl, .ty "tuple", dp_ty hd.dp, kit_tu d, _, rfl, ?_⟩
  have n1_ : (cs n : Int) = 3 * ((n : Int) + 1) := rfl
  apply join (C := fun X => ∃ mm, But p H X ∧ DiceAt X p L mm ∧ mm ≤ m + 1)
  · intro rest
    cases ht : isTu d with
    | true =>
      obtain ⟨ds, ed⟩ : ∃ ds, d = .tuple ds := by
        cases d with
        | tuple ds => exact ⟨ds, rfl⟩
        | _ => cases ht
      obtain ⟨a, xs, ev, hs0, ha0⟩ : ∃ a xs, v = .ref a ∧ SqT K (del H U) a xs ∧ DpAll K (del H U) xs ds := by
        have hd2 : Dp K (del H U) v d := hd
        rw [ed] at hd2
        cases hd2 with
        | tup h1 h2 => exact ⟨_, _, rfl, h1, h2⟩
      have gd : Gd b n (.tuple ds) := by
        rw [ed] at gd
        exact gd
      have hs : SqT K H a xs := sqT_up del_same hs0
      obtain ⟨n', en, len, all⟩ := gd.untup
      have hl := dps_len ha0
      have sh := gd_shaped gd (by omega)
      refine iteT ⟨_, rfl, (by show 0 ≤ sizeLine; decide), fun e0 ne0 => ?_⟩
      have s0 := same_new (o := .tup []) ne0
      refine ⟨.tuple ds, .tuple [], (by rw [ev]; exact .tup (sqT_up s0 hs) (dps_up (del_same.trans s0) _ _ ha0)), .tup (.inl (.inl upd_same)) .nil, sh, rfl, _, rfl, ?_⟩
      have hD0 := hD.same s0
      generalize upd H e0 (.tup []) = H0 at s0 hD0
      cases ds with
      | nil => exact iteF (iteF (rest H0 ⟨m, but_same s0, hD0, by omega⟩))
      | cons d0 dr =>
        refine iteT ⟨_, rfl, p, L, 3, m, rfl, by decide, by decide, by omega, hD0, fun r H1 r0 r3 b1 hD1 => ⟨_, _, rfl, rfl, _, rfl, ?_⟩⟩
        have b01 : But p H H1 := (but_same s0).trans b1
        refine ite2 (fun c => ?_) (fun c => rest H1 ⟨_, b01, hD1, Int.le_refl _⟩)
        have lx : 0 < xs.length := by
          rw [hl]
          exact Nat.succ_pos _
        have hs1 := hs.but hD b01
        refine ⟨_, rfl, _, rfl, a, xs, (by rw [ev]), .inr hs1, p, L, ((xs.length : Nat) : Int), m + 1, rfl, by omega, ?_, by omega, hD1, fun kI H3 k0 k1 b3 hD3 => ?_⟩
        · rw [Int.natAbs_natCast, hl]
          exact Nat.lt_of_le_of_lt (Nat.le_trans len b10) (by decide)
        have bb : But p H H3 := b01.trans b3
        obtain ⟨kn, rfl⟩ := Int.eq_ofNat_of_zero_le k0
        have lt : kn < xs.length := by omega
        have gx : xs[kn]? = some xs[kn] := List.getElem?_eq_getElem lt
        obtain ⟨dx, edx, hdx⟩ := dps_get ha0 gx
        have gdx := all dx (List.mem_of_getElem? edx)
        refine ⟨_, rfl, _, rfl, (kn : Int), rfl, sl_out ev (hs.but hD bb) fun c1 X1 s1 t1 => ?_⟩
        have hX1 := hD3.same s1
        have bX1 : But p H X1 := bb.trans (but_same s1)
        rw [cut_to] at t1
        refine ⟨_, rfl, _, rfl, _, rfl, a, xs, (kn : Int), _, ev, rfl, hs.but hD bX1, atI_nat gx, p, L, U, _, dx, b, n', m + 1 + 1, pS, lS.but bX1 hX1, rfl, Df.but pS bX1 hdx, gdx, b2, b10, by omega, by omega, by have z : (cs n' : Int) = 3 * ((n' : Int) + 1) := rfl; omega, hX1, fun v' d' H4 hd' gd' b4 hD4 => ?_⟩
        refine ⟨(by show 1 ≤ sizeLine; decide), fun tq nq => ?_⟩
        have s5 := same_new (o := .tup [v']) nq
        have hD5 := hD4.same s5
        have bX5 : But p H (upd H4 tq (.tup [v'])) := (bX1.trans b4).trans (but_same s5)
        have t5 : SqT K (upd H4 tq (.tup [v'])) c1 (xs.take kn) := sqT_up s5 (t1.but hX1 b4)
        have e5 : SqT K (upd H4 tq (.tup [v'])) tq [v'] := .inl (.inl upd_same)
        have d5 := hd'.same s5
        generalize upd H4 tq (.tup [v']) = X5 at s5 hD5 bX5 t5 e5 d5
        refine cat_out t5 e5 (few_len (by rw [List.length_take, List.length_singleton]; omega)) fun c2 X6 s6 t6 => ?_
        refine ⟨_, rfl, _, rfl, _, _, rfl, rfl, _, rfl, ?_⟩
        dsimp only [tNoPart]
        refine sl_out (lo := some ((kn : Int) + 1)) (hi := none) ev (hs.but hD (bX5.trans (but_same s6))) fun c3 X7 s7 t7 => ?_
        have t7 : SqT K X7 c3 (cutV xs (some ((kn : Int) + 1)) none) := t7
        rw [show ((kn : Int) + 1) = ((kn + 1 : Nat) : Int) from rfl, cut_from] at t7
        refine cat_out (sqT_up s7 t6) t7 (few_len (by rw [List.length_append, List.length_take, List.length_drop, List.length_singleton]; omega)) fun c4 X8 s8 t8 => ?_
        have s58 := s6.trans (s7.trans s8)
        have hD8 := hD5.same s58
        have b8 := bX5.trans (but_same s58)
        refine q _ (.tuple (((d0 :: dr).take kn ++ [d']) ++ (d0 :: dr).drop (kn + 1))) _ (df_tup (lS.but b8 hD8) t8 (dps_app (dps_app (dps_take kn (DfAll.but pS b8 ha0)) (.cons (d5.same s58) .nil)) (dps_drop (kn + 1) (DfAll.but pS b8 ha0)))) (.tup ?_ (fun x hx => ?_)) b8 (hD8.more (by have z : (cs n' : Int) = 3 * ((n' : Int) + 1) := rfl; omega))
        · rw [List.length_append, List.length_append, List.length_take, List.length_drop, List.length_singleton]
          omega
        · rcases List.mem_append.mp hx with hx | hx
          · rcases List.mem_append.mp hx with hx | hx
            · exact (all x (List.mem_of_mem_take hx)).mono (by omega) (by omega)
            · rw [List.mem_singleton.mp hx]
              exact gd'.mono (Nat.le_refl _) (by omega)
          · exact (all x (List.mem_of_mem_drop hx)).mono (by omega) (by omega)
    | false => exact iteF (iteF (rest H ⟨m, But.refl p H, hD, by omega⟩))
  · rintro X0 ⟨mm, bX0, hD0, lm⟩
    have lL0 := lS.but bX0 hD0
    refine ⟨_, _, rfl, rfl, _, _, rfl, rfl, ⟨by decide, by decide, by decide⟩, _, _, rfl, rfl, ⟨by decide, by decide, by decide⟩, _, _, rfl, rfl, (by show 0 ≤ sizeLine; decide), fun q1 n1 => ?_⟩
    have s1 := same_new (o := .tup []) n1
    have e1 : upd X0 q1 (.tup []) q1 = _ := upd_same
    have hD1 := hD0.same s1
    have ne1 := hD0.ne n1
    have lL1 := LS.same lL0 s1
    generalize upd X0 q1 (.tup []) = X1 at s1 e1 hD1 lL1
    refine ⟨(by show 0 ≤ sizeLine; decide), fun q2 n2 => ?_⟩
    have s2 := same_new (o := .lst []) n2
    have e2 : upd X1 q2 (.lst []) q2 = _ := upd_same
    have hD2 := hD1.same s2
    have ne2 := hD1.ne n2
    have lL2 := LS.same lL1 s2
    generalize upd X1 q2 (.lst []) = X2 at s2 e2 hD2 lL2
    refine ⟨(by show 2 ≤ sizeLine; decide), fun q3 n3 => ?_⟩
    have s3 := same_new (o := .tup [.int 0, .int 0]) n3
    have e3 : upd X2 q3 (.tup [.int 0, .int 0]) q3 = _ := upd_same
    have hD3 := hD2.same s3
    have ne3 := hD2.ne n3
    have lL3 := LS.same lL2 s3
    generalize upd X2 q3 (.tup [.int 0, .int 0]) = X3 at s3 e3 hD3 lL3
    refine ⟨(by show 14 ≤ sizeLine; decide), fun l1 n4 => ?_⟩
    try dsimp only
    have s4 := same_new (o := .lst [.non, .int 0, .int (0 - 1), .bl true, .bl false, .int (10 ^ (60 : Int).toNat), .int (10 ^ (60 : Int).toNat - 1), .str "", .str "this", .str "that", .str "This", .ref q1, .ref q2, .ref q3]) n4
    have e4 : upd X3 l1 (.lst [.non, .int 0, .int (0 - 1), .bl true, .bl false, .int (10 ^ (60 : Int).toNat), .int (10 ^ (60 : Int).toNat - 1), .str "", .str "this", .str "that", .str "This", .ref q1, .ref q2, .ref q3]) l1 = _ := upd_same
    have hD4 := hD3.same s4
    have ne4 := hD3.ne n4
    have lL4 := LS.same lL3 s4
    generalize upd X3 l1 (.lst [.non, .int 0, .int (0 - 1), .bl true, .bl false, .int (10 ^ (60 : Int).toNat), .int (10 ^ (60 : Int).toNat - 1), .str "", .str "this", .str "that", .str "This", .ref q1, .ref q2, .ref q3]) = X4 at s4 e4 hD4 lL4
    refine ⟨_, rfl, (by show 2 ≤ sizeLine; decide), fun q4 n5 => ?_⟩
    try dsimp only
    have s5 := same_new (o := .tup [.str "that", .non]) n5
    have e5 : upd X4 q4 (.tup [.str "that", .non]) q4 = _ := upd_same
    have hD5 := hD4.same s5
    have ne5 := hD4.ne n5
    have lL5 := LS.same lL4 s5
    generalize upd X4 q4 (.tup [.str "that", .non]) = X5 at s5 e5 hD5 lL5
    refine ⟨(by show 1 ≤ sizeLine; decide), fun q5 n6 => ?_⟩
    have s6 := same_new (o := .tup [.str "this"]) n6
    have e6 : upd X5 q5 (.tup [.str "this"]) q5 = _ := upd_same
    have hD6 := hD5.same s6
    have ne6 := hD5.ne n6
    have lL6 := LS.same lL5 s6
    generalize upd X5 q5 (.tup [.str "this"]) = X6 at s6 e6 hD6 lL6
    refine ⟨(by show 2 ≤ sizeLine; decide), fun q6 n7 => ?_⟩
    have s7 := same_new (o := .tup [.non, .non]) n7
    have e7 : upd X6 q6 (.tup [.non, .non]) q6 = _ := upd_same
    have hD7 := hD6.same s7
    have ne7 := hD6.ne n7
    have lL7 := LS.same lL6 s7
    generalize upd X6 q6 (.tup [.non, .non]) = X7 at s7 e7 hD7 lL7
    refine ⟨(by show 2 ≤ sizeLine; decide), fun q7 n8 => ?_⟩
    have s8 := same_new (o := .tup [.str "this", .str "that"]) n8
    have e8 : upd X7 q7 (.tup [.str "this", .str "that"]) q7 = _ := upd_same
    have hD8 := hD7.same s8
    have ne8 := hD7.ne n8
    have lL8 := LS.same lL7 s8
    generalize upd X7 q7 (.tup [.str "this", .str "that"]) = X8 at s8 e8 hD8 lL8
    refine ⟨(by show 2 ≤ sizeLine; decide), fun q8 n9 => ?_⟩
    have s9 := same_new (o := .lst [.int 0, .int 0]) n9
    have e9 : upd X8 q8 (.lst [.int 0, .int 0]) q8 = _ := upd_same
    have hD9 := hD8.same s9
    have ne9 := hD8.ne n9
    have lL9 := LS.same lL8 s9
    generalize upd X8 q8 (.lst [.int 0, .int 0]) = X9 at s9 e9 hD9 lL9
    refine ⟨(by show 2 ≤ sizeLine; decide), fun q9 n10 => ?_⟩
    have s10 := same_new (o := .tup [.int 0, .int 0]) n10
    have e10 : upd X9 q9 (.tup [.int 0, .int 0]) q9 = _ := upd_same
    have hD10 := hD9.same s10
    have ne10 := hD9.ne n10
    have lL10 := LS.same lL9 s10
    generalize upd X9 q9 (.tup [.int 0, .int 0]) = X10 at s10 e10 hD10 lL10
    refine ⟨(by show 2 ≤ sizeLine; decide), fun q10 n11 => ?_⟩
    have s11 := same_new (o := .tup [.str "that", .ref q9]) n11
    have e11 : upd X10 q10 (.tup [.str "that", .ref q9]) q10 = _ := upd_same
    have hD11 := hD10.same s11
    have ne11 := hD10.ne n11
    have lL11 := LS.same lL10 s11
    generalize upd X10 q10 (.tup [.str "that", .ref q9]) = X11 at s11 e11 hD11 lL11
    refine ⟨(by show 8 ≤ sizeLine; decide), fun l2 n12 => ?_⟩
    try dsimp only
    have s12 := same_new (o := .lst [.ref q4, .ref q5, .ref q6, .str "0", .ref q7, .ref q8, .ref q10, .int 7]) n12
    have e12 : upd X11 l2 (.lst [.ref q4, .ref q5, .ref q6, .str "0", .ref q7, .ref q8, .ref q10, .int 7]) l2 = _ := upd_same
    have hD12 := hD11.same s12
    have ne12 := hD11.ne n12
    have lL12 := LS.same lL11 s12
    generalize upd X11 l2 (.lst [.ref q4, .ref q5, .ref q6, .str "0", .ref q7, .ref q8, .ref q10, .int 7]) = X12 at s12 e12 hD12 lL12
    have c11 : Same X11 X12 := s12
    have c10 : Same X10 X12 := s11.trans c11
    have c9 : Same X9 X12 := s10.trans c10
    have c8 : Same X8 X12 := s9.trans c9
    have c7 : Same X7 X12 := s8.trans c8
    have c6 : Same X6 X12 := s7.trans c7
    have c5 : Same X5 X12 := s6.trans c6
    have c4 : Same X4 X12 := s5.trans c5
    have c3 : Same X3 X12 := s4.trans c4
    have c2 : Same X2 X12 := s3.trans c3
    have c1 : Same X1 X12 := s2.trans c2
    have c0 : Same X0 X12 := s1.trans c1
    have c12 : Same X12 X12 := fun _ _ e => e
    have i1 : Its K U X12 (b + 1) (n + 2) [.non, .int 0, .int (0 - 1), .bl true, .bl false, .int (10 ^ (60 : Int).toNat), .int (10 ^ (60 : Int).toNat - 1), .str "", .str "this", .str "that", .str "This", .ref q1, .ref q2, .ref q3] := (.cons .non (Gd.atm (d := .none) trivial _) (.cons (.int 0) (Gd.atm (d := .int 0) (by show (0 : Int).natAbs < 10 ^ 62; decide) _) (.cons (.int (0 - 1)) (Gd.atm (d := .int (0 - 1)) (by show ((0 - 1) : Int).natAbs < 10 ^ 62; decide) _) (.cons (.bl true) (Gd.atm (d := .bool true) trivial _) (.cons (.bl false) (Gd.atm (d := .bool false) trivial _) (.cons (.int (10 ^ (60 : Int).toNat)) (Gd.atm (d := .int (10 ^ (60 : Int).toNat)) (by show ((10 ^ (60 : Int).toNat) : Int).natAbs < 10 ^ 62; decide) _) (.cons (.int (10 ^ (60 : Int).toNat - 1)) (Gd.atm (d := .int (10 ^ (60 : Int).toNat - 1)) (by show ((10 ^ (60 : Int).toNat - 1) : Int).natAbs < 10 ^ 62; decide) _) (.cons (.str "") (Gd.atm (d := .str "") (by show NmOk _ ∧ _ ≤ 8; decide +kernel) _) (.cons (.str "this") (Gd.atm (d := .str "this") (by show NmOk _ ∧ _ ≤ 8; decide +kernel) _) (.cons (.str "that") (Gd.atm (d := .str "that") (by show NmOk _ ∧ _ ≤ 8; decide +kernel) _) (.cons (.str "This") (Gd.atm (d := .str "This") (by show NmOk _ ∧ _ ≤ 8; decide +kernel) _) (.cons (Df.same c1 (df_tup lL1 (.inl (.inl e1)) .nil)) (gd_tup0 (b := b + 1) (n := n + 1)) (.cons (Df.same c2 (df_lst (LS.nin lL1 n2) e2 .nil)) (gd_lst0 (b := b + 1) (n := n + 1)) (.cons (Df.same c3 (df_tup lL3 (.inl (.inl e3)) (.cons (.int 0) (.cons (.int 0) .nil)))) (gd_tup2 (b := b + 1) (n := n + 1) (by omega) (Gd.atm (d := .int 0) (by show (0 : Int).natAbs < 10 ^ 62; decide) _) (Gd.atm (d := .int 0) (by show (0 : Int).natAbs < 10 ^ 62; decide) _)) Its.nil))))))))))))))
    have i2 : Its K U X12 (b + 1) (n + 2) [.ref q4, .ref q5, .ref q6, .str "0", .ref q7, .ref q8, .ref q10, .int 7] := (.cons (Df.same c5 (df_tup lL5 (.inl (.inl e5)) (.cons (.str "that") (.cons .non .nil)))) (gd_tup2 (b := b + 1) (n := n + 1) (by omega) (Gd.atm (d := .str "that") (by show NmOk _ ∧ _ ≤ 8; decide +kernel) _) (Gd.atm (d := .none) trivial _)) (.cons (Df.same c6 (df_tup lL6 (.inl (.inl e6)) (.cons (.str "this") .nil))) (gd_tup1 (b := b + 1) (n := n + 1) (by omega) (Gd.atm (d := .str "this") (by show NmOk _ ∧ _ ≤ 8; decide +kernel) _)) (.cons (Df.same c7 (df_tup lL7 (.inl (.inl e7)) (.cons .non (.cons .non .nil)))) (gd_tup2 (b := b + 1) (n := n + 1) (by omega) (Gd.atm (d := .none) trivial _) (Gd.atm (d := .none) trivial _)) (.cons (.str "0") (Gd.atm (d := .str "0") (by show NmOk _ ∧ _ ≤ 8; decide +kernel) _) (.cons (Df.same c8 (df_tup lL8 (.inl (.inl e8)) (.cons (.str "this") (.cons (.str "that") .nil)))) (gd_tup2 (b := b + 1) (n := n + 1) (by omega) (Gd.atm (d := .str "this") (by show NmOk _ ∧ _ ≤ 8; decide +kernel) _) (Gd.atm (d := .str "that") (by show NmOk _ ∧ _ ≤ 8; decide +kernel) _)) (.cons (Df.same c9 (df_lst (LS.nin lL8 n9) e9 (.cons (.int 0) (.cons (.int 0) .nil)))) (gd_lst2 (b := b + 1) (n := n + 1) (by omega) (Gd.atm (d := .int 0) (by show (0 : Int).natAbs < 10 ^ 62; decide) _) (Gd.atm (d := .int 0) (by show (0 : Int).natAbs < 10 ^ 62; decide) _)) (.cons (Df.same c11 (df_tup lL11 (.inl (.inl e11)) (.cons (.str "that") (.cons (Df.same s11 (df_tup lL10 (.inl (.inl e10)) (.cons (.int 0) (.cons (.int 0) .nil)))) .nil)))) (gd_tup2 (b := b + 1) (n := n + 1) (by omega) (Gd.atm (d := .str "that") (by show NmOk _ ∧ _ ≤ 8; decide +kernel) _) (gd_tup2 (b := b + 1) (n := n) (by omega) (Gd.atm (d := .int 0) (by show (0 : Int).natAbs < 10 ^ 62; decide) _) (Gd.atm (d := .int 0) (by show (0 : Int).natAbs < 10 ^ 62; decide) _))) (.cons (.int 7) (Gd.atm (d := .int 7) (by show (7 : Int).natAbs < 10 ^ 62; decide) _) Its.nil))))))))
    refine ⟨l1, l2, _, _, rfl, rfl, c4 _ _ e4, e12, (by show 14 + 8 ≤ sizeLine; decide), fun l3 n13 => ?_⟩
    have iA := i1.app i2
    generalize hxs : ([.non, .int 0, .int (0 - 1), .bl true, .bl false, .int (10 ^ (60 : Int).toNat), .int (10 ^ (60 : Int).toNat - 1), .str "", .str "this", .str "that", .str "This", .ref q1, .ref q2, .ref q3] ++ [.ref q4, .ref q5, .ref q6, .str "0", .ref q7, .ref q8, .ref q10, .int 7] : List V) = ls at iA
    have s13 := same_new (o := .lst ls) n13
    have e13 : upd X12 l3 (.lst ls) l3 = _ := upd_same
    have hD13 := hD12.same s13
    have ne13 := hD12.ne n13
    have iB := iA.but pS (but_same s13)
    have bY : But p H (upd X12 l3 (.lst ls)) := bX0.trans (but_same (c0.trans s13))
    have ll : ls.length = 22 := by rw [← hxs]; rfl
    generalize upd X12 l3 (.lst ls) = Y at s13 e13 hD13 iB bY
    have hdY : Df K U Y v d := hd.but pS bY
    refine ⟨_, rfl, _, _, _, _, isTu d, rfl, .ty "tuple", dp_ty hdY.dp, kit_tu d, _, rfl, ?_⟩
    apply joinS (C := fun σ Z => ∃ (l : Addr) (xs : List V), σ = [some (.ref p), some v, none, some (.ref l)] ∧ Z l = some (.lst xs) ∧ l ≠ p ∧ Its K U Z (b + 1) (n + 2) xs ∧ 0 < xs.length ∧ xs.length ≤ 100 ∧ But p H Z ∧ DiceAt Z p L mm)
    · intro rest
      cases ht : isTu d with
      | false => exact iteF (rest _ _ ⟨l3, ls, rfl, e13, ne13, iB, by omega, by omega, bY, hD13⟩)
      | true =>
        obtain ⟨ds, ed⟩ : ∃ ds, d = .tuple ds := by
          cases d with
          | tuple ds => exact ⟨ds, rfl⟩
          | _ => cases ht
        obtain ⟨a, xs, ev, hs0, ha0⟩ : ∃ a xs, v = .ref a ∧ SqT K (del H U) a xs ∧ DpAll K (del H U) xs ds := by
          have hd2 : Dp K (del H U) v d := hd
          rw [ed] at hd2
          cases hd2 with
          | tup h1 h2 => exact ⟨_, _, rfl, h1, h2⟩
        have gd : Gd b n (.tuple ds) := by
          rw [ed] at gd
          exact gd
        have hs : SqT K H a xs := sqT_up del_same hs0
        obtain ⟨n', en, len, all⟩ := gd.untup
        have hl := dps_len ha0
        have all2 : ∀ x ∈ ds, Gd (b + 1) (n + 1) x := fun x hx => (all x hx).mono (by omega) (by omega)
        have at_ : ∀ {Z : Hp}, But p H Z → SqT K Z a xs := fun c => hs.but hD c
        have ds_ : ∀ {Z : Hp}, But p H Z → DfAll K U Z xs ds := fun c => DfAll.but pS c ha0
        refine iteT ⟨_, rfl, _, rfl, a, xs, (by rw [ev]), .inr (at_ bY), fun w1 z1 => ?_⟩
        -- list(thing)
        have s1 := same_new (o := .lst xs) z1
        have f1 : upd Y w1 (.lst xs) w1 = _ := upd_same
        have D1 := hD13.same s1
        have nw1 := hD13.ne z1
        have b1 : But p H (upd Y w1 (.lst xs)) := bY.trans (but_same s1)
        generalize upd Y w1 (.lst xs) = Y1 at s1 f1 D1 b1
        have I1 : Df K U Y1 (.ref w1) (.list ds) := df_lst ((lS.but bY hD13).nin z1) f1 (ds_ b1)
        -- thing + (0,)
        refine ⟨_, rfl, (by show 1 ≤ sizeLine; decide), fun w2 z2 => ?_⟩
        have s2 := same_new (o := .tup [.int 0]) z2
        have f2 : upd Y1 w2 (.tup [.int 0]) w2 = _ := upd_same
        have D2 := D1.same s2
        have b2' : But p H (upd Y1 w2 (.tup [.int 0])) := b1.trans (but_same s2)
        generalize upd Y1 w2 (.tup [.int 0]) = Y2 at s2 f2 D2 b2'
        rw [ev]
        refine cat_out (at_ b2') (.inl (.inl f2)) (few_len (by rw [List.length_singleton]; omega)) fun w3 Y3 s3 t3 => ?_
        have D3 := D2.same s3
        have b3 := b2'.trans (but_same s3)
        have I3 : Df K U Y3 (.ref w3) (.tuple (ds ++ [.int 0])) := df_tup (lS.but b3 D3) t3 (dps_app (ds_ b3) (.cons (.int 0) .nil))
        -- thing[:-1]
        refine ⟨_, rfl, ?_⟩
        dsimp only [tNoPart]
        refine ⟨1, rfl, -1, rfl, ?_⟩
        refine sl_out (lo := none) (hi := some (-1)) rfl (at_ b3) fun w4 Y4 s4 t4 => ?_
        have D4 := D3.same s4
        have b4 := b3.trans (but_same s4)
        have I4 : Df K U Y4 (.ref w4) (.tuple (cutD ds none (some (-1)))) := df_tup (lS.but b4 D4) t4 (dps_cut (ds_ b4))
        -- thing[::-1]
        refine ⟨_, rfl, a, xs, rfl, at_ b4, fun w5 z5 => ?_⟩
        have s5 := same_new (o := .tup xs.reverse) z5
        have f5 : upd Y4 w5 (.tup xs.reverse) w5 = _ := upd_same
        have D5 := D4.same s5
        have b5 : But p H (upd Y4 w5 (.tup xs.reverse)) := b4.trans (but_same s5)
        generalize upd Y4 w5 (.tup xs.reverse) = Y5 at s5 f5 D5 b5
        have I5 : Df K U Y5 (.ref w5) (.tuple ds.reverse) := df_tup (lS.but b5 D5) (.inl (.inl f5)) (dps_rev (ds_ b5))
        -- ("that",) + thing[1:]
        refine ⟨(by show 1 ≤ sizeLine; decide), fun w6 z6 => ?_⟩
        have s6 := same_new (o := .tup [.str "that"]) z6
        have f6 : upd Y5 w6 (.tup [.str "that"]) w6 = _ := upd_same
        have D6 := D5.same s6
        have b6 : But p H (upd Y5 w6 (.tup [.str "that"])) := b5.trans (but_same s6)
        generalize upd Y5 w6 (.tup [.str "that"]) = Y6 at s6 f6 D6 b6
        refine ⟨_, rfl, 1, rfl, ?_⟩
        dsimp only [tNoPart]
        refine sl_out (lo := some 1) (hi := none) rfl (at_ b6) fun w7 Y7 s7 t7 => ?_
        have D7 := D6.same s7
        have b7 := b6.trans (but_same s7)
        have lc := cutV_length xs (some 1) none
        refine cat_out (.inl (.inl (s7 _ _ f6))) t7 (few_len (by rw [List.length_singleton]; omega)) fun w8 Y8 s8 t8 => ?_
        have D8 := D7.same s8
        have b8 := b7.trans (but_same s8)
        have I8 : Df K U Y8 (.ref w8) (.tuple ([.str "that"] ++ cutD ds (some 1) none)) := df_tup (lS.but b8 D8) t8 (dps_app (.cons (.str "that") .nil) (dps_cut (ds_ b8)))
        -- the list of these
        refine ⟨(by show 5 ≤ sizeLine; decide), fun w9 z9 => ?_⟩
        have s9 := same_new (o := .lst [V.ref w1, V.ref w3, V.ref w4, V.ref w5, V.ref w8]) z9
        have f9 : upd Y8 w9 (.lst [V.ref w1, V.ref w3, V.ref w4, V.ref w5, V.ref w8]) w9 = _ := upd_same
        have D9 := D8.same s9
        generalize upd Y8 w9 (.lst [V.ref w1, V.ref w3, V.ref w4, V.ref w5, V.ref w8]) = Y9 at s9 f9 D9
        have k8 := s9
        have k5 := s6.trans (s7.trans (s8.trans k8))
        have k4 := s5.trans k5
        have k3 := s4.trans k4
        have k1 := s2.trans (s3.trans k3)
        have k0 := s1.trans k1
        refine ⟨l3, w9, ls, _, rfl, rfl, k0 _ _ e13, f9, few_len (by rw [ll]; show 22 + 5 ≤ 100; decide), fun w10 z10 => ?_⟩
        have gl := @cutD_len
        have ns : ∀ (z : Str), NmOk z ∧ z.length ≤ 8 → ∀ x ∈ [PyData.str z] ++ cutD ds (some 1) none, Gd (b + 1) (n + 1) x := fun z hz x hx => by
          rcases List.mem_append.mp hx with hx | hx
          · rw [List.mem_singleton.mp hx]
            exact Gd.atm (d := .str z) hz _
          · exact all2 x (cutD_mem hx)
        have nl : ∀ z : Str, ([PyData.str z] ++ cutD ds (some 1) none).length ≤ b + 1 := fun z => by
          have z2 := cutD_len ds (some 1) none
          rw [List.length_append, List.length_singleton]
          omega
        have i3 : Its K U Y9 (b + 1) (n + 2) [V.ref w1, V.ref w3, V.ref w4, V.ref w5, V.ref w8] :=
          .cons (I1.same k1) (.lst (by omega) all2) (.cons (I3.same k3) (.tup (by rw [List.length_append, List.length_singleton]; omega) (fun x hx => by
            rcases List.mem_append.mp hx with hx | hx
            · exact all2 x hx
            · rw [List.mem_singleton.mp hx]
              exact Gd.atm (d := .int 0) (by show (0 : Int).natAbs < 10 ^ 62; decide) _))
          (.cons (I4.same k4) (.tup (Nat.le_trans (cutD_len ds none (some (-1))) (by omega)) (fun x hx => all2 x (cutD_mem hx)))
          (.cons (I5.same k5) (.tup (by rw [List.length_reverse]; omega) (fun x hx => all2 x (List.mem_reverse.mp hx)))
          (.cons (I8.same k8) (.tup (nl _) (ns "that" (by decide +kernel))) .nil))))
        have iC := (iB.but pS (but_same k0)).app i3
        have llC : (ls ++ [V.ref w1, V.ref w3, V.ref w4, V.ref w5, V.ref w8]).length = 27 := by rw [List.length_append, ll]; rfl
        generalize (ls ++ [V.ref w1, V.ref w3, V.ref w4, V.ref w5, V.ref w8] : List V) = lt at iC llC z10
        have s10 := same_new (o := .lst lt) z10
        have f10 : upd Y9 w10 (.lst lt) w10 = _ := upd_same
        have D10 := D9.same s10
        have nw10 := D9.ne z10
        have iD := iC.but pS (but_same s10)
        have b10' : But p H (upd Y9 w10 (.lst lt)) := b8.trans (but_same (s9.trans s10))
        generalize upd Y9 w10 (.lst lt) = Z0 at s10 f10 D10 iD b10'
        -- append
        refine ⟨_, rfl, .inl ⟨rfl, _, .inl (.inl f10)⟩, (by show 1 ≤ sizeLine; decide), fun w11 z11 => ?_⟩
        have s11 := same_new (o := .tup [.str "this"]) z11
        have f11 : upd Z0 w11 (.tup [.str "this"]) w11 = _ := upd_same
        have D11 := D10.same s11
        have b11 : But p H (upd Z0 w11 (.tup [.str "this"])) := b10'.trans (but_same s11)
        generalize upd Z0 w11 (.tup [.str "this"]) = Z1 at s11 f11 D11 b11
        refine ⟨_, rfl, 1, rfl, ?_⟩
        dsimp only [tNoPart]
        refine sl_out (lo := some 1) (hi := none) rfl (at_ b11) fun w12 Z2 s12 t12 => ?_
        have D12 := D11.same s12
        have b12 := b11.trans (but_same s12)
        refine cat_out (.inl (.inl (s12 _ _ f11))) t12 (few_len (by rw [List.length_singleton]; omega)) fun w13 Z3 s13' t13 => ?_
        have D13 := D12.same s13'
        have b13 := b12.trans (but_same s13')
        have I13 : Df K U Z3 (.ref w13) (.tuple ([.str "this"] ++ cutD ds (some 1) none)) := df_tup (lS.but b13 D13) t13 (dps_app (.cons (.str "this") .nil) (dps_cut (ds_ b13)))
        have k13 := s11.trans (s12.trans s13')
        refine ⟨w10, lt, .ref w13, rfl, rfl, k13 _ _ f10, Nat.lt_of_le_of_lt (m := 100) (by omega) (by decide), ?_⟩
        have sF : Same Y9 (upd Z3 w10 (.lst (lt ++ [V.ref w13]))) := fun c o e => by
          rw [upd_ne (ne_of_none e z10)]
          exact (s10.trans k13) _ _ e
        have DF := D9.same sF
        have bF : But p H (upd Z3 w10 (.lst (lt ++ [V.ref w13]))) := (b8.trans (but_same s9)).trans (but_same sF)
        have tF := sqT_put (o := .lst (lt ++ [V.ref w13])) t13 (k13 _ _ f10)
        have IF : Df K U (upd Z3 w10 (.lst (lt ++ [V.ref w13]))) (.ref w13) (.tuple ([.str "this"] ++ cutD ds (some 1) none)) := df_tup (lS.but bF DF) tF (dps_app (.cons (.str "this") .nil) (dps_cut (ds_ bF)))
        exact rest _ _ ⟨w10, lt ++ [V.ref w13], (by rw [ev]; rfl), upd_same, nw10, (iC.but pS (but_same sF)).app (.cons IF (.tup (nl _) (ns "this" (by decide +kernel))) .nil), by rw [List.length_append, List.length_singleton]; omega, by rw [List.length_append, List.length_singleton]; omega, bF, DF⟩
    · rintro σ Z ⟨l, xs, rfl, el, nl, iz, x0, x1, bZ, hDZ⟩
      refine ⟨_, rfl, _, rfl, p, l, L, xs, mm, rfl, .inl (.inl el), nl, x0, by omega, by omega, hDZ, fun x mem H' bH hDH => ?_⟩
      obtain ⟨dx, hx, gx⟩ := iz x mem
      exact q x dx H' (hx.but pS bH) gx (bZ.trans bH) (hDH.more (by omega))
theorem ok_sps {f fr fp : Addr} {fd dr dp : FuncData} (F : Fun K "_law_spoilt" "_law_spoilt" sSpoilt f fd) (D : Draw P w K mg base fr fp dr dp) (T : Blt mg) (zl : mg "list" = none) (bS : Binds K fd ["dice", "thing"] []) (mS : mg "_law_spoilt" = some (.ref f)) : ∀ k : Nat, FnOk P w K mg base CX0 (2 + k) f fd ["dice", "thing"] (spSp K k)
  | 0 => no_calls fun vs H Q E h => by
    obtain ⟨p, L, U, v, d, b, n, m, _, _, _, _, _, _, _, nk, _⟩ := h
    omega
  | k + 1 => ok_sp F D T zl (ok_sps F D T zl bS mS k) bS mS
end
end Kf
set_option Elab.async false
set_option linter.all false
set_option maxRecDepth 100000
set_option maxHeartbeats 8000000
set_option pp.maxSteps 1200
/-! k24: the law. -/
namespace Kf
open PySem PySem.Spec PyProof.Rows L2 Sx LamX LmY _root_.Gd
abbrev sLaw : Stmt := top 13
abbrev lawN : List Str := ["script", "dice", "turn", "kind", "thing", "other", "things", "one", "kept", "found", "k"]
theorem scLaw : FnScope lawN ["script"] (defScope sLaw) := ⟨rfl, rfl, rfl, by decide +kernel, rfl, by decide +kernel, by decide +kernel⟩
theorem cr_reprX {X : Cx} (gu : X.A.guards = some []) (un : X.A.units + 64 < cLine) : CallR X (.builtin "repr") (fun xs H Q => ∃ (v : V) (d : PyData), xs = [v] ∧ Dp X.K H v d ∧ d.showable = true ∧ d.hasDict = false ∧ d.depth ≤ 60 ∧ d.shown.length ≤ sizeLine ∧ Q (.str d.shown) H) := by
  intro pins s σ H xs us Q I rel ⟨v, d, ex, dp, sh, nd, dd, fits, q⟩
  subst ex
  cases dp with
  | lst h g => exact cr_reprD gu un pins s σ H _ us Q I rel ⟨_, _, rfl, .lst h g, sh, nd, dd, fits, q⟩
  | tup h g => exact cr_reprD gu un pins s σ H _ us Q I rel ⟨_, _, rfl, .tup h g, sh, nd, dd, fits, q⟩
  | non =>
    cases rel with
    | cons r rr =>
      cases rr
      cases r
      exact P.repr_of_none ⟨.str (PyData.shown .none), H, I.tok _, ⟨_, rfl⟩, q⟩
  | bl b =>
    cases rel with
    | cons r rr =>
      cases rr
      cases r
      cases b with
      | false => exact P.repr_of_bool (b := false) ⟨.str (PyData.shown (.bool false)), H, I.tok _, ⟨_, rfl⟩, q⟩
      | true => exact P.repr_of_bool (b := true) ⟨.str (PyData.shown (.bool true)), H, I.tok _, ⟨_, rfl⟩, q⟩
  | int i =>
    cases rel with
    | cons r rr =>
      cases rr
      obtain ⟨t, rfl⟩ := r
      exact P.repr_of_int (of_decide_eq_true sh) ⟨.str (PyData.shown (.int i)), H, I.tok _, ⟨_, rfl⟩, q⟩
  | str x =>
    cases rel with
    | cons r rr =>
      cases rr
      obtain ⟨t, rfl⟩ := r
      exact P.repr_of_str ⟨.str (PyData.shown (.str x)), H, I.tok _, ⟨_, rfl⟩, q⟩ fits
theorem DiceAt.neL {H : Hp} {p L q : Addr} {m : Int} (h : DiceAt H p L m) (e : H q = none) : q ≠ L := fun z => by
  obtain ⟨x, n, r, cs, _, _, e2, _⟩ := h
  rw [z, e2] at e
  cases e
theorem DiceAt.put {H : Hp} {p L D : Addr} {m : Int} {o : HO} (h : DiceAt H p L m) (n1 : D ≠ p) (n2 : D ≠ L) : DiceAt (upd H D o) p L m := by
  obtain ⟨x, n, r, cs, e, nl, e2, q⟩ := h
  exact ⟨x, n, r, cs, by rw [upd_ne n1.symm]; exact e, nl, by rw [upd_ne n2.symm]; exact e2, q⟩
section
variable {K : PySem.W.Frag} {H : Hp} {S : List Addr} {D : Addr} {o : HO} {v : V} {d : PyData}
theorem Df.more (h : Df K S H v d) (n : H D = none) : Df K (D :: S) (upd H D o) v d := dp_up (fun c u e => by
  have e2 := del_same _ _ e
  have nc : c ∉ S := fun z => by
    rw [show del H S c = none from if_pos z] at e
    cases e
  have nd : c ≠ D := ne_of_none e2 n
  rw [del_ne (List.not_mem_cons_of_ne_of_not_mem nd nc), upd_ne nd]
  exact e2) _ _ h
theorem Df.less (h : Df K (D :: S) H v d) : Df K S H v d := dp_up (fun c u e => by
  have e2 := del_same _ _ e
  have nc : c ∉ D :: S := fun z => by
    rw [show del H (D :: S) c = none from if_pos z] at e
    cases e
  rw [del_ne (fun z => nc (List.mem_cons_of_mem _ z))]
  exact e2) _ _ h
theorem ls1 {p L : Addr} {m : Int} (h : DiceAt H p L m) : LS H [p] := fun a ha => by
  obtain ⟨x, n, r, cs, e, _⟩ := h
  rw [List.mem_singleton.mp ha]
  exact ⟨_, e⟩
theorem ls2 {p L : Addr} {m : Int} {xs : List V} (h : DiceAt H p L m) (e : H D = some (.lst xs)) : LS H [D, p] := fun a ha => by
  rcases List.mem_cons.mp ha with rfl | ha
  · exact ⟨_, e⟩
  · exact ls1 h a ha
end
def spLaw (K : PySem.W.Frag) : Sp := fun vs H Q _ => ∃ (a : Addr) (ns : List Int), vs = [.ref a] ∧ SqL K H a (ns.map V.int) ∧ ns.length ≤ 63 ∧ (∀ z ∈ ns, Builtin.Int.intBits z ≤ 1048576) ∧ ∀ H', Q (.bl true) H'
section
variable {P : Program} {w : World} {K : PySem.W.Frag} {mg : Str → Option Value} {base : Heap}
structure Calls (P : Program) (w : World) (K : PySem.W.Frag) (mg : Str → Option Value) (base : Heap) (fr fp fk fw fd fs fi : Addr) (dr dp dk dw dd ds di : FuncData) : Prop where
  D : Draw P w K mg base fr fp dr dp
  Kd : ∀ n, FnOk P w K mg base CX0 (2 + n) fk dk ["dice", "deep", "whole"] (spKind n)
  bK : Binds K dk ["dice", "deep", "whole"] []
  kK : PySem.W.keepIn K (.ref fk) = true
  mK : mg "_law_kind" = some (.ref fk)
  W : ∀ n, FnOk P w K mg base CX0 (2 + n) fw dw ["dice", "kind"] (spWorthL K n)
  bW : Binds K dw ["dice", "kind"] []
  kW : PySem.W.keepIn K (.ref fw) = true
  mW : mg "_law_worth" = some (.ref fw)
  U : ∀ n, FnOk P w K mg base CX0 n fd dd ["kind", "thing"] (spDue K n)
  bU : Binds K dd ["kind", "thing"] []
  kU : PySem.W.keepIn K (.ref fd) = true
  mU : mg "_law_due" = some (.ref fd)
  S : ∀ n, FnOk P w K mg base CX0 (2 + n) fs ds ["dice", "thing"] (spSp K n)
  bS : Binds K ds ["dice", "thing"] []
  kS : PySem.W.keepIn K (.ref fs) = true
  mS : mg "_law_spoilt" = some (.ref fs)
  I : FnOk P w K mg base CX0 2 fi di ["kind", "thing"] (spWorthQ K)
  bI : Binds K di ["kind", "thing"] []
  kI : PySem.W.keepIn K (.ref fi) = true
  mI : mg "is_worth" = some (.ref fi)
  T : Blt mg
  zRange : mg "range" = none
  zList : mg "list" = none
  zRepr : mg "repr" = none
theorem ok_law {f fr fp fk fw fu fs fi : Addr} {fd dr dp dk dw dd ds di : FuncData} (F : Fun K "law" "law" sLaw f fd) (C : Calls P w K mg base fr fp fk fw fu fs fi dr dp dk dw dd ds di) : FnG P w K mg base 25 f fd ["script"] (spLaw K) := by
  refine okG F scLaw (fun vs H Q E h => ?_) (fun cdv A outer s H vs Q gu hr h => ?_)
  · obtain ⟨a, ns, rfl, _⟩ := h
    rfl
  obtain ⟨a, ns, rfl, hS, hlen, hb, q⟩ := h
  have h2 : Room 2 _ := hr.mono (by decide)
  have h5 : Room (2 + 3) _ := hr.mono (by decide)
  have h7 : Room (2 + 5) _ := hr.mono (by decide)
  have h8 : Room (2 + 6) _ := hr.mono (by decide)
  have h10 : Room (2 + 8) _ := hr.mono (by decide)
  have hu : Room 5 _ := hr.mono (by decide)
  have u1 : (A.deeper (envOfC "law" (defScope sLaw) s.heap.objs.size f cdv)).units + 64 < cLine := by
    have := hr.units
    omega
  refine ⟨_, pss_cons (ps_set (i := 1) scLaw.nd rfl (.inr rfl) (pe_lst (pa_cons (pe_callTy call_list_of (by rfl) C.zList (by decide +kernel) (pa_cons (pe_slice sl_list (pv 0) po_none (po_some pe_int)) pa_nil)) (pa_cons pe_int (pa_cons pe_int (pa_cons pe_int pa_nil))))))
    (pss_cons (ps_for PassesOwn.never rfl (pi_range1 (by rfl) C.zRange (pa_cons pe_int pa_nil)) (pg_name (i := 2) scLaw.nd rfl (.inl rfl))
      (pss_cons (ps_set (i := 3) scLaw.nd rfl (.inl rfl) (pe_call C.D.Pk h2 (by rfl) C.D.mP C.D.kP C.D.bP .nil pass0 (pa_cons (pv 1) (pa_cons (pe_lst (pa_cons (pe_tup (pa_cons pe_str pa_nil)) (pa_cons (pe_call (C.Kd 5) h7 (by rfl) C.mK C.kK C.bK .nil pass0 (pa_cons (pv 1) (pa_cons pe_int (pa_cons pe_bl pa_nil)))) (pa_cons (pe_call (C.Kd 3) h5 (by rfl) C.mK C.kK C.bK .nil pass0 (pa_cons (pv 1) (pa_cons pe_int (pa_cons pe_bl pa_nil)))) pa_nil)))) pa_nil))))
      (pss_cons (ps_set (i := 4) scLaw.nd rfl (.inr rfl) (pe_call (C.W 5) h7 (by rfl) C.mW C.kW C.bW .nil pass0 (pa_cons (pv 1) (pa_cons (pv 3) pa_nil))))
      (pss_cons (ps_set (i := 5) scLaw.nd rfl (.inl rfl) (pe_call (C.Kd 3) h5 (by rfl) C.mK C.kK C.bK .nil pass0 (pa_cons (pv 1) (pa_cons pe_int (pa_cons pe_bl pa_nil)))))
      (pss_cons (ps_set (i := 6) scLaw.nd rfl (.inl rfl) (pe_op op_cat (pe_lst (pa_cons (pv 4) (pa_cons (pe_call (C.W 3) h5 (by rfl) C.mW C.kW C.bW .nil pass0 (pa_cons (pv 1) (pa_cons (pv 5) pa_nil))) pa_nil)))
        (pe_lc (own := [("k", 10)]) (g := gName 10) (tt := tYes) rfl scLaw.nd (pi_range1 (by rfl) C.zRange (pa_cons pe_int pa_nil))
          (blkOk_by (N := lawN) (sc := defScope sLaw) (by decide +kernel)) (fun _ _ _ _ _ => pg_name (i := 10) scLaw.nd rfl (Or.inl rfl)) (fun _ _ _ _ _ => pts_nil)
          (fun _ _ _ _ _ => pe_call (C.S 6) h8 (by rfl) C.mS C.kS C.bS .nil pass0 (pa_cons (pv 1) (pa_cons (pv 4) pa_nil))))))
      (pss_one (ps_for PassesOwn.never rfl (pi_list (pe_op op_cat (pv 6) (pe_lc (own := [("one", 7)]) (g := gName 7) (tt := tYes) rfl scLaw.nd (pi_list (pe_slice sl_list (pv 6) (po_some pe_int) po_none))
          (blkOk_by (N := lawN) (sc := defScope sLaw) (by decide +kernel)) (fun _ _ _ _ _ => pg_name (i := 7) scLaw.nd rfl (Or.inl rfl)) (fun _ _ _ _ _ => pts_nil)
          (fun _ _ _ _ _ => pe_call (C.S 8) h10 (by rfl) C.mS C.kS C.bS .nil pass0 (pa_cons (pv 1) (pa_cons (pv 7) pa_nil)))))) (pg_name (i := 7) scLaw.nd rfl (.inl rfl))
        (pss_cons (ps_set (i := 8) scLaw.nd rfl (.inl rfl) (pe_callB (cr_reprX gu u1) (by rfl) C.zRepr (by decide +kernel) (pa_cons (pv 7) pa_nil)))
        (pss_cons (ps_set (i := 9) scLaw.nd rfl (.inl rfl) (pe_call C.I h2 (by rfl) C.mI C.kI C.bI .nil pass0 (pa_cons (pv 3) (pa_cons (pv 7) pa_nil))))
        (pss_one (ps_if (PW.pt (pw_or (pt_not (pt_val (pe_callB call_isi (by rfl) C.T.zIs (by decide +kernel) (pa_cons (pv 9) (pa_cons (pe_bltn (v := .ty "bool") (by rfl) C.T.zBool (by decide +kernel) rfl) pa_nil)))))
          (pw_or (pt_cmpR op_ne (pv 9) (pe_call (C.U 5) hu (by rfl) C.mU C.kU C.bU .nil pass0 (pa_cons (pv 3) (pa_cons (pv 7) pa_nil))) (nomark _))
          (pw_or1 (pt_cmpR op_ne (pe_callB (cr_reprX gu u1) (by rfl) C.zRepr (by decide +kernel) (pa_cons (pv 7) pa_nil)) (pv 8) (nomark _)))))) (pss_one (ps_ret pe_bl)) pss_nil)))))))))))
    (pss_one (ps_ret pe_bl))), ?_⟩
  refine ⟨_, rfl, 63, rfl, a, _, rfl, hS, fun l0 nl0 => ?_⟩
  have c63 : cutV (ns.map V.int) none (some 63) = ns.map V.int := by
    have z := cut_to (xs := ns.map V.int) (k := 63)
    rw [show (((63 : Nat) : Int)) = 63 from rfl] at z
    rw [z]
    exact List.take_of_length_le (by rw [List.length_map]; exact hlen)
  rw [c63]
  have e0 : upd H l0 (.lst (ns.map V.int)) l0 = _ := upd_same
  generalize upd H l0 (.lst (ns.map V.int)) = H0 at e0
  refine ⟨l0, _, rfl, .inl (.inl (.inl e0)), fun L nL => ?_⟩
  have e1 : upd H0 L (.lst (ns.map V.int)) L = _ := upd_same
  generalize upd H0 L (.lst (ns.map V.int)) = H1 at e1
  refine ⟨(by show 4 ≤ sizeLine; decide), fun p np => ?_⟩
  have nLp : L ≠ p := fun z => by
    rw [← z, e1] at np
    cases np
  have hD0 : DiceAt (upd H1 p (.lst [.ref L, .int 0, .int 0, .int 0])) p L 0 := ⟨0, 0, 0, ns, upd_same, nLp, by rw [upd_ne nLp]; exact e1, hlen, Int.le_refl _, Int.le_refl _⟩
  generalize upd H1 p (.lst [.ref L, .int 0, .int 0, .int 0]) = H2 at hD0
  have c4 : ck 4 = 62 := by decide
  have c2 : ck 2 = 14 := by decide
  have w5 : cw 5 = 128 := by decide
  have w3 : cw 3 = 32 := by decide
  have s4 : cs 4 = 15 := by decide
  have s6 : cs 6 = 21 := by decide
  refine ⟨_, rfl, by decide, by decide, ?_⟩
  refine for_range (lo := 0) (n := 8) (fun i σ H' => ∃ y2 y3 y4 y5 y6 y7 y8 y9 y10 : Option V, σ = [some (.ref a), some (.ref p), y2, y3, y4, y5, y6, y7, y8, y9, y10] ∧ DiceAt H' p L (1000 * (i : Int)))
    ⟨_, _, _, _, _, _, _, _, _, rfl, hD0.more (by omega)⟩ ?_ ?_
  · rintro i σ X0 hi ⟨y2, y3, y4, y5, y6, y7, y8, y9, y10, rfl, hD⟩
    generalize hm : (1000 * (i : Int)) = m at hD
    have mb : m < 2 ^ 40 := by
      have z : (i : Int) < 8 := by omega
      omega
    -- the kind
    refine ⟨_, rfl, (by show 1 ≤ sizeLine; decide), fun q0 n0 => ?_⟩
    have z1 := same_new (o := .tup [.str "none"]) n0
    have a0 : At (upd X0 q0 (.tup [.str "none"])) (.n0 "none") (.ref q0) := ⟨q0, rfl, upd_same⟩
    have hD1 := hD.same z1
    generalize upd X0 q0 (.tup [.str "none"]) = X1 at z1 a0 hD1
    refine ⟨_, rfl, p, L, 4, m, rfl, by decide, by omega, hD1, fun t1 v1 X2 k1 d1 a1 b2 hD2 => ?_⟩
    refine ⟨_, rfl, p, L, 2, m + ck 4, rfl, by decide, by omega, hD2, fun t2 v2 X3 k2 d2 a2 b3 hD3 => ?_⟩
    refine ⟨(by show 3 ≤ sizeLine; decide), fun l nl => ?_⟩
    have z4 := same_new (o := .lst [V.ref q0, v1, v2]) nl
    have hD4 := hD3.same z4
    have el : upd X3 l (.lst [V.ref q0, v1, v2]) l = _ := upd_same
    have nlp := hD3.ne nl
    have a0' := (a0.keep ((hD1.tups b2).trans (hD2.tups b3))).keep (tups_same z4)
    have a1' := (a1.keep (hD2.tups b3)).keep (tups_same z4)
    have a2' := a2.keep (tups_same z4)
    generalize upd X3 l (.lst [V.ref q0, v1, v2]) = X4 at z4 hD4 el a0' a1' a2'
    refine ⟨p, l, L, _, m + ck 4 + ck 2, rfl, .inl (.inl el), nlp, (by show 0 < 3; decide), (by show 3 ≤ 1000; decide), by omega, hD4, fun xk mem X5 b5 hD5 => ?_⟩
    have kk : ∃ t : Tr, t.Kd ∧ t.deep ≤ 5 ∧ At X4 t xk := by
      rcases List.mem_cons.mp mem with rfl | mem
      · exact ⟨.n0 "none", Or.inl rfl, (by show 1 ≤ 5; decide), a0'⟩
      rcases List.mem_cons.mp mem with rfl | mem
      · exact ⟨_, k1, d1, a1'⟩
      · rw [List.mem_singleton.mp mem]
        exact ⟨_, k2, Nat.le_trans d2 (by decide), a2'⟩
    obtain ⟨t, kt, dt, at4⟩ := kk
    have at5 := at4.keep (hD4.tups b5)
    generalize hm5 : m + ck 4 + ck 2 + 1 = m5 at hD5
    have mb5 : m5 < 2 ^ 41 := by omega
    -- thing, other
    refine ⟨_, rfl, _, rfl, p, L, [p], xk, t, m5, List.mem_singleton.mpr rfl, ls1 hD5, rfl, at5, kt, dt, by omega, hD5, fun v d X6 g6 gd6 b6 hD6 => ?_⟩
    have at6 := at5.keep (hD5.tups b6)
    refine ⟨_, rfl, p, L, 2, m5 + cw 5, rfl, by decide, by omega, hD6, fun t3 v3 X7 k3 d3 a3 b7 hD7 => ?_⟩
    have at7 := at6.keep (hD6.tups b7)
    refine ⟨_, rfl, _, rfl, _, rfl, p, L, [p], v3, t3, m5 + cw 5 + ck 2, List.mem_singleton.mpr rfl, ls1 hD7, rfl, a3, k3, d3, by omega, hD7, fun v4 d4 X8 g8 gd8 b8 hD8 => ?_⟩
    have at8 := at7.keep (hD7.tups b8)
    have g6' : Df K [p] X8 v d := (g6.but (List.mem_singleton.mpr rfl) b7).but (List.mem_singleton.mpr rfl) b8
    refine ⟨(by show 2 ≤ sizeLine; decide), fun l2 nl2 => ?_⟩
    have z9 := same_new (o := .lst [v, v4]) nl2
    have hD9 := hD8.same z9
    have el2 : upd X8 l2 (.lst [v, v4]) l2 = _ := upd_same
    have nl2p := hD8.ne nl2
    have g9 := g6'.same z9
    have g9' := Df.same z9 g8
    have at9 := at8.keep (tups_same z9)
    generalize upd X8 l2 (.lst [v, v4]) = X9 at z9 hD9 el2 g9 g9' at9
    generalize hm9 : m5 + cw 5 + ck 2 + cw 3 = m9 at hD9
    have mb9 : m9 < 2 ^ 42 := by omega
    have gd6' : Gd 2 4 d := gd6
    have gd8' : Gd 2 2 d4 := gd8
    -- five of them spoilt
    refine ⟨_, rfl, by decide, by decide, fun D nD => ?_⟩
    have nDp := hD9.ne nD
    have nDL := hD9.neL nD
    have gv : Df K [D, p] (upd X9 D (.lst [])) v d := g9.more nD
    have gv2 : Df K [D, p] (upd X9 D (.lst [])) v4 d4 := g9'.more nD
    have pU : p ∈ [D, p] := List.mem_cons_of_mem _ (List.mem_singleton.mpr rfl)
    have DU : D ∈ [D, p] := List.mem_cons_self
    have hDa := hD9.same (same_new (o := .lst []) nD)
    have sDa := same_new (o := .lst []) nD
    have eDa : upd X9 D (.lst []) D = _ := upd_same
    refine lc_range (lo := 0) (n := 5) (fun j H' => ∃ xs : List V, H' D = some (.lst xs) ∧ xs.length = j ∧ Its K [D, p] H' 3 6 xs ∧ Df K [D, p] H' v d ∧ Df K [D, p] H' v4 d4 ∧ But p X9 H' ∧ DiceAt H' p L (m9 + 15 * (j : Int)))
      ⟨[], eDa, rfl, Its.nil, gv, gv2, but_same sDa, hDa.more (by omega)⟩ ?_ ?_
    · rintro j Y hj ⟨xs, eD, lx, ix, iv, iv2, bY, hDY⟩
      refine ⟨rfl, ?_⟩
      refine ⟨_, rfl, _, rfl, p, L, [D, p], v, d, 2, 4, m9 + 15 * (j : Int), pU, ls2 hDY eD, rfl, iv, gd6', by decide, by decide, by decide, by decide, by omega, hDY, fun v' d' Y2 h' gd' bY2 hDY2 => ?_⟩
      have eD2 := bY2 _ _ nDp eD
      have bF : But D Y2 (upd Y2 D (.lst (xs ++ [v']))) := (But.refl D Y2).own
      refine ⟨xs, eD2, Nat.lt_of_lt_of_le (by omega) (show 100 ≤ sizeLine by decide), xs ++ [v'], upd_same, by rw [List.length_append, lx]; rfl, ((ix.but pU bY2).but DU bF).app (.cons (h'.but DU bF) gd' .nil), (iv.but pU bY2).but DU bF, (iv2.but pU bY2).but DU bF, fun b o n e => ?_, (hDY2.put nDp nDL).more (by omega)⟩
      rw [upd_ne (ne_of_none e nD)]
      exact bY2 _ _ n (bY _ _ n e)
    · rintro Y ⟨xs, eD, lx, ix, iv, iv2, bY, hDY⟩
      have el2Y := bY _ _ nl2p el2
      have at10 := at9.keep (hD9.tups bY)
      refine ⟨l2, D, _, xs, rfl, rfl, el2Y, eD, Nat.le_trans (show 2 + xs.length ≤ 100 by omega) (by decide), fun l3 nl3 => ?_⟩
      have z11 := same_new (o := .lst ([v, v4] ++ xs)) nl3
      have hDb := hDY.same z11
      have nl3p := hDY.ne nl3
      have el3 : upd Y l3 (.lst ([v, v4] ++ xs)) l3 = _ := upd_same
      have ixb : Its K [p] (upd Y l3 (.lst ([v, v4] ++ xs))) 3 6 xs := fun x hx => by
        obtain ⟨d2, a2, g2⟩ := ix x hx
        exact ⟨d2, (Df.less a2).same z11, g2⟩
      have ivb := (Df.less iv).same z11
      have iv2b := (Df.less iv2).same z11
      have at11 := at10.keep (tups_same z11)
      generalize upd Y l3 (.lst ([v, v4] ++ xs)) = Xb at z11 hDb el3 ixb ivb iv2b at11
      generalize hmb : m9 + 15 * ((5 : Nat) : Int) = mb' at hDb
      have mbb : mb' < 2 ^ 43 := by omega
      -- these spoilt again
      refine ⟨_, rfl, _, rfl, 2, rfl, l3, _, rfl, .inl (.inl el3), fun l4 nl4 => ?_⟩
      have c2' : cutV ([v, v4] ++ xs) (some 2) none = xs := cut_from (xs := [v, v4] ++ xs) (k := 2)
      rw [c2']
      have z12 := same_new (o := .lst xs) nl4
      have hDc := hDb.same z12
      have nl4p := hDb.ne nl4
      have el4 : upd Xb l4 (.lst xs) l4 = _ := upd_same
      have el3c := z12 _ _ el3
      have ixc := ixb.but (List.mem_singleton.mpr rfl) (but_same z12)
      have ivc := ivb.same z12
      have iv2c := iv2b.same z12
      have at12 := at11.keep (tups_same z12)
      generalize upd Xb l4 (.lst xs) = Xc at z12 hDc el4 el3c ixc ivc iv2c at12
      refine ⟨l4, rfl, ⟨_, .inl (.inl el4)⟩, fun D2 nD2 => ?_⟩
      have nDp2 := hDc.ne nD2
      have nDL2 := hDc.neL nD2
      have pU2 : p ∈ [D2, p] := List.mem_cons_of_mem _ (List.mem_singleton.mpr rfl)
      have DU2 : D2 ∈ [D2, p] := List.mem_cons_self
      have ixd : Its K [D2, p] (upd Xc D2 (.lst [])) 3 6 xs := fun x hx => by
        obtain ⟨d2, a2, g2⟩ := ixc x hx
        exact ⟨d2, a2.more nD2, g2⟩
      have ivd : Df K [D2, p] (upd Xc D2 (.lst [])) v d := ivc.more nD2
      have iv2d : Df K [D2, p] (upd Xc D2 (.lst [])) v4 d4 := iv2c.more nD2
      have sDd := same_new (o := .lst []) nD2
      have hDd := hDc.same sDd
      have eDd : upd Xc D2 (.lst []) D2 = _ := upd_same
      refine lc_list (K := K) (a := l4) (xs := xs) (fun j H' => ∃ ys : List V, H' D2 = some (.lst ys) ∧ ys.length = j ∧ Its K [D2, p] H' 4 8 ys ∧ Its K [D2, p] H' 3 6 xs ∧ Df K [D2, p] H' v d ∧ Df K [D2, p] H' v4 d4 ∧ But p Xc H' ∧ DiceAt H' p L (mb' + 21 * (j : Int)))
        ⟨[], eDd, rfl, Its.nil, ixd, ivd, iv2d, but_same sDd, hDd.more (by omega)⟩ (fun j H' _ ⟨_, _, _, _, _, _, _, b, _⟩ => .inl (.inl (b _ _ nl4p el4))) ?_ ?_
      · rintro j x Y hx ⟨ys, eD, lyy, iy, ix, iv, iv2, bY, hDY⟩
        have jl : j < xs.length := (List.getElem?_eq_some_iff.mp hx).1
        obtain ⟨dx, hdx, gdx⟩ := ix x (List.mem_of_getElem? hx)
        refine ⟨rfl, ?_⟩
        refine ⟨_, rfl, _, rfl, p, L, [D2, p], x, dx, 3, 6, mb' + 21 * (j : Int), pU2, ls2 hDY eD, rfl, hdx, gdx, by decide, by decide, by decide, by decide, by omega, hDY, fun v' d' Y2 h' gd' bY2 hDY2 => ?_⟩
        have eD2 := bY2 _ _ nDp2 eD
        have bF : But D2 Y2 (upd Y2 D2 (.lst (ys ++ [v']))) := (But.refl D2 Y2).own
        refine ⟨ys, eD2, Nat.lt_of_lt_of_le (by omega) (show 100 ≤ sizeLine by decide), ys ++ [v'], upd_same, by rw [List.length_append, lyy]; rfl, ((iy.but pU2 bY2).but DU2 bF).app (.cons (h'.but DU2 bF) gd' .nil), (ix.but pU2 bY2).but DU2 bF, (iv.but pU2 bY2).but DU2 bF, (iv2.but pU2 bY2).but DU2 bF, fun b o n e => ?_, (hDY2.put nDp2 nDL2).more (by omega)⟩
        rw [upd_ne (ne_of_none e nD2)]
        exact bY2 _ _ n (bY _ _ n e)
      · rintro Y ⟨ys, eD, lyy, iy, ix, iv, iv2, bY, hDY⟩
        have el3Y := bY _ _ nl3p el3c
        have at13 := at12.keep (hDc.tups bY)
        refine ⟨l3, D2, _, ys, rfl, rfl, el3Y, eD, Nat.le_trans (show ([v, v4] ++ xs).length + ys.length ≤ 100 by rw [List.length_append]; show 2 + xs.length + ys.length ≤ 100; omega) (by decide), fun l5 nl5 => ?_⟩
        have z14 := same_new (o := .lst ([v, v4] ++ xs ++ ys)) nl5
        have el5 : upd Y l5 (.lst ([v, v4] ++ xs ++ ys)) l5 = _ := upd_same
        have hDe := hDY.same z14
        have all : ∀ x ∈ [v, v4] ++ xs ++ ys, ∃ d, Dp K (upd Y l5 (.lst ([v, v4] ++ xs ++ ys))) x d ∧ Gd 4 8 d := fun x hx => by
          rcases List.mem_append.mp hx with hx | hx
          · rcases List.mem_append.mp hx with hx | hx
            · rcases List.mem_cons.mp hx with rfl | hx
              · exact ⟨d, (iv.same z14).dp, gd6'.mono (by decide) (by decide)⟩
              · rw [List.mem_singleton.mp hx]
                exact ⟨d4, (iv2.same z14).dp, gd8'.mono (by decide) (by decide)⟩
            · obtain ⟨d2, a2, g2⟩ := ix x hx
              exact ⟨d2, (a2.same z14).dp, g2.mono (by decide) (by decide)⟩
          · obtain ⟨d2, a2, g2⟩ := iy x hx
            exact ⟨d2, (a2.same z14).dp, g2⟩
        have at14 := at13.keep (tups_same z14)
        generalize hls : [v, v4] ++ xs ++ ys = ws at z14 el5 hDe all at14
        generalize upd Y l5 (.lst ws) = Xe at z14 el5 hDe all at14
        have szt : t.size ≤ 1000000 := by
          have z := size_deep t
          have p2 : 2 ^ t.deep ≤ 2 ^ 5 := Nat.pow_le_pow_right (by decide) dt
          omega
        refine ⟨l5, rfl, ⟨_, .inl (.inl el5)⟩, for_list (K := K) (a := l5) (xs := ws) (fun j σ H' => ∃ y7 y8 y9 y10 : Option V, σ = [some (.ref a), some (.ref p), some (.int (0 + (i : Int))), some xk, some v, some v3, some (.ref l3), y7, y8, y9, y10] ∧ Same Xe H')
          ⟨_, _, _, _, rfl, fun _ _ e => e⟩ (fun j σ H' _ ⟨_, _, _, _, _, sm⟩ => .inl (.inl (sm _ _ el5))) ?_ ?_⟩
        · rintro j x σ H8 hx ⟨y7, y8, y9, y10, rfl, sm⟩
          obtain ⟨dx, hdx0, gdx⟩ := all x (List.mem_of_getElem? hx)
          have hdx := dp_up sm _ _ hdx0
          have atx := at14.keep (tups_same sm)
          obtain ⟨f1, f2, f3, f4⟩ := gd_repr gdx (by decide)
          have shx := gd_shaped gdx (by decide)
          refine ⟨_, rfl, x, dx, rfl, hdx, f1, f2, f3, f4, ?_⟩
          refine ⟨_, rfl, _, rfl, xk, x, t, dx, rfl, atx, kt, szt, hdx, shx, fun H9 s9 => ?_⟩
          refine ⟨_, rfl, _, _, _, _, true, rfl, .ty "bool", .base (.bl _), kit_ty (by decide +kernel), _, rfl, ?_⟩
          refine iteF ⟨_, rfl, _, rfl, _, rfl, xk, x, t, dx, rfl, atx.keep (tups_same s9), kt, dt, dp_up s9 _ _ hdx, fun Ha sa => ?_⟩
          refine ⟨rfl, _, rfl, iteNS rfl ?_⟩
          refine ⟨_, rfl, x, dx, rfl, dp_up (s9.trans sa) _ _ hdx, f1, f2, f3, f4, _, rfl, rfl, _, rfl, iteNS rfl ?_⟩
          exact ⟨_, _, _, _, rfl, sm.trans (s9.trans sa)⟩
        · rintro σ H8 ⟨y7, y8, y9, y10, rfl, sm⟩
          exact ⟨_, _, _, _, _, _, _, _, _, rfl, (hDe.same sm).more (by omega)⟩
  · rintro σ X0 ⟨y2, y3, y4, y5, y6, y7, y8, y9, y10, rfl, hD⟩
    exact q _
end
end Kf
set_option Elab.async false
set_option linter.all false
set_option maxRecDepth 100000
/-! The top, the end. -/
namespace Kf
open PySem PySem.Spec PyProof.Rows L2 Sx _root_.Gd
theorem all_mk {l : PySem.W.OpenLaw} {w : World} {K : PySem.W.Frag} {h : Heap} {mg : Str → Option Value} {fa f1 f2 f3 f4 f5 f6 f7 f8 f9 f10 : Addr} (X : K.In h) (G : h.Ns mainGlobals mg) (hfa : mg "law" = some (.ref fa))
    {od1 an1 od2 an2 od3 an3 od4 an4 od5 an5 od6 an6 od7 an7 od8 an8 od9 an9 od10 an10 : Option Addr} {sl1 sl2 sl3 sl4 sl5 sl6 sl7 sl8 sl9 sl10 : Array (Option Value)} {oc1 kV1 dc1 pm1 cd1 ct1 oc2 kV2 dc2 pm2 cd2 ct2 oc3 kV3 dc3 pm3 cd3 ct3 oc4 kV4 dc4 pm4 cd4 ct4 oc5 kV5 dc5 pm5 cd5 ct5 oc6 kV6 dc6 pm6 cd6 ct6 oc7 kV7 dc7 pm7 cd7 ct7 oc8 kV8 dc8 pm8 cd8 ct8 oc9 kV9 dc9 pm9 cd9 ct9 oc10 kV10 dc10 pm10 cd10 ct10 : Value}
    (a1 : PySem.W.nsIn K mainGlobals "is_whole" = some (some (.ref f1))) (l1 : K.lookup f1 = some ⟨oc1, od1, .func (PySem.W.fnOf "is_whole" "is_whole" (defArgs sWhole) (defBody sWhole) (defScope sWhole) .none kV1 dc1 pm1 an1 cd1 ct1), sl1⟩) (c1 : PySem.W.codeIn K cd1 "is_whole" = true) (k1 : PySem.W.keepIn K (.ref f1) = true)
    (a2 : PySem.W.nsIn K mainGlobals "is_two" = some (some (.ref f2))) (l2 : K.lookup f2 = some ⟨oc2, od2, .func (PySem.W.fnOf "is_two" "is_two" (defArgs sTwo) (defBody sTwo) (defScope sTwo) .none kV2 dc2 pm2 an2 cd2 ct2), sl2⟩) (c2 : PySem.W.codeIn K cd2 "is_two" = true) (k2 : PySem.W.keepIn K (.ref f2) = true)
    (a3 : PySem.W.nsIn K mainGlobals "is_worth" = some (some (.ref f3))) (l3 : K.lookup f3 = some ⟨oc3, od3, .func (PySem.W.fnOf "is_worth" "is_worth" (defArgs sIsWorth) (defBody sIsWorth) (defScope sIsWorth) .none kV3 dc3 pm3 an3 cd3 ct3), sl3⟩) (c3 : PySem.W.codeIn K cd3 "is_worth" = true) (k3 : PySem.W.keepIn K (.ref f3) = true)
    (a4 : PySem.W.nsIn K mainGlobals "_law_roll" = some (some (.ref f4))) (l4 : K.lookup f4 = some ⟨oc4, od4, .func (PySem.W.fnOf "_law_roll" "_law_roll" (defArgs sRoll) (defBody sRoll) (defScope sRoll) .none kV4 dc4 pm4 an4 cd4 ct4), sl4⟩) (c4 : PySem.W.codeIn K cd4 "_law_roll" = true) (k4 : PySem.W.keepIn K (.ref f4) = true)
    (a5 : PySem.W.nsIn K mainGlobals "_law_pick" = some (some (.ref f5))) (l5 : K.lookup f5 = some ⟨oc5, od5, .func (PySem.W.fnOf "_law_pick" "_law_pick" (defArgs sPick) (defBody sPick) (defScope sPick) .none kV5 dc5 pm5 an5 cd5 ct5), sl5⟩) (c5 : PySem.W.codeIn K cd5 "_law_pick" = true) (k5 : PySem.W.keepIn K (.ref f5) = true)
    (a6 : PySem.W.nsIn K mainGlobals "_law_kind" = some (some (.ref f6))) (l6 : K.lookup f6 = some ⟨oc6, od6, .func (PySem.W.fnOf "_law_kind" "_law_kind" (defArgs sKind) (defBody sKind) (defScope sKind) .none kV6 dc6 pm6 an6 cd6 ct6), sl6⟩) (c6 : PySem.W.codeIn K cd6 "_law_kind" = true) (k6 : PySem.W.keepIn K (.ref f6) = true)
    (a7 : PySem.W.nsIn K mainGlobals "_law_worth" = some (some (.ref f7))) (l7 : K.lookup f7 = some ⟨oc7, od7, .func (PySem.W.fnOf "_law_worth" "_law_worth" (defArgs sWorthL) (defBody sWorthL) (defScope sWorthL) .none kV7 dc7 pm7 an7 cd7 ct7), sl7⟩) (c7 : PySem.W.codeIn K cd7 "_law_worth" = true) (k7 : PySem.W.keepIn K (.ref f7) = true)
    (a8 : PySem.W.nsIn K mainGlobals "_law_due" = some (some (.ref f8))) (l8 : K.lookup f8 = some ⟨oc8, od8, .func (PySem.W.fnOf "_law_due" "_law_due" (defArgs sDue) (defBody sDue) (defScope sDue) .none kV8 dc8 pm8 an8 cd8 ct8), sl8⟩) (c8 : PySem.W.codeIn K cd8 "_law_due" = true) (k8 : PySem.W.keepIn K (.ref f8) = true)
    (a9 : PySem.W.nsIn K mainGlobals "_law_spoilt" = some (some (.ref f9))) (l9 : K.lookup f9 = some ⟨oc9, od9, .func (PySem.W.fnOf "_law_spoilt" "_law_spoilt" (defArgs sSpoilt) (defBody sSpoilt) (defScope sSpoilt) .none kV9 dc9 pm9 an9 cd9 ct9), sl9⟩) (c9 : PySem.W.codeIn K cd9 "_law_spoilt" = true) (k9 : PySem.W.keepIn K (.ref f9) = true)
    (a10 : PySem.W.nsIn K mainGlobals "law" = some (some (.ref f10))) (l10 : K.lookup f10 = some ⟨oc10, od10, .func (PySem.W.fnOf "law" "law" (defArgs sLaw) (defBody sLaw) (defScope sLaw) .none kV10 dc10 pm10 an10 cd10 ct10), sl10⟩) (c10 : PySem.W.codeIn K cd10 "law" = true) (k10 : PySem.W.keepIn K (.ref f10) = true)
    (zrange : PySem.W.nsIn K mainGlobals "range" = some none)
    (zlen : PySem.W.nsIn K mainGlobals "len" = some none)
    (zlist : PySem.W.nsIn K mainGlobals "list" = some none)
    (zisinstance : PySem.W.nsIn K mainGlobals "isinstance" = some none)
    (zint : PySem.W.nsIn K mainGlobals "int" = some none)
    (zbool : PySem.W.nsIn K mainGlobals "bool" = some none)
    (zstr : PySem.W.nsIn K mainGlobals "str" = some none)
    (ztuple : PySem.W.nsIn K mainGlobals "tuple" = some none)
    (zrepr : PySem.W.nsIn K mainGlobals "repr" = some none)
    {tG : Tok} {gN : Int} (aTG : PySem.W.nsIn K mainGlobals "TOO_GREAT" = some (some (.int gN tG))) (eTG : gN = 10 ^ 60) :
    LawG l w K 25 63 "script" mg fa h := by
  have e := hfa.symm.trans (PySem.W.mg_of X G a10)
  cases e
  have F1 := fun_mk (st := sWhole) l1 c1 k1
  have b1 := F1.binds (ps := ["thing"]) fun _ _ _ _ _ _ us hl => match us, hl with | [_], _ => rfl
  have m1 := PySem.W.mg_of X G a1
  have F2 := fun_mk (st := sTwo) l2 c2 k2
  have b2 := F2.binds (ps := ["thing"]) fun _ _ _ _ _ _ us hl => match us, hl with | [_], _ => rfl
  have m2 := PySem.W.mg_of X G a2
  have F3 := fun_mk (st := sIsWorth) l3 c3 k3
  have b3 := F3.binds (ps := ["kind", "thing"]) fun _ _ _ _ _ _ us hl => match us, hl with | [_, _], _ => rfl
  have m3 := PySem.W.mg_of X G a3
  have F4 := fun_mk (st := sRoll) l4 c4 k4
  have b4 := F4.binds (ps := ["dice", "size"]) fun _ _ _ _ _ _ us hl => match us, hl with | [_, _], _ => rfl
  have m4 := PySem.W.mg_of X G a4
  have F5 := fun_mk (st := sPick) l5 c5 k5
  have b5 := F5.binds (ps := ["dice", "some"]) fun _ _ _ _ _ _ us hl => match us, hl with | [_, _], _ => rfl
  have m5 := PySem.W.mg_of X G a5
  have F6 := fun_mk (st := sKind) l6 c6 k6
  have b6 := F6.binds (ps := ["dice", "deep", "whole"]) fun _ _ _ _ _ _ us hl => match us, hl with | [_, _, _], _ => rfl
  have m6 := PySem.W.mg_of X G a6
  have F7 := fun_mk (st := sWorthL) l7 c7 k7
  have b7 := F7.binds (ps := ["dice", "kind"]) fun _ _ _ _ _ _ us hl => match us, hl with | [_, _], _ => rfl
  have m7 := PySem.W.mg_of X G a7
  have F8 := fun_mk (st := sDue) l8 c8 k8
  have b8 := F8.binds (ps := ["kind", "thing"]) fun _ _ _ _ _ _ us hl => match us, hl with | [_, _], _ => rfl
  have m8 := PySem.W.mg_of X G a8
  have F9 := fun_mk (st := sSpoilt) l9 c9 k9
  have b9 := F9.binds (ps := ["dice", "thing"]) fun _ _ _ _ _ _ us hl => match us, hl with | [_, _], _ => rfl
  have m9 := PySem.W.mg_of X G a9
  have F10 := fun_mk (st := sLaw) l10 c10 k10
  have m10 := PySem.W.mg_of X G a10
  have grange := PySem.W.mg_none_of X G zrange
  have glen := PySem.W.mg_none_of X G zlen
  have glist := PySem.W.mg_none_of X G zlist
  have gisinstance := PySem.W.mg_none_of X G zisinstance
  have gint := PySem.W.mg_none_of X G zint
  have gbool := PySem.W.mg_none_of X G zbool
  have gstr := PySem.W.mg_none_of X G zstr
  have gtuple := PySem.W.mg_none_of X G ztuple
  have grepr := PySem.W.mg_none_of X G zrepr
  refine ⟨PySem.W.fnOf "law" "law" (defArgs sLaw) (defBody sLaw) (defScope sLaw) .none kV10 dc10 pm10 an10 cd10 ct10, [], spLaw K, fun p hp => (List.not_mem_nil hp).elim, fun p hp => (List.not_mem_nil hp).elim, fun p hp => (List.not_mem_nil hp).elim, fun s v => .of_eq rfl,
    fun H a ns hl hb _ hS => ⟨a, ns, rfl, hS, hl, hb, fun _ => rfl⟩, fun base _ _ _ => ?_⟩

  have T : Blt mg := ⟨gisinstance, gint, gbool, gstr, gtuple, glen⟩
  have mTG : mg "TOO_GREAT" = some (.int (10 ^ 60) tG) := by
    rw [← eTG]
    exact PySem.W.mg_of X G aTG
  have gRoll := ok_roll (P := l.prog) (w := w) (base := base) (j := 0) F4 glen
  have D : Draw l.prog w K mg base f4 f5 _ _ := ⟨gRoll, b4, k4, m4, ok_pick F5 gRoll b4 k4 m4 glen, b5, k5, m5⟩
  have gWh := ok_whole (P := l.prog) (w := w) (base := base) (j := 0) F1 T
  have gTw := ok_two (P := l.prog) (w := w) (base := base) (j := 0) F2 T
  have gIs := ok_isworth F3 T mTG gWh b1 k1 m1 gTw b2 k2 m2
  have gKd := ok_kinds F6 D b6 m6
  have gWo := ok_worthLs F7 D b7 m7
  have gDu := ok_dues (P := l.prog) (w := w) (base := base) F8 T b8 m8
  have gSp := ok_sps F9 D T glist b9 m9
  exact ok_law F10 ⟨D, gKd, b6, k6, m6, gWo, b7, k7, m7, gDu, b8, k8, m8, gSp, b9, k9, m9, gIs, b3, k3, m3, T, grange, glist, grepr⟩
theorem walk {l : PySem.W.OpenLaw} {q : Program} {loose : List Str} {XP : (Str → Option Value) → Heap → Prop} {YP : World → Heap → Prop} {d : DefRec} {K : Params → PySem.W.Frag} (hn : l.most = some 63) (hdf : d.params.defaults = [])
    (hY : ∀ (w : World) (h : Heap), YP w h → (K w.params).In h)
    (F : ∀ (w : World) (mg : Str → Option Value) (fa : Addr) (h : Heap), (K w.params).In h → h.Ns mainGlobals mg → mg d.name = some (.ref fa) → LawG l w (K w.params) 25 63 "script" mg fa h) :
    PySem.W.WalkO q loose XP YP l.row.toRowW d [] (fun f vs => PySem.call f vs) :=
  walk_guard [] hn (by decide) hdf ⟨rfl, by decide, by decide⟩ (fun nm h => (List.not_mem_nil h).elim) hY (fun w mg fa h _ KX G hm _ => F w mg fa h KX G hm)
end Kf
open PySem PySem.W PyProof.Rows in
set_option maxRecDepth 100000 in
set_option maxHeartbeats 0 in
theorem PySem.Challenge.cw_prooffruit_k24_worths_or_not_holds : PySem.Challenge.rw_prooffruit_k24_worths_or_not.Holds := by
  w_on; o_law; k_head; (case hw => w_witness2)
  k_fill
  refine Kf.walk (l := PySem.Challenge.rw_prooffruit_k24_worths_or_not) rfl rfl (fun w h Y => PySem.W.kIn_of Y) ?F
  case F =>
    intro w mg fa h KX G hmg
    refine' Kf.all_mk KX G hmg ?a1 ?l1 ?c1 ?k1 ?a2 ?l2 ?c2 ?k2 ?a3 ?l3 ?c3 ?k3 ?a4 ?l4 ?c4 ?k4 ?a5 ?l5 ?c5 ?k5 ?a6 ?l6 ?c6 ?k6 ?a7 ?l7 ?c7 ?k7 ?a8 ?l8 ?c8 ?k8 ?a9 ?l9 ?c9 ?k9 ?a10 ?l10 ?c10 ?k10 ?zrange ?zlen ?zlist ?zisinstance ?zint ?zbool ?zstr ?ztuple ?zrepr ?aTG ?eTG
    (case a1 => first | k_is | rfl)
    (case l1 => first | k_is | rfl)
    (case c1 => first | k_is | rfl)
    (case k1 => first | k_is | rfl)
    (case a2 => first | k_is | rfl)
    (case l2 => first | k_is | rfl)
    (case c2 => first | k_is | rfl)
    (case k2 => first | k_is | rfl)
    (case a3 => first | k_is | rfl)
    (case l3 => first | k_is | rfl)
    (case c3 => first | k_is | rfl)
    (case k3 => first | k_is | rfl)
    (case a4 => first | k_is | rfl)
    (case l4 => first | k_is | rfl)
    (case c4 => first | k_is | rfl)
    (case k4 => first | k_is | rfl)
    (case a5 => first | k_is | rfl)
    (case l5 => first | k_is | rfl)
    (case c5 => first | k_is | rfl)
    (case k5 => first | k_is | rfl)
    (case a6 => first | k_is | rfl)
    (case l6 => first | k_is | rfl)
    (case c6 => first | k_is | rfl)
    (case k6 => first | k_is | rfl)
    (case a7 => first | k_is | rfl)
    (case l7 => first | k_is | rfl)
    (case c7 => first | k_is | rfl)
    (case k7 => first | k_is | rfl)
    (case a8 => first | k_is | rfl)
    (case l8 => first | k_is | rfl)
    (case c8 => first | k_is | rfl)
    (case k8 => first | k_is | rfl)
    (case a9 => first | k_is | rfl)
    (case l9 => first | k_is | rfl)
    (case c9 => first | k_is | rfl)
    (case k9 => first | k_is | rfl)
    (case a10 => first | k_is | rfl)
    (case l10 => first | k_is | rfl)
    (case c10 => first | k_is | rfl)
    (case k10 => first | k_is | rfl)
    (case zrange => first | k_is | rfl)
    (case zlen => first | k_is | rfl)
    (case zlist => first | k_is | rfl)
    (case zisinstance => first | k_is | rfl)
    (case zint => first | k_is | rfl)
    (case zbool => first | k_is | rfl)
    (case zstr => first | k_is | rfl)
    (case ztuple => first | k_is | rfl)
    (case zrepr => first | k_is | rfl)
    (case aTG => first | k_is | rfl)
    (case eTG => first | rfl | decide +kernel)
