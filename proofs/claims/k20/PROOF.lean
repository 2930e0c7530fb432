import PyProof.Rows.All
import Wide.All
import OpenK.AllK
import Wide.FinOn
import HandS.ForMost
import HandS.SetKeys
import HandS.SetFor
import HandS.Strs
import HandS.More
import HandS.Wide
import HandS.IsInst
import HandS.TupAny
import HandS.EndBits
import HandS.WideBits
import HandS.Deep
import HandS.DeepEq
import HandS.Lambda
import HandS.Nested
import HandS.Star
import HandS.Flow
import HandS.EndTab
import PyProof.ReprRoads
import HandS.EndOwn
import PyProof.ReprLen
import PySem.Challenge.RW_prooffruit_k20_kinds_or_not
set_option Elab.async false
set_option linter.all false
set_option maxRecDepth 100000
set_option maxHeartbeats 4000000
/-! Sets of texts, whatever the world's order of them is: set(), set(a list), add, sorted. -/
namespace Sx
open PySem PySem.Spec PyProof.Rows L2
/-- the text of an entry -/
def tx (e : Int × Value) : Str := match e.2 with
  | .str k _ => k
  | _ => Str.empty
def Ent (w : World) (e : Int × Value) : Prop := ∃ k tk, e = (hashStr w k, Value.str k tk)
/-- one text more -/
def ins (k : Str) (ks : List Str) : List Str := if k ∈ ks then ks else k :: ks
theorem ins_mem {k j : Str} {ks : List Str} : j ∈ ins k ks ↔ j = k ∨ j ∈ ks := by
  unfold ins
  split
  · rename_i h
    exact ⟨.inr, fun q => q.elim (fun e => e ▸ h) (fun q => q)⟩
  · exact List.mem_cons
theorem ins_nodup {k : Str} {ks : List Str} (h : ks.Nodup) : (ins k ks).Nodup := by
  unfold ins
  split
  · exact h
  · rename_i q
    exact List.nodup_cons.mpr ⟨q, h⟩
theorem ins_len {k : Str} {ks : List Str} : (ins k ks).length ≤ ks.length + 1 := by
  unfold ins
  split
  · omega
  · exact Nat.le_refl _
/-- the set's table: its rows are the texts ks, it can be walked -/
structure Rows (w : World) (es : Array (Int × Value)) (t : SetTable) (ks : List Str) : Prop where
  ent : ∀ e ∈ es.toList, Ent w e
  perm : (es.toList.map tx).Perm ks
  nd : ks.Nodup
  few : es.size < scanBound
  fit : t.fits es.size = true
  ris : Ris t.place.toList
  led : w.params.followText "set-order" = true ∨ t.led = true
def SetS (w : World) (h : Heap) (a : Addr) (ks : List Str) : Prop := ∃ o es ep t, h.get? a = some o ∧ o.ExactSet ∧ o.data = .set es ep t ∧ Rows w es t ks
section
variable {P : Program} {w : World} {h h' : Heap} {a : Addr} {ks : List Str} {es : Array (Int × Value)} {t : SetTable}
theorem SetS.stay (R : SetS w h a ks) (k : ∀ o, h.get? a = some o → h'.get? a = some o) : SetS w h' a ks := by
  obtain ⟨o, es, ep, t, ho, z⟩ := R
  exact ⟨o, es, ep, t, k o ho, z⟩
theorem Rows.size (r : Rows w es t ks) : es.size = ks.length := by
  have q := r.perm.length_eq
  rw [List.length_map, Array.length_toList] at q
  exact q
theorem ent_is {e : Int × Value} (g : Ent w e) (k : Str) : (PySem.strKind P w).is k e.2 = true ↔ tx e = k := by
  obtain ⟨j, tk, rfl⟩ := g
  show (j == k) = true ↔ j = k
  exact beq_iff_eq
theorem Rows.elems (r : Rows w es t ks) : ElemsOf (PySem.strKind P w) es.toList := by
  intro e he
  obtain ⟨k, tk, rfl⟩ := r.ent e he
  exact ⟨⟨k, strKind_is P w k tk, rfl⟩, rfl⟩
theorem Rows.mem (r : Rows w es t ks) (k : Str) : k ∈ ks ↔ ∃ e ∈ es.toList, (PySem.strKind P w).is k e.2 = true := by
  rw [← r.perm.mem_iff, List.mem_map]
  exact ⟨fun ⟨e, he, q⟩ => ⟨e, he, (ent_is (r.ent e he) k).2 q⟩, fun ⟨e, he, q⟩ => ⟨e, he, (ent_is (r.ent e he) k).1 q⟩⟩
theorem SetS.of (R : SetS w h a ks) : h.SetOf (PySem.strKind P w) a (fun k => decide (k ∈ ks)) ks.length := by
  obtain ⟨o, es, ep, t, ho, hx, hd, r⟩ := R
  exact ⟨o, es, ep, t, ho, hx, hd, r.elems, fun k => by rw [decide_eq_true_iff]; exact r.mem k, r.few, r.fit, r.size⟩
theorem rows_new (w : World) : Rows w #[] (.fresh 0 0 (!w.params.followText "set-order")) [] where
  ent := fun e he => by simp at he
  perm := List.Perm.refl _
  nd := List.nodup_nil
  few := by decide
  fit := rfl
  ris := List.Pairwise.nil
  led := by
    show _ ∨ (!w.params.followText "set-order") = true
    cases w.params.followText "set-order" with
    | true => exact .inl rfl
    | false => exact .inr rfl
end
section
variable {P : Program} {w : World} {A : Around} {E : Value → Shared → Prop} {s : Shared} {a : Addr} {ks : List Str}
/-- the table is stored, and laid anew where it is too full -/
theorem stored {gave : Bool → Sem Unit} (hg : ∀ (b : Bool) (z : Shared) (Y : Unit → Shared → Prop), Y () z → wpAny (model P w) A (gave b) Y E z)
    {o : Obj} {es0 es : Array (Int × Value)} {ep : Nat} {t0 t : SetTable} (ho : s.heap.get? a = some o) (hx : o.ExactSet) (hd : o.data = .set es0 ep t0) (r : Rows w es t ks) {dummy : Bool} {Z : Option Bool → Shared → Prop}
    (hZ : ∀ h', Heap.SameBut a s.heap h' → SetS w h' a ks → Z (some true) { s with heap := h' }) :
    wpAny (model P w) A (do
        storeSet a es t
        if (!dummy && t.tooFull) = true then do
            gave (relayAll t es (SetTable.grown es.size)).2.2
            storeSet a (relayAll t es (SetTable.grown es.size)).1 (relayAll t es (SetTable.grown es.size)).2.1
            pure (some true)
          else pure (some true)) Z E s := by
  have first := Heap.SameBut.update s.heap a (Obj.putSet es t)
  have o1 := store_at (es' := es) (t' := t) ho hd
  refine wpAny_bind (wpAny_storeSet_of ho hd ?_ (fits_of_scanBound r.few))
  by_cases full : (!dummy && t.tooFull) = true
  · rw [if_pos full]
    have r2 : Rows w (relayAll t es (SetTable.grown es.size)).1 (relayAll t es (SetTable.grown es.size)).2.1 ks := by
      have pm := relayAll_perm t es (SetTable.grown es.size)
      have sz : (relayAll t es (SetTable.grown es.size)).1.size = es.size := by
        have q := pm.length_eq
        rw [Array.length_toList, Array.length_toList] at q
        exact q
      exact ⟨fun e he => r.ent e (pm.mem_iff.mp he), (pm.map tx).trans r.perm, r.nd, Nat.lt_of_le_of_lt (Nat.le_of_eq sz) r.few, relayAll_fits _ _ _, relayAll_ris _ _ _, r.led.imp (fun z => z) fun z => (relayAll_led _ _ _).trans z⟩
    refine wpAny_bind (hg _ _ _ (wpAny_bind (wpAny_storeSet_of o1 rfl ?_ (fits_of_scanBound r2.few))))
    exact wpAny_pure (hZ _ (first.trans (Heap.SameBut.update _ a _)) ⟨_, _, _, _, store_at o1 rfl, hx, rfl, r2⟩)
  · rw [if_neg full]
    exact wpAny_pure (hZ _ first ⟨_, _, _, _, o1, hx, rfl, r⟩)
theorem plain_off {w : World} {es : Array (Int × Value)} {t : SetTable} {ks : List Str} (r : Rows w es t ks) : Rows w es { t with plain := false } ks :=
  ⟨r.ent, r.perm, r.nd, r.few, SetTable.fits_plain_off r.fit, r.ris, r.led⟩
/-- a text whose hash is known is added -/
theorem add_at {k : Str} {tk : Tok} {Z : Bool → Shared → Prop} (R : SetS w s.heap a ks) (room : ks.length + 1 < scanBound)
    (hZ : ∀ b h', Heap.SameBut a s.heap h' → SetS w h' a (ins k ks) → Z b { s with heap := h' }) : wpAny (model P w) A (setAddHashed a (.str k tk) (hashStr w k)) Z E s := by
  obtain ⟨o, es, ep, t, ho, hx, hd, r⟩ := R
  have hel : ElemsOf (PySem.strKind P w) es.toList := r.elems
  have hscan : byScan (Value.str k tk) es = true := byScan_of rfl r.few hel
  unfold setAddHashed setAddHashedIn
  refine wpAny_holding (wpAny_bind (wpAny_setState_of ho hd r.fit ?_))
  dsimp only
  rw [hscan]
  simp only [↓reduceIte]
  unfold setAddByScan
  refine wpAny_bind (wpAny_bind (wpAny_rule (wpAny_bind (wpAny_setScan_of (knd := PySem.strKind P w) (k := k) (strKind_is P w k tk) ho hd r.fit hel ?_))))
  cases found : List.findIdx? (fun e => (PySem.strKind P w).is k e.2) es.toList with
  | some j =>
    obtain ⟨lt, hit, _⟩ := List.findIdx?_eq_some_iff_getElem.mp found
    have there : k ∈ ks := (r.mem (P := P) k).2 ⟨_, List.getElem_mem lt, hit⟩
    refine wpAny_pure (wpAny_pure (hZ _ s.heap (Heap.SameBut.refl a s.heap) ⟨o, es, ep, t, ho, hx, hd, ?_⟩))
    unfold ins
    rw [if_pos there]
    exact r
  | none =>
    have away : k ∉ ks := fun z => by
      obtain ⟨e, he, hit⟩ := (r.mem (P := P) k).1 z
      have no := List.findIdx?_eq_none_iff.mp found e he
      rw [hit] at no
      cases no
    have pm0 := layNew_perm t es (hashStr w k) (.str k tk)
    rw [Array.toList_push] at pm0
    have pm := pm0.trans (List.perm_append_singleton (hashStr w k, Value.str k tk) es.toList)
    have r1 : Rows w (layNew t es (hashStr w k) (.str k tk)).1 (layNew t es (hashStr w k) (.str k tk)).2.1 (ins k ks) := by
      have sz : (layNew t es (hashStr w k) (.str k tk)).1.size = ks.length + 1 := by
        have q := pm.length_eq
        rw [Array.length_toList, List.length_cons, Array.length_toList, r.size] at q
        exact q
      refine ⟨fun e he => ?_, ?_, ins_nodup r.nd, Nat.lt_of_le_of_lt (Nat.le_of_eq sz) room, layNew_fits _ _ _ _, layNew_ris _ _ _ _ r.ris, r.led.imp (fun z => z) fun z => (layNew_led _ _ _ _).trans z⟩
      · rcases List.mem_cons.mp (pm.mem_iff.mp he) with z | z
        · exact ⟨k, tk, z⟩
        · exact r.ent e z
      · unfold ins
        rw [if_neg away]
        exact (pm.map tx).trans (List.Perm.cons k r.perm)
    have gw : ∀ (b : Bool) (z : Shared) (Y : Unit → Shared → Prop), Y () z → wpAny (model P w) A (match b with | true => rule "set.scan.the-table-gave-way" | false => pure ()) Y E z := by
      intro b z Y q
      cases b with
      | true => exact wpAny_rule q
      | false => exact wpAny_pure q
    have goal2 : ∀ h', Heap.SameBut a s.heap h' → SetS w h' a (ins k ks) → Z true { s with heap := h' } := fun h' sb r' => hZ true h' sb r'
    dsimp only
    change wpAny _ _ _ _ _ _
    generalize layNew t es (hashStr w k) (.str k tk) = L at r1 ⊢
    obtain ⟨es1, t1, dummy, gave⟩ := L
    dsimp only at r1 ⊢
    refine wpAny_bind (gw _ _ _ ?_)
    by_cases pl : t1.plain = true
    · rw [if_pos pl]
      refine wpAny_bind ?_
      rw [hashByValue_scannable 8 (show (Value.str k tk).scannable = true from rfl)]
      refine wpAny_pure ?_
      refine stored gw ho hx hd (ks := ins k ks) ?_ fun h' sb r' => wpAny_pure (goal2 h' sb r')
      split
      · exact r1
      · exact plain_off r1
    · rw [if_neg pl]
      refine wpAny_bind (wpAny_pure ?_)
      simp only [↓reduceIte]
      exact stored gw ho hx hd (ks := ins k ks) r1 fun h' sb r' => wpAny_pure (goal2 h' sb r')
end
/-- the texts of the first i are put in, one by one -/
def insAll (ks : List Str) : List Str → List Str
  | [] => ks
  | x :: r => insAll (ins x ks) r
theorem insAll_mem {j : Str} : ∀ (xs ks : List Str), j ∈ insAll ks xs ↔ j ∈ xs ∨ j ∈ ks
  | [], ks => by simp [insAll]
  | x :: r, ks => by
    rw [insAll, insAll_mem r, ins_mem, List.mem_cons]
    constructor
    · rintro (h | h | h)
      · exact .inl (.inr h)
      · exact .inl (.inl h)
      · exact .inr h
    · rintro ((h | h) | h)
      · exact .inr (.inl h)
      · exact .inl h
      · exact .inr (.inr h)
theorem insAll_len : ∀ (xs ks : List Str), (insAll ks xs).length ≤ ks.length + xs.length
  | [], ks => Nat.le_refl _
  | x :: r, ks => by
    have h1 := insAll_len r (ins x ks)
    have h2 := ins_len (k := x) (ks := ks)
    rw [insAll, List.length_cons]
    omega
section
variable {P : Program} {w : World} {A : Around} {E : Value → Shared → Prop} {s : Shared}
/-- set.update's own loop over a walk that yields texts -/
theorem feed_loop {I : Addr} {fp wr : List Addr} {G : Array GenState → Array GenState → Prop} {n : Nat} {Y : Nat → Value → Prop} {St : Nat → Shared → Prop} {Z : Result → Shared → Prop}
    (W : WalksS P w A.in1 I fp wr G n Y St) (S : Addr) (out : S ∉ fp) (texts : List Str) (hn : texts.length = n) (hb : n + 1 < scanBound) (hY : ∀ i v, Y i v → ∃ k tk, texts[i]? = some k ∧ v = .str k tk) :
    ∀ (left : Nat) (i : Nat) (ks : List Str) (s : Shared), i + left = n → St i s → SetS w s.heap S ks → ks.length ≤ i →
      (∀ s', Moved (S :: wr) G s s' → SetS w s'.heap S (insAll ks (texts.drop i)) → Z (.ok (.ret .none)) s') → codeAny (model P w) A (.builtin "set.update.loop" ⟨[.ref S, .ref I], []⟩) Z s := by
  have quietS : S ∉ wr := fun z => out (W.sub _ z)
  have more : ∀ b ∈ wr, b ∈ S :: wr := fun b hb => List.mem_cons_of_mem _ hb
  intro left
  induction left with
  | zero =>
    intro i ks s hi hst hS _ hZ
    have e0 : texts.drop i = [] := List.drop_eq_nil_of_le (by omega)
    rw [e0] at hZ
    have e1 : i = n := by omega
    rw [e1] at hst
    refine codeAny_builtin F.entry_set_update_loop ?_
    rw [Around.under_plainId F.plain_set_update_loop _]
    show wpAny _ A.in1 (pyNext (.ref I) >>= _) _ _ s
    refine wpAny_bind (W.done s _ _ hst fun s' mv => wpAny_pure (hZ s' (mv.mono more) (hS.stay fun o e => mv.heap S o quietS e)))
  | succ left ih =>
    intro i ks s hi hst hS hk hZ
    have lt : i < n := by omega
    refine codeAny_builtin F.entry_set_update_loop ?_
    rw [Around.under_plainId F.plain_set_update_loop _]
    show wpAny _ A.in1 (pyNext (.ref I) >>= _) _ _ s
    refine wpAny_bind (W.item i s _ _ lt hst fun v s1 hv hst1 mv => ?_)
    obtain ⟨k, tk, hk1, rfl⟩ := hY i v hv
    have hS1 : SetS w s1.heap S ks := hS.stay fun o e => mv.heap S o quietS e
    have ed : texts.drop i = k :: texts.drop (i + 1) := by
      obtain ⟨lt2, e2⟩ := List.getElem?_eq_some_iff.mp hk1
      rw [← e2]
      exact List.drop_eq_getElem_cons lt2
    rw [ed] at hZ
    show wpAny _ A.in1 (holding [Value.str k tk] (setAdd S (.str k tk)) >>= _) _ _ s1
    unfold setAdd
    refine wpAny_bind (wpAny_holding (wpAny_holding (wpAny_bind ((PySem.strKind P w).pyHash (k := k) (strKind_is P w k tk) ?_))))
    refine add_at (s := { s1 with toks := s1.toks + 1 }) hS1 (by omega) fun b h' sb hS2 => ?_
    refine wpAny_pure ⟨plainId_quiet F.plain_set_update_loop _, ih (i + 1) (ins k ks) _ (by omega) (W.frame _ s1 _ _ hst1 (Nat.le_succ _) fun c hc o e => ?_) hS2 ?_ fun s2 mv2 hS3 => ?_⟩
    · have away : c ≠ S := fun z => out (z ▸ hc)
      rw [sb.2 c away]
      exact e
    · have := ins_len (k := k) (ks := ks)
      omega
    · refine hZ s2 (Moved.trans W.gtrans ((mv.mono more).then_heap (Nat.le_succ _) fun c o hc e => ?_) mv2) hS3
      have away : c ≠ S := fun z => hc (z ▸ List.mem_cons_self)
      rw [sb.2 c away]
      exact e
/-- the empty set, as it is made -/
abbrev bare (w : World) : Obj := { cls := .type "set", dict := none, data := .set #[] 0 (.fresh 0 0 (!w.params.followText "set-order")) }
theorem bare_holds {h : Heap} {a : Addr} (ho : h.get? a = some (bare w)) : SetS w h a [] := ⟨_, _, _, _, ho, ⟨rfl, rfl, rfl⟩, rfl, rows_new w⟩
set_option maxHeartbeats 8000000 in
theorem set_of_list {l : Addr} {items : Array Value} (texts : List Str) {Z : Value → Shared → Prop} (hh : A.handled = none) (hl : s.heap.IsList l items) (ht : StrsAre items.toList texts) (hb : texts.length + 1 < scanBound)
    (hZ : ∀ (h' : Heap) (tk : Nat), SetS w h' s.heap.objs.size (insAll [] texts) → (∀ b o, s.heap.get? b = some o → h'.get? b = some o) → Z (.ref s.heap.objs.size) { s with heap := h', toks := tk }) :
    wpAny (model P w) A (call (.type "set") [.ref l]) Z E s := by
  have count : texts.length = items.size := by
    have q := StrsAre.len_eq ht
    rw [Array.length_toList] at q
    exact q.symm
  obtain ⟨c, tl, hmro⟩ := F.called_set.mro
  have made := F.called_set.made
  have sub := F.called_set.sub
  have noType := F.called_set.notType
  have can := F.called_set.canCreate
  have tcall := F.typeCall_set_1 (.ref l)
  refine wpAny_call (codeAny_of_tree ?_)
  show wpAny _ _ (callAny (.type "set") _) _ _ _
  refine wpAny_pure ⟨Code.quiet_builtin _ (by decide +kernel), codeAny_builtin F.entry_type_call ?_⟩
  rw [Around.under_plain (weight_type_call_type "set" [.ref l] []) rfl]
  repeat (any_goals (first | assumption | wp_step))
  refine codeAny_mono (code_set_led1 (.ref l) (E := E) (Q₁ := fun v z => v = .ref s.heap.objs.size ∧ z = { s with heap := s.heap.push (bare w) }) ⟨rfl, rfl⟩) fun r z hr => ?_
  match r, hr with
  | .error _, hr => exact hr
  | .ok .next, hr => exact hr.elim
  | .ok .brk, hr => exact hr.elim
  | .ok .cont, hr => exact hr.elim
  | .ok (.ret _), hr =>
    obtain ⟨rfl, rfl⟩ := hr
    have hS : (s.heap.push (bare w)).get? s.heap.objs.size = some (bare w) := Heap.get?_push_size _ rfl
    have isSet : Shared.TypeIs { s with heap := s.heap.push (bare w) } (.ref s.heap.objs.size) "set" := ⟨_, hS, rfl⟩
    have initL := F.called_set.init.lookup
    have initB := F.called_set.init.bind (.ref s.heap.objs.size)
    repeat (any_goals (first | assumption | wp_step))
    refine codeAny_mono (codeAny_call_builtin (R := wants (fun v z => v = .none ∧ ∃ h' tk, z = { s with heap := h', toks := tk } ∧ SetS w h' s.heap.objs.size (insAll [] texts) ∧ ∀ b o, s.heap.get? b = some o → h'.get? b = some o) E)
      F.called_set.init.plain F.entry_set_init (check_set_init_1 isSet ?_)) fun r z hr => ?_
    · have hl1 : (s.heap.push (bare w)).IsList l items := hl.push _
      obtain ⟨⟨_, dd, _, sl⟩, hol, rfl, nl, rfl⟩ := id hl
      have hol1 : (s.heap.push (bare w)).get? l = some ⟨.type "list", dd, .seq items nl, sl⟩ := Heap.get?_push_of_some _ hol
      have sub1 := F.sub_list_set
      have sub2 := F.sub_list_frozenset
      have unlike : (Value.type "list" == Value.type "dict") = false := by decide
      unfold Builtin.«set.__init__» noKeywords Builtin.Frozenset.updateFrom
      generalize hPI : pyIter = PI
      wp_walk
      subst hPI
      refine wpAny_pyIter_list hl1 (wpAny_bind (wpAny_runValue ?_))
      have old : l < s.heap.objs.size := Heap.lt_size hol
      have sz1 : (s.heap.push (bare w)).objs.size = s.heap.objs.size + 1 := Heap.size_push ..
      have apart : l ≠ (s.heap.push (bare w)).objs.size := by
        rw [sz1]
        exact Nat.ne_of_lt (Nat.lt_succ_of_lt old)
      have out : s.heap.objs.size ∉ [(s.heap.push (bare w)).objs.size, l] := by
        intro z
        rcases List.mem_cons.mp z with z | z
        · rw [sz1] at z
          omega
        · exact absurd old (by rw [← List.mem_singleton.mp z]; exact Nat.lt_irrefl _)
      have texty : ∀ (i : Nat) (v : Value), items[i]? = some v → ∃ k tk, texts[i]? = some k ∧ v = .str k tk := fun i v hv => by
        have hi : i < texts.length := by
          rw [count]
          exact (Array.getElem?_eq_some_iff.mp hv).1
        obtain ⟨tk, e⟩ := SS.strs_at ht i v (by rw [Array.getElem?_toList]; exact hv)
        refine ⟨texts[i], tk, List.getElem?_eq_getElem hi, ?_⟩
        rw [e, List.getD_eq_getElem?_getD, List.getElem?_eq_getElem hi]
        rfl
      have hh3 : A.in1.in1.in1.handled = none := by simp [hh]
      refine feed_loop ((Walks.list hh3 _ l apart items).toS) s.heap.objs.size out texts count (by rw [← count]; exact hb) texty items.size 0 [] _ (Nat.zero_add _) ⟨⟨_, Heap.get?_push_size _ rfl, rfl, rfl⟩, hl1.push _⟩
        (bare_holds (Heap.get?_push_of_some _ hS)) (Nat.le_refl _) fun s' mv hS' => ?_
      obtain ⟨h', g', d', tk', os'⟩ := s'
      have eg : g' = s.gens := mv.gens
      have ed : d' = s.drawn := mv.drawn
      have eo : os' = s.os := mv.os
      subst eg ed eo
      show wpAny _ _ _ _ _ _
      refine wpAny_pure ?_
      show wpAny _ _ (ret Value.none) _ _ _
      refine wpAny_pure ⟨rfl, h', tk', rfl, hS', fun b o e => ?_⟩
      have lt := Heap.lt_size e
      refine mv.heap b o (fun z => ?_) (Heap.get?_push_of_some _ (Heap.get?_push_of_some _ e))
      rcases List.mem_cons.mp z with z | z
      · rw [z] at lt
        exact Nat.lt_irrefl _ lt
      · have z2 := List.mem_singleton.mp z
        have lt2 : b < (s.heap.push (bare w)).objs.size := by
          rw [sz1]
          exact Nat.lt_succ_of_lt lt
        rw [z2] at lt2
        exact Nat.lt_irrefl _ lt2
    · match r, hr with
      | .error _, hr => exact hr
      | .ok .next, hr => exact hr.elim
      | .ok .brk, hr => exact hr.elim
      | .ok .cont, hr => exact hr.elim
      | .ok (.ret _), hr =>
        obtain ⟨rfl, h', tk, rfl, hS', keep⟩ := hr
        repeat (any_goals (first | assumption | wp_step))
        exact hZ _ _ hS' keep
/-- the texts of values that are texts -/
theorem texts_of : ∀ (vs : List Value), (∀ v ∈ vs, ∃ k tk, v = Value.str k tk) → ∃ ks, StrsAre vs ks ∧ ks = vs.map fun v => tx (0, v)
  | [], _ => ⟨[], .nil, rfl⟩
  | v :: vs, h => by
    obtain ⟨k, tk, rfl⟩ := h v List.mem_cons_self
    obtain ⟨ks, h1, h2⟩ := texts_of vs fun u hu => h u (List.mem_cons_of_mem _ hu)
    exact ⟨k :: ks, .cons k tk h1, by rw [h2]; rfl⟩
theorem sorted_of_set {a : Addr} {ks : List Str} {Z : Value → Shared → Prop} (R : SetS w s.heap a ks) (hh : A.handled = none) (few : ks.length < 64)
    (hZ : ∀ s' p (out : Array Value) (c : Nat) (ys : List Str), (∀ b o, s.heap.get? b = some o → s'.heap.get? b = some o) → s'.gens = s.gens → s'.os = s.os → s.heap.objs.size ≤ p →
      s'.heap.get? p = some (seqObj "list" out c) → StrsAre out.toList ys → ys.Perm ks → sortedS ys = true → Z (.ref p) s') :
    wpAny (model P w) A (call (.builtin "sorted") [.ref a]) Z E s := by
  obtain ⟨o, es, ep, t, ho, hx, hd, r⟩ := R
  refine Calls.call_function_entry kind_sorted plain_sorted entry_sorted (args_sorted1 _) ?_
  unfold Builtin.«sorted»
  refine wpAny_bind (m := checkCount "sorted" 1 1 _) (wpAny_pure ?_)
  refine wpAny_bind (collect_set (A := A.in1) hh ⟨o, ho, hx.1, hd⟩ r.fit r.few r.ris r.led fun s1 vs keep more g1 o1 pm => ?_)
  obtain ⟨texts, isT, eT⟩ := texts_of vs fun v hv => by
    obtain ⟨e, he, q⟩ := List.mem_map.mp (pm.mem_iff.mp hv)
    obtain ⟨k, tk, ee⟩ := r.ent e he
    exact ⟨k, tk, by rw [← q, ee]⟩
  have pT : texts.Perm ks := by
    refine List.Perm.trans ?_ r.perm
    rw [eT]
    have q := pm.map fun v => tx (0, v)
    rw [List.map_map] at q
    exact q
  have len : vs.length = ks.length := by
    rw [StrsAre.len_eq isT]
    exact pT.length_eq
  have line : vs.length ≤ sizeLine := by
    rw [len, sizeLine_eq]
    omega
  have hL : (s1.heap.push (seqObj "list" vs.toArray 0)).get? s1.heap.objs.size = some (seqObj "list" vs.toArray 0) := Heap.get?_push_size _ rfl
  refine wpAny_bind (wpAny_newList ?_ line)
  refine wpAny_bind (wpAny_holding (wpAny_call_entry slot_list_sort ⟨_, hL, rfl⟩ entry_list_sort (list_sort_treeK strKind_oneLt hL isT.keysOf (fun v₁ v₂ rest e => keyKind_strs (by rw [← e]; exact isT)) (by rw [len]; exact few) fun st hp hs => ?_) (args_list_sort _)))
  obtain ⟨ys, y1, y2, y3⟩ := sorted_out_str isT hp hs
  obtain ⟨c, hc⟩ := sortedHeap_at (vs := vs) (out := (arrOf st).map (·.2)) hL
  refine ⟨_, rfl, wpAny_pure ⟨_, rfl, hZ _ s1.heap.objs.size _ c ys (fun b u e => ?_) g1 o1 more hc y1 (y2.trans pT) y3⟩⟩
  have q := keep b u e
  have lt := Heap.lt_size q
  show (sortedHeap (s1.heap.push (seqObj "list" vs.toArray 0)) s1.heap.objs.size vs _).get? b = some u
  rw [sortedHeap_old (Nat.ne_of_lt lt) (by rw [Heap.size_push]; exact Nat.lt_succ_of_lt lt)]
  exact Heap.get?_push_of_some _ q
end
end Sx
set_option Elab.async false
set_option linter.all false
set_option maxRecDepth 100000
set_option maxHeartbeats 4000000
/-! The rules over sets of texts. -/
namespace Sx
open PySem PySem.Spec PyProof.Rows L2
/-- a set of the texts ks stands at a -/
def SetX (w : World) (a : Addr) (ks : List Str) : HO := .ext fun h => SetS w h a ks
section
variable {X : Cx}
theorem setX_new {w : World} {P : Program} {H : Hp} {h : Heap} {a : Addr} {ks : List Str} (R : SetS w h a ks) : ObjOk P w H h a (SetX w a ks) := by
  have ⟨o, _, _, _, ho, _⟩ := R
  exact ⟨R, ⟨o, ho⟩, fun _ _ r k => SetS.stay r k⟩
theorem setX_get {pins : List (Addr × Obj)} {σ : L2.St} {H : Hp} {s : Shared} {a : Addr} {ks : List Str} (I : Inv X pins σ H s) (e : H a = some (SetX X.w a ks)) : SetS X.w s.heap a ks := (I.hok a _ e).1
/-- set() -/
def rNewX (w : World) : List V → Hp → VK → Prop := fun xs H Q => xs = [] ∧ ∀ p, H p = none → Q (.ref p) (upd H p (SetX w p []))
theorem cr_newX : CallR X (.type "set") (rNewX X.w) := by
  intro pins s σ H xs us Q I r ⟨e, q⟩
  subst e
  cases r
  refine setR_new fun _ => ⟨.ref _, upd H s.heap.objs.size (SetX X.w s.heap.objs.size []), ?_, rfl, q _ (I.hok.fresh (Nat.le_refl _))⟩
  exact I.laid (t' := s.toks) (fun b u e => Heap.get?_push_of_some _ e) (Nat.le_refl _) (setX_new (bare_holds (Heap.get?_push_size _ rfl)))
/-- set(a list of texts) -/
def rOfX (K : PySem.W.Frag) (w : World) : List V → Hp → VK → Prop := fun xs H Q => ∃ (l : Addr) (texts : List Str), xs = [.ref l] ∧ SqL K H l (texts.map V.str) ∧ texts.length + 1 < scanBound ∧
  ∀ p, H p = none → Q (.ref p) (upd H p (SetX w p (insAll [] texts)))
theorem cr_ofX (hc : X.calm = true) : CallR X (.type "set") (rOfX X.K X.w) := by
  intro pins s σ H xs us Q I r ⟨l, texts, e, hq, few, q⟩
  subst e
  rw [Vals.ref1 r]
  obtain ⟨its, rv, pl, _⟩ := I.list hq
  refine set_of_list texts (I.ok.hd hc) pl.isList (by simpa using strsAre_of rv) few fun h' tk hS keep => ?_
  exact ⟨.ref _, upd H s.heap.objs.size (SetX X.w s.heap.objs.size (insAll [] texts)), I.laid (t' := tk) keep (Nat.le_refl _) (setX_new hS), rfl, q _ (I.hok.fresh (Nat.le_refl _))⟩
/-- found.add(text) -/
def rAddX (w : World) : V → List V → Hp → VK → Prop := fun x xs H Q => ∃ (a : Addr) (k : Str) (ks : List Str), x = V.ref a ∧ xs = [V.str k] ∧ H a = some (SetX w a ks) ∧ ks.length + 1 < scanBound ∧ Q .non (upd H a (SetX w a (ins k ks)))
theorem mt_addX : MtR X "set.add" (rAddX X.w) := by
  intro pins s σ H x xs v us Q I rx rxs ⟨a, k, ks, e1, e2, ha, room, q⟩
  subst e1 e2
  cases rx
  obtain ⟨u, rfl, tk, rfl⟩ := vals1 rxs
  have R := setX_get I ha
  refine wpAny_call_entry F.slot_set_add (R.of (P := X.prog)).typeIs F.entry_set_add ?_ (F.args_set_add_2 _ _)
  unfold Builtin.«set.add» Builtin.Frozenset.oneOther
  simp only [List.isEmpty_nil, bind_assoc]
  unfold Builtin.Frozenset.addrOf setAdd
  refine wpAny_bind (wpAny_pure ?_)
  try dsimp only
  refine wpAny_bind (wpAny_pure ?_)
  try dsimp only
  refine wpAny_bind (wpAny_holding (wpAny_bind ((PySem.strKind X.prog X.w).pyHash (strKind_is X.prog X.w k tk) ?_)))
  refine add_at (s := { s with toks := s.toks + 1 }) R room fun b h' sb new => ?_
  show wpAny _ _ (ret Value.none) _ _ _
  have there : ∃ u, h'.get? a = some u := by
    obtain ⟨o, _, _, _, ho, _⟩ := new
    exact ⟨o, ho⟩
  exact wpAny_pure ⟨_, rfl, .non, upd H a (SetX X.w a (ins k ks)), I.write (e := a) (t' := s.toks + 1) (by rw [ha]; trivial) (.inl rfl) (fun c u hc hu => (sb.2 c hc).trans hu) there (setX_new new), rfl, q⟩
def tAddX (w : World) (to : TE) (t : TA) : TE := fun σ H Q => to σ H fun x H1 => (∃ a ks, x = V.ref a ∧ H1 a = some (SetX w a ks)) ∧ t σ H1 fun xs H2 => rAddX w x xs H2 Q
theorem pe_addX {o e : Expr} {to : TE} {t : TA} {apos cpos : Pos} (ho : PE X o to) (ha : PA X [e] t)
    (h1 : attributeBase o "add" X.env (eval o X.env) = eval o X.env := by rfl)
    (h2 : ((backTo cpos (starEach [e] X.env)).all (fun x => !x.1) && (backToKw cpos (keywordEach [] X.env)).all (fun x => x.1.isSome) && decide ([e].length + ([] : List Keyword).length + (if ([] : List Keyword).isEmpty then 0 else 1) < 30)) = true := by rfl)
    (h3 : (apos.endLine == cpos.line) = true := by rfl) (h4 : starEach [e] X.env = (false, eval e X.env) :: starEach [] X.env := by rfl) (h5 : (backTo cpos (starEach [] X.env)).any (·.1) = false := by rfl) :
    PE X (.Call (.Attribute o "add" apos) [e] [] cpos) (tAddX X.w to t) := by
  refine ⟨fun pins s σ H Q I h => wpAny_Call_method_late h1 h2 h3 rfl (thn (ho.run pins s σ H _ I h) fun v s1 ⟨x, H1, I1, r1, ⟨a, ks, ex, hka⟩, q1⟩ => ?_)⟩
  subst ex
  cases r1
  have R := (setX_get I1 hka).of (P := X.prog)
  have run := ha.run cpos pins s1 σ H1 _ I1 q1
  refine ⟨"set", "set.add", F.plainAttrs_set, F.slot_set_add, F.type_set_add, R.typeIs, R.noDict, ?_⟩
  rw [h4] at run ⊢
  refine Calls.callWith_builtin (by show (false || (backTo cpos (starEach [] X.env)).any (·.1)) = false; rw [h5]; rfl) (Calls.evalArgs_plain (thn run fun us s2 ⟨vs, H2, I2, r2, q2⟩ => ?_))
  exact mt_addX pins s2 σ H2 (.ref a) vs (.ref a) us Q I2 rfl r2 q2
/-- sorted(a set of texts) -/
def rSortX (w : World) : List V → Hp → VK → Prop := fun vs H Q => ∃ (a : Addr) (ks : List Str), vs = [V.ref a] ∧ H a = some (SetX w a ks) ∧ ks.length < 64 ∧
  ∀ (ys : List Str) (p : Addr), ys.Perm ks → ys.Nodup → sortedS ys = true → H p = none → Q (.ref p) (upd H p (.lst (ys.map V.str)))
theorem cr_sortX (hc : X.calm = true) : CallR X (.builtin "sorted") (rSortX X.w) := by
  intro pins s σ H vs us Q I r ⟨a, ks, e, ha, few, q⟩
  subst e
  rw [Vals.ref1 r]
  have R := setX_get I ha
  have nd : ks.Nodup := by
    obtain ⟨_, _, _, _, _, _, _, rows⟩ := R
    exact rows.nd
  refine sorted_of_set R (I.ok.hd hc) few fun s' p out c ys keep g1 o1 old hp y1 y2 y3 => ?_
  have line : (ys.map V.str).length ≤ sizeLine := by
    rw [List.length_map, y2.length_eq]
    exact small64 few
  have free : H p = none := I.hok.fresh old
  have J : Inv X pins σ (upd H p (.lst (ys.map V.str))) { s with heap := s'.heap, gens := s'.gens, drawn := s'.drawn, toks := s'.toks } :=
    I.call (ch := []) (Un.laid keep old free) (I.hok.laid keep old ⟨line, out.toList, c, vals_of_strs y1, hp⟩) (by rw [g1]; exact I.bare) (fun _ z => nomatch z)
  have back : s' = { s with heap := s'.heap, gens := s'.gens, drawn := s'.drawn, toks := s'.toks } := by
    cases s'
    cases s
    cases o1
    rfl
  rw [back]
  exact ⟨.ref p, _, J, rfl, q ys p y2 (y2.nodup_iff.mpr nd) y3 free⟩
end
end Sx
set_option Elab.async false
set_option linter.all false
set_option maxRecDepth 100000
set_option maxHeartbeats 4000000
/-! Trees, heaps: what the defs of these laws share. -/
namespace Kf
open PySem PySem.Spec PyProof.Rows L2 Sx
/-! ### lists, pair by pair -/
inductive All2 {α β : Type} (F : α → β → Prop) : List α → List β → Prop
  | nil : All2 F [] []
  | cons {a : α} {b : β} {l : List α} {m : List β} : F a b → All2 F l m → All2 F (a :: l) (b :: m)
section
variable {α β : Type} {F G : α → β → Prop}
theorem All2.len : ∀ {l : List α} {m : List β}, All2 F l m → l.length = m.length
  | _, _, .nil => rfl
  | _, _, .cons _ t => congrArg Nat.succ t.len
theorem All2.app : ∀ {l l2 : List α} {m m2 : List β}, All2 F l m → All2 F l2 m2 → All2 F (l ++ l2) (m ++ m2)
  | _, _, _, _, .nil, h => h
  | _, _, _, _, .cons r t, h => .cons r (t.app h)
theorem All2.mono (f : ∀ a b, F a b → G a b) : ∀ {l : List α} {m : List β}, All2 F l m → All2 G l m
  | _, _, .nil => .nil
  | _, _, .cons r t => .cons (f _ _ r) (t.mono f)
theorem All2.one {a : α} {b : β} (h : F a b) : All2 F [a] [b] := .cons h .nil
theorem All2.rev : ∀ {l : List α} {m : List β}, All2 F l m → All2 F l.reverse m.reverse
  | _, _, .nil => .nil
  | _, _, .cons r t => by
    rw [List.reverse_cons, List.reverse_cons]
    exact t.rev.app (.one r)
theorem All2.last {l : List α} {m : List β} {y : β} (h : All2 F l (m ++ [y])) : ∃ k x, l = k ++ [x] ∧ All2 F k m ∧ F x y := by
  have q := h.rev
  rw [List.reverse_append, List.reverse_singleton, List.singleton_append] at q
  generalize hr : l.reverse = r at q
  cases q with
  | @cons x _ k _ r t =>
    have t2 := t.rev
    rw [List.reverse_reverse] at t2
    refine ⟨k.reverse, x, ?_, t2, r⟩
    have e := congrArg List.reverse hr
    rw [List.reverse_reverse, List.reverse_cons] at e
    exact e
theorem All2.get : ∀ {l : List α} {m : List β} {i : Nat} {y : β}, All2 F l m → m[i]? = some y → ∃ x, l[i]? = some x ∧ F x y
  | _, _, _, _, .nil, h => by simp at h
  | _, _, 0, _, .cons r _, h => ⟨_, rfl, (Option.some.inj h) ▸ r⟩
  | _, _, i + 1, _, .cons _ t, h => t.get (i := i) (by simpa using h)
end
/-! ### heaps -/
/-- all but what stands at f is as it was -/
def But (f : Addr) (H H' : Hp) : Prop := ∀ b o, b ≠ f → H b = some o → H' b = some o
/-- all tuples stand -/
def Tups (H H' : Hp) : Prop := ∀ b xs, H b = some (.tup xs) → H' b = some (.tup xs)
section
variable {f : Addr} {H H1 H2 : Hp} {p : Addr} {o : HO}
theorem But.refl (f : Addr) (H : Hp) : But f H H := fun _ _ _ e => e
theorem But.trans (a : But f H H1) (b : But f H1 H2) : But f H H2 := fun c u n e => b c u n (a c u n e)
theorem but_same (a : Same H H1) : But f H H1 := fun c u _ e => a c u e
theorem But.new (a : But f H H1) (h : H1 p = none) : But f H (upd H1 p o) := fun c u n e => by
  have q := a c u n e
  rw [upd_ne (ne_of_none q h)]
  exact q
theorem But.own (a : But f H H1) : But f H (upd H1 f o) := fun c u n e => by
  rw [upd_ne n]
  exact a c u n e
theorem same_new (h : H p = none) : Same H (upd H p o) := fun b u q => by
  rw [upd_ne (ne_of_none q h)]
  exact q
theorem same_put (s : Same H H1) (h : H1 p = none) : Same H (upd H1 p o) := fun b u q => by
  rw [upd_ne (ne_of_none (s b u q) h)]
  exact s b u q
theorem Tups.refl (H : Hp) : Tups H H := fun _ _ e => e
theorem Tups.trans (a : Tups H H1) (b : Tups H1 H2) : Tups H H2 := fun c u e => b c u (a c u e)
theorem tups_same (a : Same H H1) : Tups H H1 := fun c u e => a c _ e
theorem But.tups {xs : List V} (a : But f H H1) (h : H f = some (.lst xs)) : Tups H H1 := fun c u e => a c _ (fun z => by
  rw [z, h] at e
  cases e) e
theorem tups_put (h : ∀ xs, H p ≠ some (.tup xs)) : Tups H (upd H p o) := fun c u e => by
  rw [upd_ne (fun z => h u (by rw [← z]; exact e))]
  exact e
end
/-! ### trees -/
inductive Tr where
  | leaf (w : Str) (x : V)
  | n0 (w : Str)
  | n1 (w : Str) (a : Tr)
  | n2 (w : Str) (a b : Tr)
abbrev leafVs : List V := [.str "num", .str "name", .str "bound"]
abbrev bindVs : List V := [.str "all", .str "some"]
def leafy (w : Str) : Bool := inV (.str w) leafVs
def binds (w : Str) : Bool := inV (.str w) bindVs
/-- how many stand around the parts -/
def inner (w : Str) (r : Nat) : Nat := if binds w = true then r + 1 else r
def Tr.word : Tr → Str
  | .leaf w _ => w
  | .n0 w => w
  | .n1 w _ => w
  | .n2 w _ _ => w
def Tr.kids : Tr → List Tr
  | .leaf _ _ => []
  | .n0 _ => []
  | .n1 _ a => [a]
  | .n2 _ a b => [a, b]
/-- the tree t is the value v -/
def At (H : Hp) : Tr → V → Prop
  | .leaf w x, v => ∃ p, v = .ref p ∧ H p = some (.tup [.str w, x])
  | .n0 w, v => ∃ p, v = .ref p ∧ H p = some (.tup [.str w])
  | .n1 w a, v => ∃ p y, v = .ref p ∧ H p = some (.tup [.str w, y]) ∧ At H a y
  | .n2 w a b, v => ∃ p y z, v = .ref p ∧ H p = some (.tup [.str w, y, z]) ∧ At H a y ∧ At H b z
theorem At.keep {H H' : Hp} (k : Tups H H') : ∀ {t : Tr} {v : V}, At H t v → At H' t v
  | .leaf _ _, _, ⟨p, e, h⟩ => ⟨p, e, k _ _ h⟩
  | .n0 _, _, ⟨p, e, h⟩ => ⟨p, e, k _ _ h⟩
  | .n1 _ _, _, ⟨p, y, e, h, a⟩ => ⟨p, y, e, k _ _ h, a.keep k⟩
  | .n2 _ _ _, _, ⟨p, y, z, e, h, a, b⟩ => ⟨p, y, z, e, k _ _ h, a.keep k, b.keep k⟩
/-- leaves by their words -/
def Tr.Ok : Tr → Prop
  | .leaf w x => leafy w = true ∧ ((∃ i, x = .int i) ∧ w ≠ "name" ∨ (∃ z, x = .str z) ∧ w = "name")
  | .n0 w => leafy w = false
  | .n1 w a => leafy w = false ∧ a.Ok
  | .n2 w a b => leafy w = false ∧ a.Ok ∧ b.Ok
/-- how far within one another -/
def Tr.deep : Tr → Nat
  | .leaf _ _ => 1
  | .n0 _ => 1
  | .n1 _ a => a.deep + 1
  | .n2 _ a b => max a.deep b.deep + 1
def Tr.size : Tr → Nat
  | .leaf _ _ => 1
  | .n0 _ => 1
  | .n1 _ a => a.size + 1
  | .n2 _ a b => a.size + b.size + 1
theorem size_deep : ∀ t : Tr, t.size + 1 ≤ 2 ^ t.deep
  | .leaf _ _ => Nat.le_refl _
  | .n0 _ => Nat.le_refl _
  | .n1 _ a => by
    have h := size_deep a
    have p : 2 ^ (a.deep + 1) = 2 ^ a.deep * 2 := Nat.pow_succ _ _
    show a.size + 1 + 1 ≤ 2 ^ (a.deep + 1)
    omega
  | .n2 _ a b => by
    have h := size_deep a
    have h2 := size_deep b
    have p : 2 ^ (max a.deep b.deep + 1) = 2 ^ (max a.deep b.deep) * 2 := Nat.pow_succ _ _
    have q1 : 2 ^ a.deep ≤ 2 ^ (max a.deep b.deep) := Nat.pow_le_pow_right (by decide) (Nat.le_max_left _ _)
    have q2 : 2 ^ b.deep ≤ 2 ^ (max a.deep b.deep) := Nat.pow_le_pow_right (by decide) (Nat.le_max_right _ _)
    show a.size + b.size + 1 + 1 ≤ 2 ^ (max a.deep b.deep + 1)
    omega
def Tr.names : Tr → List Str
  | .leaf w x => if w = "name" then (match x with | .str z => [z] | _ => []) else []
  | .n0 _ => []
  | .n1 _ a => a.names
  | .n2 _ a b => a.names ++ b.names
theorem names_size : ∀ t : Tr, t.names.length ≤ t.size
  | .leaf w x => by
    show (if w = "name" then (match x with | .str z => [z] | _ => []) else ([] : List Str)).length ≤ 1
    split
    · cases x <;> simp
    · simp
  | .n0 _ => Nat.zero_le _
  | .n1 _ a => Nat.le_succ_of_le (names_size a)
  | .n2 _ a b => by
    have h1 := names_size a
    have h2 := names_size b
    show (a.names ++ b.names).length ≤ a.size + b.size + 1
    rw [List.length_append]
    omega
/-! ### the pieces, parts ahead of the whole, from the left; each with how many all and some stand around it -/
def Tr.post : Tr → Nat → List (Tr × Nat)
  | .leaf w x, r => [(.leaf w x, r)]
  | .n0 w, r => [(.n0 w, r)]
  | .n1 w a, r => a.post (inner w r) ++ [(.n1 w a, r)]
  | .n2 w a b, r => a.post (inner w r) ++ b.post (inner w r) ++ [(.n2 w a b, r)]
theorem post_len : ∀ (t : Tr) (r : Nat), (t.post r).length = t.size
  | .leaf _ _, _ => rfl
  | .n0 _, _ => rfl
  | .n1 w a, r => by
    show (a.post _ ++ [_]).length = a.size + 1
    rw [List.length_append, post_len a]
    rfl
  | .n2 w a b, r => by
    show (a.post _ ++ b.post _ ++ [_]).length = a.size + b.size + 1
    rw [List.length_append, List.length_append, post_len a, post_len b]
    rfl
theorem post_kids (t : Tr) (r : Nat) : t.post r = (t.kids.flatMap fun a => a.post (inner t.word r)) ++ [(t, r)] := by
  cases t with
  | leaf w x => rfl
  | n0 w => rfl
  | n1 w a => simp [Tr.post, Tr.kids, Tr.word]
  | n2 w a b => simp [Tr.post, Tr.kids, Tr.word]
/-- what a whole list of pieces has for names -/
def leafName : Tr → List Str
  | .leaf w x => Tr.names (.leaf w x)
  | _ => []
theorem post_names : ∀ (t : Tr) (r : Nat), ((t.post r).flatMap fun (e : Tr × Nat) => leafName e.1) = t.names
  | .leaf w x, r => by simp [Tr.post, leafName]
  | .n0 w, r => by simp [Tr.post, leafName, Tr.names]
  | .n1 w a, r => by
    show ((a.post _ ++ [_]).flatMap fun (e : Tr × Nat) => leafName e.1) = a.names
    rw [List.flatMap_append, post_names a]
    simp [leafName]
  | .n2 w a b, r => by
    show ((a.post _ ++ b.post _ ++ [_]).flatMap fun (e : Tr × Nat) => leafName e.1) = a.names ++ b.names
    rw [List.flatMap_append, List.flatMap_append, post_names a, post_names b]
    simp [leafName]
theorem post_ok : ∀ (t : Tr) (r : Nat), t.Ok → ∀ e ∈ t.post r, e.1.Ok
  | .leaf w x, r, h, e, he => by
    rw [List.mem_singleton.mp he]
    exact h
  | .n0 w, r, h, e, he => by
    rw [List.mem_singleton.mp he]
    exact h
  | .n1 w a, r, h, e, he => by
    rcases List.mem_append.mp he with z | z
    · exact post_ok a _ h.2 e z
    · rw [List.mem_singleton.mp z]
      exact h
  | .n2 w a b, r, h, e, he => by
    rcases List.mem_append.mp he with z | z
    · rcases List.mem_append.mp z with z | z
      · exact post_ok a _ h.2.1 e z
      · exact post_ok b _ h.2.2 e z
    · rw [List.mem_singleton.mp z]
      exact h
theorem no_leaf {w : Str} (h : leafy w = false) (z : leafy w = true) : False := by
  rw [h] at z
  cases z
/-- a tree's own tuple -/
theorem At.view {H : Hp} {t : Tr} {v : V} (h : At H t v) (ok : t.Ok) : ∃ p vs, v = .ref p ∧ H p = some (.tup (.str t.word :: vs)) ∧ vs.length ≤ 2 ∧ (leafy t.word = false → All2 (At H) t.kids vs) ∧ (leafy t.word = true → ∃ x, t = .leaf t.word x ∧ vs = [x]) := by
  cases t with
  | leaf w x =>
    obtain ⟨p, e, h⟩ := h
    exact ⟨p, [x], e, h, Nat.le_succ 1, fun z => (no_leaf z ok.1).elim, fun _ => ⟨x, rfl, rfl⟩⟩
  | n0 w =>
    obtain ⟨p, e, h⟩ := h
    exact ⟨p, [], e, h, Nat.zero_le 2, fun _ => .nil, fun z => (no_leaf ok z).elim⟩
  | n1 w a =>
    obtain ⟨p, y, e, h, ha⟩ := h
    exact ⟨p, [y], e, h, Nat.le_succ 1, fun _ => .one ha, fun z => (no_leaf ok.1 z).elim⟩
  | n2 w a b =>
    obtain ⟨p, y, z, e, h, ha, hb⟩ := h
    exact ⟨p, [y, z], e, h, Nat.le_refl 2, fun _ => .cons ha (.one hb), fun q => (no_leaf ok.1 q).elim⟩
theorem kids_ok {t : Tr} (ok : t.Ok) : ∀ a ∈ t.kids, a.Ok := by
  cases t with
  | leaf w x => intro a h; cases h
  | n0 w => intro a h; cases h
  | n1 w a =>
    intro c h
    rw [List.mem_singleton.mp h]
    exact ok.2
  | n2 w a b =>
    intro c h
    rcases List.mem_cons.mp h with z | z
    · rw [z]
      exact ok.2.1
    · rw [List.mem_singleton.mp z]
      exact ok.2.2
/-! ### sorted lists of texts -/
theorem nodup_le : ∀ (ks ms : List Str), ks.Nodup → (∀ k ∈ ks, k ∈ ms) → ks.length ≤ ms.length
  | [], _, _, _ => Nat.zero_le _
  | k :: r, ms, nd, h => by
    obtain ⟨n1, n2⟩ := List.nodup_cons.mp nd
    have hk : k ∈ ms := h k List.mem_cons_self
    have q := nodup_le r (ms.erase k) n2 fun j hj => (List.mem_erase_of_ne (fun z : j = k => n1 (z ▸ hj))).mpr (h j (List.mem_cons_of_mem _ hj))
    rw [List.length_erase_of_mem hk] at q
    have pos : 0 < ms.length := List.length_pos_of_mem hk
    rw [List.length_cons]
    omega
def Le (a b : Str) : Prop := ltCps b.cps.toList a.cps.toList = false
theorem rising_pairs : ∀ (p : Str) (l : List Str), risingS p l = true → (∀ (a b c : Str), Le a b → Le b c → Le a c) → (p :: l).Pairwise Le
  | p, [], _, _ => List.pairwise_singleton _ _
  | p, x :: r, h, tr => by
    have h' : (!ltCps x.cps.toList p.cps.toList && risingS x r) = true := h
    rw [Bool.and_eq_true] at h'
    have q := rising_pairs x r h'.2 tr
    have px : Le p x := by
      unfold Le
      simpa using h'.1
    refine List.pairwise_cons.mpr ⟨fun y hy => ?_, q⟩
    rcases List.mem_cons.mp hy with z | z
    · rw [z]
      exact px
    · exact tr _ _ _ px (List.rel_of_pairwise_cons q z)
theorem le_iff (a b : Str) : Le a b ↔ a.cps.toList ≤ b.cps.toList := by
  unfold Le
  rw [ltCps_eq]
  simp
theorem le_trans3 (a b c : Str) (h1 : Le a b) (h2 : Le b c) : Le a c := by
  rw [le_iff] at *
  exact List.le_trans h1 h2
theorem le_anti (a b : Str) (h1 : Le a b) (h2 : Le b a) : a = b := by
  rw [le_iff] at *
  have q := List.le_antisymm h1 h2
  cases a with
  | mk x =>
    cases b with
    | mk y =>
      have q' : x.toList = y.toList := q
      rw [Array.toList_inj.mp q']
theorem one_order : ∀ (l m : List Str), l.Pairwise Le → m.Pairwise Le → l.Nodup → m.Nodup → (∀ x, x ∈ l ↔ x ∈ m) → l = m
  | [], [], _, _, _, _, _ => rfl
  | [], y :: m, _, _, _, _, h => by
    have := (h y).2 List.mem_cons_self
    cases this
  | x :: l, [], _, _, _, _, h => by
    have := (h x).1 List.mem_cons_self
    cases this
  | x :: l, y :: m, pl, pm, nl, nm, h => by
    obtain ⟨l1, l2⟩ := List.pairwise_cons.mp pl
    obtain ⟨m1, m2⟩ := List.pairwise_cons.mp pm
    obtain ⟨k1, k2⟩ := List.nodup_cons.mp nl
    obtain ⟨j1, j2⟩ := List.nodup_cons.mp nm
    have exy : x = y := by
      rcases List.mem_cons.mp ((h x).1 List.mem_cons_self) with z | z
      · exact z
      · rcases List.mem_cons.mp ((h y).2 List.mem_cons_self) with q | q
        · exact q.symm
        · exact le_anti _ _ (l1 y q) (m1 x z)
    subst exy
    rw [one_order l m l2 m2 k2 j2 fun z => ?_]
    constructor
    · intro hz
      rcases List.mem_cons.mp ((h z).1 (List.mem_cons_of_mem _ hz)) with e | e
      · exact absurd (e ▸ hz) k1
      · exact e
    · intro hz
      rcases List.mem_cons.mp ((h z).2 (List.mem_cons_of_mem _ hz)) with e | e
      · exact absurd (e ▸ hz) j1
      · exact e
theorem sorted_pairs : ∀ l : List Str, sortedS l = true → l.Pairwise Le
  | [], _ => List.Pairwise.nil
  | x :: r, h => rising_pairs x r h le_trans3
end Kf
set_option Elab.async false
set_option linter.all false
set_option maxRecDepth 100000
set_option maxHeartbeats 4000000
set_option pp.maxSteps 1500
/-! k20: the dice, a pick. -/
namespace Kf
open PySem PySem.Spec PyProof.Rows L2 Sx
def top (i : Nat) : Stmt := PySem.Challenge.pw_prooffruit_k20_kinds_or_not.main.body.getD i (.Pass ⟨0, 0, 0, 0⟩)
abbrev sRoll : Stmt := top 8
abbrev sPick : Stmt := top 9
abbrev rollN : List Str := ["dice", "size", "spot", "cell", "seed", "rest"]
theorem scRoll : FnScope rollN ["dice", "size"] (defScope sRoll) := ⟨rfl, rfl, rfl, by decide +kernel, rfl, by decide +kernel, by decide +kernel⟩
theorem scPick : FnScope ["dice", "some"] ["dice", "some"] (defScope sPick) := ⟨rfl, rfl, rfl, by decide +kernel, rfl, by decide +kernel, by decide +kernel⟩
/-- the dice: its cells, how many are used up, below m -/
def DiceAt (H : Hp) (p L : Addr) (m : Int) : Prop := ∃ (spot n rest : Int) (cells : List Int), H p = some (.lst [.ref L, .int spot, .int n, .int rest]) ∧ L ≠ p ∧ H L = some (.lst (cells.map V.int)) ∧ cells.length ≤ 63 ∧ 0 ≤ spot ∧ spot ≤ m
theorem DiceAt.same {H H' : Hp} {p L : Addr} {m : Int} (h : DiceAt H p L m) (b : Same H H') : DiceAt H' p L m := by
  obtain ⟨x, n, r, cs, e, nl, eL, q⟩ := h
  exact ⟨x, n, r, cs, b _ _ e, nl, b _ _ eL, q⟩
theorem DiceAt.more {H : Hp} {p L : Addr} {m k : Int} (h : DiceAt H p L m) (l : m ≤ k) : DiceAt H p L k := by
  obtain ⟨x, n, r, cs, e, nl, eL, hc, h0, h1⟩ := h
  exact ⟨x, n, r, cs, e, nl, eL, hc, h0, Int.le_trans h1 l⟩
theorem DiceAt.ne {H : Hp} {p q L : Addr} {m : Int} (h : DiceAt H p L m) (e : H q = none) : q ≠ p := fun z => by
  obtain ⟨x, n, r, cs, e2, _⟩ := h
  rw [z, e2] at e
  cases e
theorem DiceAt.tups {H H' : Hp} {p L : Addr} {m : Int} (h : DiceAt H p L m) (b : But p H H') : Tups H H' := by
  obtain ⟨x, n, r, cs, e2, _⟩ := h
  intro c xs e
  refine b _ _ (fun z => ?_) e
  rw [z, e2] at e
  cases e
/-! ### whole numbers as data -/
theorem dp_ints {K : PySem.W.Frag} {H : Hp} {a : Addr} {ns : List Int} (h : SqL K H a (ns.map V.int)) : Dp K H (.ref a) (.list (ns.map PyData.int)) := by
  refine .lst h ?_
  clear h
  induction ns with
  | nil => exact .nil
  | cons x r ih => exact .cons (.int x) ih
theorem lay_ints : ∀ ns : List Int, PyData.canLayAll0 (ns.map .int) = true ∧ PyData.depthAll (ns.map .int) = 0
  | [] => ⟨rfl, rfl⟩
  | z :: r => by
    obtain ⟨h1, h2⟩ := lay_ints r
    refine ⟨?_, ?_⟩
    · show (true && PyData.canLayAll0 (r.map .int)) = true
      rw [h1]
      rfl
    · show max 0 (PyData.depthAll (r.map .int)) = 0
      rw [h2]
      rfl
theorem shaped_ints (ns : List Int) : SeqAt.shaped (.list (ns.map .int)) = true := by
  obtain ⟨h1, h2⟩ := lay_ints ns
  show (PyData.canLayAll0 (ns.map .int) && decide (PyData.depthAll (ns.map .int) + 1 ≤ 64)) = true
  rw [h1, h2]
  rfl
theorem notM {m : Int} (h : 0 < m) : m ≠ 0 := Int.ne_of_gt h
theorem mod_in {i m : Int} (h : 0 < m) : 0 ≤ i.fmod m ∧ i.fmod m < m := by
  rw [Int.fmod_eq_emod_of_nonneg _ (Int.le_of_lt h)]
  exact ⟨Int.emod_nonneg _ (Int.ne_of_gt h), Int.emod_lt_of_pos _ h⟩
theorem atI_in {α : Type} {xs : List α} {r : Int} (h0 : 0 ≤ r) (h1 : r < (xs.length : Int)) : ∃ x ∈ xs, atI xs r = some x := by
  obtain ⟨k, rfl⟩ := Int.eq_ofNat_of_zero_le h0
  have lt : k < xs.length := by omega
  exact ⟨xs[k], List.getElem_mem lt, atI_nat (List.getElem?_eq_getElem lt)⟩
section
variable {P : Program} {w : World} {K : PySem.W.Frag} {mg : Str → Option Value} {base : Heap}
def spRoll : Sp := fun vs H Q _ => ∃ (p L : Addr) (size m : Int), vs = [.ref p, .int size] ∧ 0 < size ∧ size.natAbs < 2 ^ 200 ∧ m < 2 ^ 50 ∧ DiceAt H p L m ∧
  ∀ (r : Int) H', 0 ≤ r → r < size → But p H H' → DiceAt H' p L (m + 1) → Q (.int r) H'
theorem ok_roll {f : Addr} {fd : FuncData} {j : Nat} (F : Fun K "_law_roll" "_law_roll" sRoll f fd) (ml : mg "len" = none) : FnOk P w K mg base CX0 (j + 1) f fd ["dice", "size"] spRoll := by
  refine F.ok scRoll (fun vs H Q E h => ?_) (fun cdv A outer s H vs Q E hr h => ?_)
  · obtain ⟨a, L, z, m, rfl, _⟩ := h
    rfl
  obtain ⟨p, L, size, m, rfl, pos, small, mm, ⟨spot, n, rest, cells, hp, nl, hL, hc, s0, s1⟩, q⟩ := h
  have u1 : (A.deeper (envOfC "_law_roll" (defScope sRoll) s.heap.objs.size f cdv)).units + 64 < cLine := by
    have := hr.units
    omega
  refine ⟨_, pss_cons (ps_if (pt_cmpR op_eq (pe_ix ix_list (pv 0) pe_int (fun _ _ => rfl)) pe_int (nomark _))
      (pss_cons (ps_set (i := 2) scRoll.nd rfl (.inl rfl) (pe_ix ix_list (pv 0) pe_int (fun _ _ => rfl)))
      (pss_cons (ps_asg (pe_op op_add (pv 2) pe_int) (pg_sub (pv 0) pe_int set_list))
      (pss_cons (ps_set (i := 3) scRoll.nd rfl (.inl rfl) pe_int)
      (pss_cons (ps_if (pt_cmpR (op_neD u1) (pe_ix ix_list (pv 0) pe_int (fun _ _ => rfl)) (pe_lst pa_nil) (nomark _))
        (pss_one (ps_set (i := 3) scRoll.nd rfl (.inl rfl) (pe_ix ix_list (pe_ix ix_list (pv 0) pe_int (fun _ _ => rfl)) (pe_op op_modN (pv 2) (pe_callB call_len_seq (by rfl) ml PySem.boot_len (pa_cons (pe_ix ix_list (pv 0) pe_int (fun _ _ => rfl)) pa_nil))) (fun _ _ => rfl)))) pss_nil)
      (pss_cons (ps_if (PW.pt (pw_or (pt_cmpR op_ge (pv 2) (pe_callB call_len_seq (by rfl) ml PySem.boot_len (pa_cons (pe_ix ix_list (pv 0) pe_int (fun _ _ => rfl)) pa_nil)) (nomark _)) (pw_or1 (pt_cmpR op_lt (pv 3) (pe_op op_pow pe_int pe_int) (nomark _)))))
        (pss_cons (ps_set (i := 4) scRoll.nd rfl (.inl rfl) (pe_op op_modN (pe_op op_mul (pe_op op_add (pe_op op_modN (pv 3) pe_int) pe_int) (pe_op op_add (pe_op op_add (pe_op op_mul (pv 2) (pv 2)) (pe_op op_mul pe_int (pv 2))) pe_int)) pe_int))
        (pss_cons (ps_set (i := 4) scRoll.nd rfl (.inl rfl) (pe_op op_modN (pe_op op_pow (pv 4) pe_int) pe_int))
        (pss_one (ps_ret (pe_op op_modN (pe_op op_fdiv (pe_op op_modN (pe_op op_add (pv 4) (pe_op op_mul pe_int (pv 2))) pe_int) pe_int) (pv 1)))))) pss_nil)
      (pss_cons (ps_asg pe_int (pg_sub (pv 0) pe_int set_list))
      (pss_one (ps_asg (pe_op op_sub (pv 3) (pe_op op_pow pe_int pe_int)) (pg_sub (pv 0) pe_int set_list))))))))) pss_nil)
    (pss_cons (ps_asg (pe_op op_sub (pe_ix ix_list (pv 0) pe_int (fun _ _ => rfl)) pe_int) (pg_sub (pv 0) pe_int set_list))
    (pss_cons (ps_set (i := 5) scRoll.nd rfl (.inl rfl) (pe_ix ix_list (pv 0) pe_int (fun _ _ => rfl)))
    (pss_cons (ps_asg (pe_op op_fdivW (pv 5) (pv 1)) (pg_sub (pv 0) pe_int set_list)) (pss_one (ps_ret (pe_op op_modN (pv 5) (pv 1))))))), ?_⟩
  have sq : ∀ (H' : Hp) a b c, H' p = some (.lst [.ref L, a, b, c]) → SqL K H' p [.ref L, a, b, c] := fun H' a b c e => .inl (.inl e)
  have end_ : ∀ (H' : Hp) (x a b : Int), H' p = some (.lst [.ref L, .int x, .int a, .int b]) → But p H H' → 0 ≤ x → x ≤ m + 1 →
      (∃ H2, H2 = upd (upd H' p (.lst [.ref L, .int x, .int (a - 1), .int b])) p (.lst [.ref L, .int x, .int (a - 1), .int (b / size)]) ∧ Q (.int (b.fmod size)) H2) := fun H' x a b e bb x0 x1 => by
    refine ⟨_, rfl, ?_⟩
    refine q _ _ (mod_in pos).1 (mod_in pos).2 ((bb.own).own) ⟨x, a - 1, b / size, cells, upd_same, nl, ?_, hc, x0, x1⟩
    rw [upd_ne nl, upd_ne nl]
    exact bb _ _ nl hL
  have sp : CMul spot spot := .inl ⟨by omega, by omega⟩
  have in64 : ∀ c : Int, -(2 ^ 64) < c.fmod 999953 + 37 ∧ c.fmod 999953 + 37 < 2 ^ 64 := fun c => by
    obtain ⟨a, b⟩ := mod_in (i := c) (m := 999953) (by decide)
    omega
  have pow64 : ∀ c : Int, (c.fmod 1000003).natAbs < 2 ^ 64 := fun c => by
    obtain ⟨a, b⟩ := mod_in (i := c) (m := 1000003) (by decide)
    omega
  refine ⟨_, rfl, p, _, 2, .int n, rfl, rfl, sq _ _ _ _ hp, rfl, rfl, _, rfl, ?_⟩
  refine ite2 (fun c => ?_) (fun c => ?_)
  · refine ⟨_, rfl, p, _, 1, .int spot, rfl, rfl, sq _ _ _ _ hp, rfl, ?_⟩
    refine ⟨_, rfl, _, _, rfl, rfl, _, rfl, p, _, 1, 1, rfl, rfl, hp, rfl, ?_⟩
    have b1 : But p H (upd H p (.lst [.ref L, .int (spot + 1), .int n, .int rest])) := (But.refl p H).own
    have hL1 := b1 _ _ nl hL
    have hp1 : upd H p (.lst [.ref L, .int (spot + 1), .int n, .int rest]) p = some (.lst [.ref L, .int (spot + 1), .int n, .int rest]) := upd_same
    refine ⟨_, rfl, p, _, 0, .ref L, rfl, rfl, sq _ _ _ _ hp1, rfl, (by show 0 ≤ sizeLine; decide), fun e0 ne0 => ?_⟩
    have s2 := same_new (o := .lst []) ne0
    have b2 := b1.new (o := .lst []) ne0
    have hL2 := s2 _ _ hL1
    have hp2 := s2 _ _ hp1
    refine ⟨_, _, dp_ints (.inl (.inl hL2)), .lst (.inl (.inl upd_same)) .nil, shaped_ints _, rfl, _, rfl, ?_⟩
    cases cells with
    | nil =>
      refine iteF ?_
      refine ⟨_, rfl, _, rfl, p, _, 0, .ref L, rfl, rfl, sq _ _ _ _ hp2, rfl, L, _, rfl, .inl (.inl (.inl hL2)), _, _, rfl, rfl, _, rfl, ?_⟩
      refine ite2 (fun c2 => ?_) (fun c2 => (c2 (decide_eq_true s0)).elim)
      refine ⟨_, rfl, _, _, rfl, rfl, notM (by decide), _, _, rfl, rfl, _, rfl, _, rfl, _, _, rfl, rfl, sp, _, rfl, _, _, rfl, rfl, .inl ⟨by decide, by decide⟩, _, _, rfl, rfl, _, _, rfl, rfl, _, _, rfl, rfl, .inl (in64 _), _, _, rfl, rfl, notM (by decide), ?_⟩
      refine ⟨_, rfl, _, _, rfl, rfl, ⟨by decide, by decide, pow64 _⟩, _, _, rfl, rfl, notM (by decide), ?_⟩
      refine ⟨_, rfl, _, rfl, _, _, rfl, rfl, .inl ⟨by decide, by decide⟩, _, _, rfl, rfl, _, _, rfl, rfl, notM (by decide), _, _, rfl, rfl, ⟨by decide, by decide⟩, _, rfl, _, _, rfl, rfl, notM pos, ?_⟩
      exact q _ _ (mod_in pos).1 (mod_in pos).2 b2 ⟨spot + 1, n, rest, _, hp2, nl, hL2, hc, by omega, by omega⟩
    | cons z zs =>
      refine iteT ?_
      refine ⟨_, rfl, p, _, 0, .ref L, rfl, rfl, sq _ _ _ _ hp2, rfl, _, rfl, _, rfl, p, _, 0, .ref L, rfl, rfl, sq _ _ _ _ hp2, rfl, L, _, rfl, .inl (.inl (.inl hL2)), _, _, rfl, rfl, notM (by show (0 : Int) < (((z :: zs).map V.int).length : Nat); rw [List.length_map]; exact Int.natCast_pos.mpr (Nat.succ_pos _)), ?_⟩
      obtain ⟨i0, i1⟩ := mod_in (i := spot) (m := (((z :: zs).map V.int).length : Nat)) (by rw [List.length_map]; exact Int.natCast_pos.mpr (Nat.succ_pos _))
      have item : ∃ y : Int, atI ((z :: zs).map V.int) (spot.fmod (((z :: zs).map V.int).length : Nat)) = some (.int y) := by
        obtain ⟨x, mem, e⟩ := atI_in i0 i1
        obtain ⟨y, _, ey⟩ := List.mem_map.mp mem
        exact ⟨y, by rw [e, ← ey]⟩
      obtain ⟨y, item⟩ := item
      refine ⟨L, _, _, _, rfl, rfl, .inl (.inl hL2), item, ?_⟩
      refine ⟨_, rfl, _, rfl, p, _, 0, .ref L, rfl, rfl, sq _ _ _ _ hp2, rfl, L, _, rfl, .inl (.inl (.inl hL2)), _, _, rfl, rfl, _, rfl, ?_⟩
      refine ite2 (fun c2 => ?_) (fun c2 => ?_)
      · refine ⟨_, rfl, _, _, rfl, rfl, notM (by decide), _, _, rfl, rfl, _, rfl, _, rfl, _, _, rfl, rfl, sp, _, rfl, _, _, rfl, rfl, .inl ⟨by decide, by decide⟩, _, _, rfl, rfl, _, _, rfl, rfl, _, _, rfl, rfl, .inl (in64 _), _, _, rfl, rfl, notM (by decide), ?_⟩
        refine ⟨_, rfl, _, _, rfl, rfl, ⟨by decide, by decide, pow64 _⟩, _, _, rfl, rfl, notM (by decide), ?_⟩
        refine ⟨_, rfl, _, rfl, _, _, rfl, rfl, .inl ⟨by decide, by decide⟩, _, _, rfl, rfl, _, _, rfl, rfl, notM (by decide), _, _, rfl, rfl, ⟨by decide, by decide⟩, _, rfl, _, _, rfl, rfl, notM pos, ?_⟩
        exact q _ _ (mod_in pos).1 (mod_in pos).2 b2 ⟨spot + 1, n, rest, _, hp2, nl, hL2, hc, by omega, by omega⟩
      · refine ⟨_, rfl, _, _, rfl, rfl, ⟨by decide, by decide, by decide⟩, _, _, rfl, rfl, _, rfl, ?_⟩
        refine ite2 (fun c3 => ?_) (fun c3 => ?_)
        · refine ⟨_, rfl, _, _, rfl, rfl, notM (by decide), _, _, rfl, rfl, _, rfl, _, rfl, _, _, rfl, rfl, sp, _, rfl, _, _, rfl, rfl, .inl ⟨by decide, by decide⟩, _, _, rfl, rfl, _, _, rfl, rfl, _, _, rfl, rfl, .inl (in64 _), _, _, rfl, rfl, notM (by decide), ?_⟩
          refine ⟨_, rfl, _, _, rfl, rfl, ⟨by decide, by decide, pow64 _⟩, _, _, rfl, rfl, notM (by decide), ?_⟩
          refine ⟨_, rfl, _, rfl, _, _, rfl, rfl, .inl ⟨by decide, by decide⟩, _, _, rfl, rfl, _, _, rfl, rfl, notM (by decide), _, _, rfl, rfl, ⟨by decide, by decide⟩, _, rfl, _, _, rfl, rfl, notM pos, ?_⟩
          exact q _ _ (mod_in pos).1 (mod_in pos).2 b2 ⟨spot + 1, n, rest, _, hp2, nl, hL2, hc, by omega, by omega⟩
        · refine ⟨_, rfl, p, _, 2, 2, rfl, rfl, hp2, rfl, ?_⟩
          refine ⟨_, rfl, _, _, rfl, rfl, ⟨by decide, by decide, by decide⟩, _, _, rfl, rfl, _, rfl, p, _, 3, 3, rfl, rfl, upd_same, rfl, ?_⟩
          refine ⟨_, rfl, p, _, 2, _, rfl, rfl, sq _ _ _ _ upd_same, rfl, _, _, rfl, rfl, _, rfl, p, _, 2, 2, rfl, rfl, upd_same, rfl, ?_⟩
          refine ⟨_, rfl, p, _, 3, _, rfl, rfl, sq _ _ _ _ upd_same, rfl, ?_⟩
          refine ⟨_, rfl, _, rfl, _, _, rfl, rfl, wide_div pos small (by decide) (by decide), _, rfl, p, _, 3, 3, rfl, rfl, upd_same, rfl, ?_⟩
          refine ⟨_, rfl, _, rfl, _, _, rfl, rfl, notM pos, ?_⟩
          refine q _ _ (mod_in pos).1 (mod_in pos).2 ((((b2.own).own).own).own) ⟨spot + 1, _, _, _, upd_same, nl, ?_, hc, by omega, by omega⟩
          rw [upd_ne nl, upd_ne nl, upd_ne nl, upd_ne nl]
          exact hL2
  · refine ⟨_, rfl, p, _, 2, _, rfl, rfl, sq _ _ _ _ hp, rfl, _, _, rfl, rfl, _, rfl, p, _, 2, 2, rfl, rfl, hp, rfl, ?_⟩
    refine ⟨_, rfl, p, _, 3, _, rfl, rfl, sq _ _ _ _ upd_same, rfl, ?_⟩
    refine ⟨_, rfl, _, rfl, _, _, rfl, rfl, wide_div pos small (by decide) (by decide), _, rfl, p, _, 3, 3, rfl, rfl, upd_same, rfl, ?_⟩
    refine ⟨_, rfl, _, rfl, _, _, rfl, rfl, notM pos, ?_⟩
    refine q _ _ (mod_in pos).1 (mod_in pos).2 ((((But.refl p H).own).own)) ⟨spot, _, _, _, upd_same, nl, ?_, hc, s0, by omega⟩
    rw [upd_ne nl, upd_ne nl]
    exact hL
end
end Kf
set_option Elab.async false
set_option linter.all false
set_option maxRecDepth 100000
set_option maxHeartbeats 4000000
set_option pp.maxSteps 800
/-! Data of any form. -/
namespace Kf
open PySem PySem.Spec PyProof.Rows L2 Sx
section
variable {K : PySem.W.Frag} {H H' : Hp}
theorem sqL_up {a : Addr} {xs : List V} (b : Same H H') (h : SqL K H a xs) : SqL K H' a xs := by
  rcases h with (h | ⟨o, h⟩) | h
  · exact .inl (.inl (b _ _ h))
  · exact .inl (.inr ⟨o, b _ _ h⟩)
  · exact .inr h
theorem sqT_up {a : Addr} {xs : List V} (b : Same H H') (h : SqT K H a xs) : SqT K H' a xs := by
  rcases h with (h | ⟨o, h⟩) | h
  · exact .inl (.inl (b _ _ h))
  · exact .inl (.inr ⟨o, b _ _ h⟩)
  · exact .inr h
mutual
theorem dp_up (s : Same H H') : ∀ (d : PyData) (v : V), Dp K H v d → Dp K H' v d
  | .none, _, h => by cases h; exact .non
  | .bool b, _, h => by cases h; exact .bl b
  | .int b, _, h => by cases h; exact .int b
  | .str b, _, h => by cases h; exact .str b
  | .list ds, _, h => by
    cases h with
    | lst h a => exact .lst (sqL_up s h) (dps_up s ds _ a)
  | .tuple ds, _, h => by
    cases h with
    | tup h a => exact .tup (sqT_up s h) (dps_up s ds _ a)
  | .dict _, _, h => by cases h
theorem dps_up (s : Same H H') : ∀ (ds : List PyData) (vs : List V), DpAll K H vs ds → DpAll K H' vs ds
  | [], _, h => by cases h; exact .nil
  | d :: ds, _, h => by
    cases h with
    | cons a b => exact .cons (dp_up s d _ a) (dps_up s ds _ b)
end
/-- the name of a thing's type -/
def tyN : PyData → String
  | .none => "NoneType"
  | .bool _ => "bool"
  | .int _ => "int"
  | .str _ => "str"
  | .list _ => "list"
  | .tuple _ => "tuple"
  | .dict _ => "dict"
theorem dp_ty {v : V} {d : PyData} (h : Dp K H v d) : TyX K H v (.type (tyN d)) := by
  cases h with
  | non => exact .base .non
  | bl b => exact .base (.bl b)
  | int i => exact .base (.int i)
  | str z => exact .base (.str z)
  | lst h _ =>
    rcases h with (h | ⟨o, h⟩) | ⟨o, its, n, e, c, _⟩
    · exact .base (.lst h)
    · exact .base (.frz h)
    · exact .kList e c
  | tup h _ =>
    rcases h with (h | ⟨o, h⟩) | ⟨o, its, n, e, c, _⟩
    · exact .base (.tup h)
    · exact .fTuple h
    · exact .kTuple e c
def isI : PyData → Bool
  | .int _ | .bool _ => true
  | _ => false
def isB : PyData → Bool
  | .bool _ => true
  | _ => false
def isS : PyData → Bool
  | .str _ => true
  | _ => false
def isTu : PyData → Bool
  | .tuple _ => true
  | _ => false
theorem kit_i (d : PyData) : PySem.W.kitOne K (.type (tyN d)) (.type "int") = some (isI d) := by
  cases d with
  | none => exact kit_ty (show kitB "NoneType" "int" = some false by decide +kernel)
  | bool _ => exact kit_ty (show kitB "bool" "int" = some true by decide +kernel)
  | int _ => exact kit_ty (show kitB "int" "int" = some true by decide +kernel)
  | str _ => exact kit_ty (show kitB "str" "int" = some false by decide +kernel)
  | list _ => exact kit_ty (show kitB "list" "int" = some false by decide +kernel)
  | tuple _ => exact kit_ty (show kitB "tuple" "int" = some false by decide +kernel)
  | dict _ => exact kit_ty (show kitB "dict" "int" = some false by decide +kernel)
theorem kit_b (d : PyData) : PySem.W.kitOne K (.type (tyN d)) (.type "bool") = some (isB d) := by
  cases d with
  | none => exact kit_ty (show kitB "NoneType" "bool" = some false by decide +kernel)
  | bool _ => exact kit_ty (show kitB "bool" "bool" = some true by decide +kernel)
  | int _ => exact kit_ty (show kitB "int" "bool" = some false by decide +kernel)
  | str _ => exact kit_ty (show kitB "str" "bool" = some false by decide +kernel)
  | list _ => exact kit_ty (show kitB "list" "bool" = some false by decide +kernel)
  | tuple _ => exact kit_ty (show kitB "tuple" "bool" = some false by decide +kernel)
  | dict _ => exact kit_ty (show kitB "dict" "bool" = some false by decide +kernel)
theorem kit_s (d : PyData) : PySem.W.kitOne K (.type (tyN d)) (.type "str") = some (isS d) := by
  cases d with
  | none => exact kit_ty (show kitB "NoneType" "str" = some false by decide +kernel)
  | bool _ => exact kit_ty (show kitB "bool" "str" = some false by decide +kernel)
  | int _ => exact kit_ty (show kitB "int" "str" = some false by decide +kernel)
  | str _ => exact kit_ty (show kitB "str" "str" = some true by decide +kernel)
  | list _ => exact kit_ty (show kitB "list" "str" = some false by decide +kernel)
  | tuple _ => exact kit_ty (show kitB "tuple" "str" = some false by decide +kernel)
  | dict _ => exact kit_ty (show kitB "dict" "str" = some false by decide +kernel)
theorem kit_tu (d : PyData) : PySem.W.kitOne K (.type (tyN d)) (.type "tuple") = some (isTu d) := by
  cases d with
  | none => exact kit_ty (show kitB "NoneType" "tuple" = some false by decide +kernel)
  | bool _ => exact kit_ty (show kitB "bool" "tuple" = some false by decide +kernel)
  | int _ => exact kit_ty (show kitB "int" "tuple" = some false by decide +kernel)
  | str _ => exact kit_ty (show kitB "str" "tuple" = some false by decide +kernel)
  | list _ => exact kit_ty (show kitB "list" "tuple" = some false by decide +kernel)
  | tuple _ => exact kit_ty (show kitB "tuple" "tuple" = some true by decide +kernel)
  | dict _ => exact kit_ty (show kitB "dict" "tuple" = some false by decide +kernel)
theorem dps_len : ∀ {vs : List V} {ds : List PyData}, DpAll K H vs ds → vs.length = ds.length
  | _, _, .nil => rfl
  | _, _, .cons _ t => congrArg Nat.succ (dps_len t)
end
/-! ### in a tuple -/
section
variable {X : Cx}
def rInDT (K : PySem.W.Frag) : R2 := fun x y H Q => ∃ d ds, Dp K H x d ∧ Dp K H y (.tuple ds) ∧ SeqAt.shaped d = true ∧ SeqAt.shaped (.list ds) = true ∧ PyData.depthAll ds = 0 ∧ Q (.bl (ds.any fun z => PyData.eqv z d)) H
theorem op_inDT (hu : X.A.units + 64 < cLine) : OpR X (compareOp .In) (rInDT X.K) := by
  intro pins s σ H x y v u Q I rx ry h
  obtain ⟨d, ds, hd, he, sd, se, z0, q⟩ := h
  obtain ⟨as, r1⟩ := Dp.reads I d x v hd rx
  obtain ⟨bs, r2⟩ := Dp.reads I (.tuple ds) y u he ry
  exact SeqAt.in_tuple_reads r2 r1 (SeqAt.canLay_of_shaped se) (SeqAt.canLay_of_shaped sd) (by rw [z0, Nat.zero_min]; omega) ⟨.bl _, H, I, rfl, q⟩
def rNotInDT (K : PySem.W.Frag) : R2 := fun x y H Q => ∃ d ds, Dp K H x d ∧ Dp K H y (.tuple ds) ∧ SeqAt.shaped d = true ∧ SeqAt.shaped (.list ds) = true ∧ PyData.depthAll ds = 0 ∧ Q (.bl (!ds.any fun z => PyData.eqv z d)) H
theorem op_notInDT (hu : X.A.units + 64 < cLine) : OpR X (compareOp .NotIn) (rNotInDT X.K) := by
  intro pins s σ H x y v u Q I rx ry h
  obtain ⟨d, ds, hd, he, sd, se, z0, q⟩ := h
  obtain ⟨as, r1⟩ := Dp.reads I d x v hd rx
  obtain ⟨bs, r2⟩ := Dp.reads I (.tuple ds) y u he ry
  exact SeqAt.notIn_tuple_reads r2 r1 (SeqAt.canLay_of_shaped se) (SeqAt.canLay_of_shaped sd) (by rw [z0, Nat.zero_min]; omega) ⟨.bl _, H, I, rfl, q⟩
end
/-! ### data of any depth: ==, !=, repr -/
section
variable {X : Cx}
def rEqW (K : PySem.W.Frag) : R2 := fun x y H Q => ∃ d e, Dp K H x d ∧ Dp K H y e ∧ d.canLay0 = true ∧ e.canLay0 = true ∧ d.depth ≤ 120 ∧ Q (.bl (PyData.eqv d e)) H
def rNeW (K : PySem.W.Frag) : R2 := fun x y H Q => ∃ d e, Dp K H x d ∧ Dp K H y e ∧ d.canLay0 = true ∧ e.canLay0 = true ∧ d.depth ≤ 120 ∧ Q (.bl (!PyData.eqv d e)) H
theorem op_eqW (hu : X.A.units + 130 < cLine) : OpR X (compareOp .Eq) (rEqW X.K) := by
  intro pins s σ H x y v u Q I rx ry h
  obtain ⟨d, e, hd, he, sd, se, dd, q⟩ := h
  obtain ⟨as, r1⟩ := Dp.reads I d x v hd rx
  obtain ⟨bs, r2⟩ := Dp.reads I e y u he ry
  exact SeqAt.compareEq_reads r1 r2 sd se (by omega) ⟨.bl _, H, I, rfl, q⟩
theorem op_neW (hu : X.A.units + 130 < cLine) : OpR X (compareOp .NotEq) (rNeW X.K) := by
  intro pins s σ H x y v u Q I rx ry h
  obtain ⟨d, e, hd, he, sd, se, dd, q⟩ := h
  obtain ⟨as, r1⟩ := Dp.reads I d x v hd rx
  obtain ⟨bs, r2⟩ := Dp.reads I e y u he ry
  exact SeqAt.compareNe_reads r1 r2 sd se (by omega) ⟨.bl _, H, I, rfl, q⟩
def rInW (K : PySem.W.Frag) : R2 := fun x y H Q => ∃ d ds, Dp K H x d ∧ Dp K H y (.tuple ds) ∧ d.canLay0 = true ∧ PyData.canLayAll0 ds = true ∧ min (PyData.depthAll ds) d.depth ≤ 120 ∧ Q (.bl (ds.any fun z => PyData.eqv z d)) H
theorem op_inW (hu : X.A.units + 130 < cLine) : OpR X (compareOp .In) (rInW X.K) := by
  intro pins s σ H x y v u Q I rx ry h
  obtain ⟨d, ds, hd, he, sd, se, z0, q⟩ := h
  obtain ⟨as, r1⟩ := Dp.reads I d x v hd rx
  obtain ⟨bs, r2⟩ := Dp.reads I (.tuple ds) y u he ry
  exact SeqAt.in_tuple_reads r2 r1 se sd (by omega) ⟨.bl _, H, I, rfl, q⟩
def rNotInW (K : PySem.W.Frag) : R2 := fun x y H Q => ∃ d ds, Dp K H x d ∧ Dp K H y (.tuple ds) ∧ d.canLay0 = true ∧ PyData.canLayAll0 ds = true ∧ min (PyData.depthAll ds) d.depth ≤ 120 ∧ Q (.bl (!ds.any fun z => PyData.eqv z d)) H
theorem op_notInW (hu : X.A.units + 130 < cLine) : OpR X (compareOp .NotIn) (rNotInW X.K) := by
  intro pins s σ H x y v u Q I rx ry h
  obtain ⟨d, ds, hd, he, sd, se, z0, q⟩ := h
  obtain ⟨as, r1⟩ := Dp.reads I d x v hd rx
  obtain ⟨bs, r2⟩ := Dp.reads I (.tuple ds) y u he ry
  exact SeqAt.notIn_tuple_reads r2 r1 se sd (by omega) ⟨.bl _, H, I, rfl, q⟩
end
end Kf
set_option Elab.async false
set_option linter.all false
set_option maxRecDepth 100000
set_option maxHeartbeats 8000000
set_option pp.maxSteps 1200
/-! k20: has_form. -/
namespace Kf
open PySem PySem.Spec PyProof.Rows L2 Sx
abbrev sForm : Stmt := top 5
theorem scForm : FnScope ["piece"] ["piece"] (defScope sForm) := ⟨rfl, rfl, rfl, by decide +kernel, rfl, by decide +kernel, by decide +kernel⟩
def none1 : PyData := .tuple [.str "none"]
def num1 : PyData := .tuple [.str "number"]
/-- whether a piece has the form of a kind -/
def form : PyData → Bool
  | .tuple [x] => [none1, num1].any fun z => PyData.eqv z (.tuple [x])
  | .tuple [.str w, a, b] => (decide (w = "pair") || (decide (w = "from") || decide (w = "either"))) && (decide (w = "either") || !(PyData.eqv a none1 || (PyData.eqv b none1 || false)))
  | _ => false
theorem form_no {x a b : PyData} (h : isS x = false) : form (.tuple [x, a, b]) = false := by
  cases x with
  | str _ => cases h
  | _ => rfl
theorem eqv_str (w z : Str) : PyData.eqv (.str w) (.str z) = decide (z = w) := by
  show (w == z) = _
  by_cases e : z = w
  · subst e
    simp
  · rw [decide_eq_false e]
    exact beq_eq_false_iff_ne.mpr fun y => e y.symm
theorem head_at (x : V) (us : List V) : atI (x :: us) 0 = some x := atI_nat (j := 0) rfl
section
variable {P : Program} {w : World} {K : PySem.W.Frag} {mg : Str → Option Value} {base : Heap}
/-- the module's tuples -/
structure Tx (K : PySem.W.Frag) (mg : Str → Option Value) (NO NU PA : Addr) : Prop where
  mO : mg "NONE" = some (.ref NO)
  mU : mg "NUMBER" = some (.ref NU)
  mP : mg "PAIRED" = some (.ref PA)
  tO : ∀ H, SqT K H NO [.str "none"]
  tU : ∀ H, SqT K H NU [.str "number"]
  tP : ∀ H, SqT K H PA [.str "pair", .str "from", .str "either"]
  zIs : mg "isinstance" = none
  zTuple : mg "tuple" = none
  zLen : mg "len" = none
def spForm (K : PySem.W.Frag) : Sp := fun vs H Q _ => ∃ (v : V) (d : PyData), vs = [v] ∧ Dp K H v d ∧ d.canLay0 = true ∧ d.depth ≤ 120 ∧ ∀ H', Same H H' → Q (.bl (form d)) H'
theorem ok_form {f NO NU PA : Addr} {fd : FuncData} {j : Nat} (F : Fun K "has_form" "has_form" sForm f fd) (T : Tx K mg NO NU PA) : FnOk P w K mg base CX0 (j + 1) f fd ["piece"] (spForm K) := by
  refine F.ok scForm (fun vs H Q E h => ?_) (fun cdv A outer s H vs Q E hr h => ?_)
  · obtain ⟨v, d, rfl, _⟩ := h
    rfl
  obtain ⟨v, d, rfl, hd, lay, dd, q⟩ := h
  have u1 : (A.deeper (envOfC "has_form" (defScope sForm) s.heap.objs.size f cdv)).units + 130 < cLine := by
    have := hr.un
    omega
  refine ⟨_, pss_cons (ps_if (pt_not (pt_val (pe_callB call_isi (by rfl) T.zIs (by decide +kernel) (pa_cons (pv 0) (pa_cons (pe_bltn (v := .ty "tuple") (by rfl) T.zTuple (by decide +kernel) rfl) pa_nil))))) (pss_one (ps_ret pe_bl)) pss_nil)
    (pss_cons (ps_if (pt_cmpR op_eq (pe_callB call_len_seq (by rfl) T.zLen PySem.boot_len (pa_cons (pv 0) pa_nil)) pe_int (nomark _)) (pss_one (ps_ret (pe_cmpR (op_inW u1) (pv 0) (pe_tup (pa_cons (pe_glob (v := .ref NO) (by rfl) T.mO rfl) (pa_cons (pe_glob (v := .ref NU) (by rfl) T.mU rfl) pa_nil))) (by rfl)))) pss_nil)
    (pss_cons (ps_if (PW.pt (pw_or (pt_cmpR op_ne (pe_callB call_len_seq (by rfl) T.zLen PySem.boot_len (pa_cons (pv 0) pa_nil)) pe_int (nomark _)) (pw_or1 (pt_cmpR (op_notInW u1) (pe_ix ix_tup (pv 0) pe_int (fun _ _ => rfl)) (pe_glob (v := .ref PA) (by rfl) T.mP rfl) (by rfl))))) (pss_one (ps_ret pe_bl)) pss_nil)
    (pss_one (ps_ret (pe_or (pe_cmpR (op_eqW u1) (pe_ix ix_tup (pv 0) pe_int (fun _ _ => rfl)) pe_str (nomark _)) (pe_one (pe_cmpR (op_notInW u1) (pe_glob (v := .ref NO) (by rfl) T.mO rfl) (pv 0) (by rfl)))))))), ?_⟩
  refine ⟨_, rfl, _, _, _, _, isTu d, rfl, .ty "tuple", dp_ty hd, kit_tu d, _, rfl, ?_⟩
  have q0 := q H fun _ _ e => e
  cases ht : isTu d with
  | false =>
    have e : form d = false := by
      cases d with
      | tuple _ => cases ht
      | _ => rfl
    rw [e] at q0
    exact iteT q0
  | true =>
    obtain ⟨ds, rfl⟩ : ∃ ds, d = .tuple ds := by
      cases d with
      | tuple ds => exact ⟨ds, rfl⟩
      | _ => cases ht
    cases hd with
    | @tup a xs _ hs ha =>
    have hl := dps_len ha
    refine iteF ⟨_, rfl, a, xs, rfl, .inr hs, rfl, _, rfl, ?_⟩
    have dO : ∀ H', Dp K H' (.ref NO) none1 := fun H' => .tup (T.tO H') (.cons (.str _) .nil)
    have dU : ∀ H', Dp K H' (.ref NU) num1 := fun H' => .tup (T.tU H') (.cons (.str _) .nil)
    cases ha with
    | nil => exact iteF ⟨_, rfl, a, _, rfl, .inr hs, rfl, _, rfl, iteT q0⟩
    | @cons x vs d0 dr hx hr =>
    cases hr with
    | nil =>
      refine iteT ⟨_, rfl, (by show 2 ≤ sizeLine; decide), fun q3 n3 => ?_⟩
      have s3 := same_new (o := .tup [.ref NO, .ref NU]) n3
      refine ⟨.tuple [d0], [none1, num1], .tup (sqT_up s3 hs) (.cons (dp_up s3 _ _ hx) .nil), .tup (.inl (.inl upd_same)) (.cons (dO _) (.cons (dU _) .nil)), lay, (by decide +kernel), Nat.le_trans (Nat.min_le_right _ _) dd, ?_⟩
      exact q _ s3
    | @cons y vs2 d1 dr2 hy hr2 =>
    cases hr2 with
    | nil => exact iteF ⟨_, rfl, a, _, rfl, .inr hs, rfl, _, rfl, iteT (by
        have e : form (.tuple [d0, d1]) = false := by cases d0 <;> rfl
        rw [e] at q0
        exact q0)⟩
    | @cons z vs3 d2 dr3 hz hr3 =>
    cases hr3 with
    | nil =>
      have l3 : (d0.canLay0 && (d1.canLay0 && (d2.canLay0 && true))) = true := lay
      have m3 : max d0.depth (max d1.depth (max d2.depth 0)) + 1 ≤ 120 := dd
      have l0 : d0.canLay0 = true := by
        cases hl0 : d0.canLay0 with
        | true => rfl
        | false => rw [hl0] at l3; exact (Bool.false_ne_true l3).elim
      refine iteF ⟨_, rfl, a, _, rfl, .inr hs, rfl, _, rfl, iteF ?_⟩
      refine ⟨_, rfl, a, _, 0, _, rfl, rfl, hs, head_at _ _, d0, [.str "pair", .str "from", .str "either"], hx, .tup (T.tP H) (.cons (.str _) (.cons (.str _) (.cons (.str _) .nil))), l0, (by decide +kernel), Nat.le_trans (Nat.min_le_right _ _) (by omega), _, rfl, ?_⟩
      cases hS : isS d0 with
      | false =>
        have e : ([PyData.str "pair", .str "from", .str "either"].any fun z => PyData.eqv z d0) = false := by
          cases d0 with
          | str _ => cases hS
          | _ => rfl
        rw [e]
        rw [form_no hS] at q0
        exact iteT q0
      | true =>
        obtain ⟨wd, rfl⟩ : ∃ w, d0 = .str w := by
          cases d0 with
          | str w => exact ⟨w, rfl⟩
          | _ => cases hS
        have e : ([PyData.str "pair", .str "from", .str "either"].any fun z => PyData.eqv z (.str wd)) = (decide (wd = "pair") || (decide (wd = "from") || decide (wd = "either"))) := by
          show (PyData.eqv (.str "pair") (.str wd) || (PyData.eqv (.str "from") (.str wd) || (PyData.eqv (.str "either") (.str wd) || false))) = _
          rw [eqv_str, eqv_str, eqv_str, Bool.or_false]
        rw [e]
        have ef : form (.tuple [.str wd, d1, d2]) = ((decide (wd = "pair") || (decide (wd = "from") || decide (wd = "either"))) && (decide (wd = "either") || !(PyData.eqv d1 none1 || (PyData.eqv d2 none1 || false)))) := rfl
        rw [ef] at q0
        cases hP : (decide (wd = "pair") || (decide (wd = "from") || decide (wd = "either"))) with
        | false =>
          rw [hP] at q0
          exact iteT q0
        | true =>
          rw [hP] at q0
          refine iteF ⟨_, rfl, a, _, 0, _, rfl, rfl, hs, head_at _ _, PyData.str wd, PyData.str "either", hx, .str _, l0, (by decide +kernel), Nat.zero_le _, _, rfl, ?_⟩
          rw [eqv_str, show decide (Str.ofString "either" = wd) = decide (wd = "either") from decide_eq_decide.mpr ⟨fun y => y.symm, fun y => y.symm⟩]
          cases hE : decide (wd = "either") with
          | true =>
            rw [hE] at q0
            exact iteT q0
          | false =>
            rw [hE] at q0
            refine iteF ⟨_, rfl, none1, [.str wd, d1, d2], dO H, .tup hs (.cons hx (.cons hy (.cons hz .nil))), (by decide +kernel), lay, Nat.le_trans (Nat.min_le_right _ _) (by decide), ?_⟩
            exact q0
    | @cons u vs4 d3 dr4 hu hr4 =>
      have e : form (.tuple (d0 :: d1 :: d2 :: d3 :: dr4)) = false := by cases d0 <;> rfl
      rw [e] at q0
      rw [show decide (V.int (((x :: y :: z :: u :: vs4).length : Nat) : Int) = V.int 1) = false from decide_eq_false (fun e2 => by injection e2 with e2; simp only [List.length_cons] at e2; omega)]
      refine iteF ⟨_, rfl, a, _, rfl, .inr hs, rfl, _, rfl, ?_⟩
      rw [show (!decide (V.int (((x :: y :: z :: u :: vs4).length : Nat) : Int) = V.int 3)) = true by
        rw [decide_eq_false (fun e2 => by injection e2 with e2; simp only [List.length_cons] at e2; omega)]
        rfl]
      exact iteT q0
end
end Kf
set_option Elab.async false
set_option linter.all false
set_option maxRecDepth 100000
set_option maxHeartbeats 4000000
set_option pp.maxSteps 1200
/-! k20: what a kind is, of data. -/
namespace Kf
open PySem PySem.Spec PyProof.Rows L2 Sx
def kn : PyData → Bool
  | .tuple [x] => form (.tuple [x])
  | .tuple [w, a, b] => form (.tuple [w, a, b]) && (kn a && kn b)
  | _ => false
mutual
/-- texts and tuples alone -/
def pur : PyData → Bool
  | .str _ => true
  | .tuple ds => purs ds
  | _ => false
def purs : List PyData → Bool
  | [] => true
  | d :: ds => pur d && purs ds
end
mutual
theorem pur_eq : ∀ a b : PyData, pur a = true → PyData.eqv a b = true → a = b
  | .str w, b, _, e => by
    cases b with
    | str z =>
      rw [eqv_str] at e
      rw [of_decide_eq_true e]
    | _ => exact (Bool.false_ne_true e).elim
  | .tuple ds, b, p, e => by
    cases b with
    | tuple es => rw [purs_eq ds es p e]
    | _ => exact (Bool.false_ne_true e).elim
  | .none, _, p, _ => (Bool.false_ne_true p).elim
  | .bool _, _, p, _ => (Bool.false_ne_true p).elim
  | .int _, _, p, _ => (Bool.false_ne_true p).elim
  | .list _, _, p, _ => (Bool.false_ne_true p).elim
  | .dict _, _, p, _ => (Bool.false_ne_true p).elim
theorem purs_eq : ∀ as bs : List PyData, purs as = true → PyData.eqvAll as bs = true → as = bs
  | [], [], _, _ => rfl
  | [], _ :: _, _, e => (Bool.false_ne_true e).elim
  | _ :: _, [], _, e => (Bool.false_ne_true e).elim
  | a :: as, b :: bs, p, e => by
    have p2 : (pur a && purs as) = true := p
    have e2 : (PyData.eqv a b && PyData.eqvAll as bs) = true := e
    rw [Bool.and_eq_true] at p2 e2
    rw [pur_eq a b p2.1 e2.1, purs_eq as bs p2.2 e2.2]
end
theorem form_one {x : PyData} (h : form (.tuple [x]) = true) : ∃ w, x = .str w := by
  cases x with
  | str w => exact ⟨w, rfl⟩
  | _ => exact (Bool.false_ne_true h).elim
theorem form_three {x a b : PyData} (h : form (.tuple [x, a, b]) = true) : ∃ w, x = .str w := by
  cases x with
  | str w => exact ⟨w, rfl⟩
  | _ => exact (Bool.false_ne_true h).elim
theorem kn_pur : ∀ d : PyData, kn d = true → pur d = true
  | .tuple [x], h => by
    have h2 : form (.tuple [x]) = true := by
      rw [kn] at h
      exact h
    obtain ⟨w, rfl⟩ := form_one h2
    rfl
  | .tuple [x, a, b], h => by
    rw [kn, Bool.and_eq_true, Bool.and_eq_true] at h
    obtain ⟨w, rfl⟩ := form_three h.1
    have pa := kn_pur a h.2.1
    have pb := kn_pur b h.2.2
    show (true && (pur a && (pur b && true))) = true
    rw [pa, pb]
    rfl
  | .tuple [], h => by
    simp [kn] at h
  | .tuple [_, _], h => by
    simp [kn] at h
  | .tuple (_ :: _ :: _ :: _ :: _), h => by
    simp [kn] at h
  | .none, h => by simp [kn] at h
  | .bool _, h => by simp [kn] at h
  | .int _, h => by simp [kn] at h
  | .str _, h => by simp [kn] at h
  | .list _, h => by simp [kn] at h
  | .dict _, h => by simp [kn] at h
/-- where the one is a kind, what is like it is one, too -/
theorem kn_like {a b : PyData} : (kn a && (PyData.eqv a b || kn b)) = (kn a && kn b) := by
  cases h : kn a with
  | false => rfl
  | true =>
    cases e : PyData.eqv a b with
    | false => rfl
    | true =>
      rw [← pur_eq a b (kn_pur a h) e, h]
      rfl
theorem kn_form {d : PyData} (h : form d = false) : kn d = false := by
  match d, h with
  | .tuple [x], h => rw [kn]; exact h
  | .tuple [x, a, b], h => rw [kn, h]; rfl
  | .tuple [], _ => simp [kn]
  | .tuple [_, _], _ => simp [kn]
  | .tuple (_ :: _ :: _ :: _ :: _), _ => simp [kn]
  | .none, _ => simp [kn]
  | .bool _, _ => simp [kn]
  | .int _, _ => simp [kn]
  | .str _, _ => simp [kn]
  | .list _, _ => simp [kn]
  | .dict _, _ => simp [kn]
end Kf
set_option Elab.async false
set_option linter.all false
set_option maxRecDepth 100000
set_option maxHeartbeats 8000000
set_option pp.maxSteps 1200
/-! k20: is_kind. -/
namespace Kf
open PySem PySem.Spec PyProof.Rows L2 Sx
abbrev sIsKind : Stmt := top 6
abbrev isN : List Str := ["thing", "todo", "piece", "within", "is_half_through"]
theorem scIsKind : FnScope isN ["thing"] (defScope sIsKind) := ⟨rfl, rfl, rfl, by decide +kernel, rfl, by decide +kernel, by decide +kernel⟩
mutual
def psz : PyData → Nat
  | .tuple ds => 1 + pszs ds
  | .list ds => 1 + pszs ds
  | _ => 1
def pszs : List PyData → Nat
  | [] => 0
  | d :: ds => psz d + pszs ds
end
theorem psz_pos : ∀ d, 1 ≤ psz d
  | .tuple ds => Nat.le_add_right _ _
  | .list ds => Nat.le_add_right _ _
  | .none => Nat.le_refl _
  | .bool _ => Nat.le_refl _
  | .int _ => Nat.le_refl _
  | .str _ => Nat.le_refl _
  | .dict _ => Nat.le_refl _
structure En where
  d : PyData
  n : Nat
  h : Bool
def En.c (e : En) : Bool := if e.h then (match e.d with | .tuple [_, a, b] => PyData.eqv a b || kn b | _ => false) else kn e.d
def En.mu (e : En) : Nat := if e.h then (match e.d with | .tuple [_, _, b] => 2 * psz b + 1 | _ => 1) else 2 * psz e.d
theorem En.mu_pos (e : En) : 1 ≤ e.mu := by
  unfold En.mu
  split
  · split
    · exact Nat.le_add_left _ _
    · exact Nat.le_refl _
  · have := psz_pos e.d
    omega
def sumK (es : List En) : Nat := (es.map En.mu).sum
theorem sumK_app (es fs : List En) : sumK (es ++ fs) = sumK es + sumK fs := by
  unfold sumK
  rw [List.map_append, List.sum_append]
theorem sumK_one (e : En) : sumK [e] = e.mu := by
  unfold sumK
  simp
theorem sumK_len : ∀ es : List En, es.length ≤ sumK es
  | [] => Nat.zero_le _
  | e :: es => by
    have h := sumK_len es
    have p := e.mu_pos
    show es.length + 1 ≤ e.mu + sumK es
    omega
theorem all_snoc {α : Type} {f : α → Bool} {es : List α} {e : α} : (es ++ [e]).all f = (es.all f && f e) := by
  rw [List.all_append]
  simp
def En.fit (e : En) : Prop := e.d.canLay0 = true ∧ e.n + e.d.depth ≤ 101 ∧ (e.h = true → ∃ w a b, e.d = .tuple [w, a, b])
section
variable {P : Program} {w : World} {K : PySem.W.Frag} {mg : Str → Option Value} {base : Heap}
def RowK (K : PySem.W.Frag) (H0 H : Hp) (e : En) (v : V) : Prop := ∃ q x, v = .ref q ∧ H q = some (.tup [x, .int (e.n : Int), .bl e.h]) ∧ Dp K H0 x e.d
theorem RowK.keep {H0 H H' : Hp} (k : Tups H H') (e : En) (v : V) (h : RowK K H0 H e v) : RowK K H0 H' e v := by
  obtain ⟨q, x, e1, e2, a⟩ := h
  exact ⟨q, x, e1, k _ _ e2, a⟩
structure TurnK (K : PySem.W.Frag) (H0 H : Hp) (T : Addr) (R : Bool) (m : Nat) (es : List En) (vt : List V) : Prop where
  sm : Same H0 H
  lt : H T = some (.lst vt)
  rt : All2 (RowK K H0 H) es vt
  ok : ∀ e ∈ es, e.fit
  res : es.all En.c = R
  few : sumK es ≤ 2000000
  m : m = sumK es
def spIsKind (K : PySem.W.Frag) : Sp := fun vs H Q _ => ∃ (v : V) (d : PyData), vs = [v] ∧ Dp K H v d ∧ d.canLay0 = true ∧ d.depth ≤ 100 ∧ psz d ≤ 1000000 ∧ ∀ H', Same H H' → Q (.bl (kn d)) H'
structure PendK (K : PySem.W.Frag) (H0 X : Hp) (pt : Addr) (es : List En) (vt : List V) : Prop where
  sm : Same H0 X
  lt : X pt = some (.lst vt)
  rt : All2 (RowK K H0 X) es vt
theorem PendK.tup {H0 X : Hp} {pt : Addr} {es : List En} {vt : List V} (I : PendK K H0 X pt es vt) {q : Addr} {xs : List V} (nq : X q = none) : PendK K H0 (upd X q (.tup xs)) pt es vt := by
  refine ⟨same_put I.sm nq, ?_, I.rt.mono (RowK.keep (tups_same (same_new nq)))⟩
  rw [upd_ne (ne_of_none I.lt nq)]
  exact I.lt
theorem PendK.push {H0 X : Hp} {pt : Addr} {es : List En} {vt : List V} (I : PendK K H0 X pt es vt) (nf : H0 pt = none) {q : Addr} {x : V} {e : En} (hq : X q = some (.tup [x, .int (e.n : Int), .bl e.h])) (a : Dp K H0 x e.d) :
    PendK K H0 (upd X pt (.lst (vt ++ [.ref q]))) pt (es ++ [e]) (vt ++ [.ref q]) := by
  have k : Tups X (upd X pt (.lst (vt ++ [.ref q]))) := tups_put fun xs z => by
    rw [I.lt] at z
    cases z
  refine ⟨fun b o h => ?_, upd_same, (I.rt.mono (RowK.keep k)).app (.one ⟨q, x, rfl, k _ _ hq, a⟩)⟩
  rw [upd_ne (ne_of_none h nf)]
  exact I.sm _ _ h
theorem joinS {C G : L2.St → Hp → Prop} {M : Prop} (main : (∀ σ H, C σ H → G σ H) → M) (rest : ∀ σ H, C σ H → G σ H) : M := main rest
theorem form_is {d : PyData} (h : form d = true) : (∃ x, d = .tuple [x]) ∨ ∃ w a b, d = .tuple [w, a, b] := by
  match d, h with
  | .tuple [x], _ => exact .inl ⟨x, rfl⟩
  | .tuple [w, a, b], _ => exact .inr ⟨w, a, b, rfl⟩
  | .tuple [], h => exact (Bool.false_ne_true h).elim
  | .tuple [a, a2], h =>
    have e : form (.tuple [a, a2]) = false := by cases a <;> rfl
    rw [e] at h
    cases h
  | .tuple (a :: b :: c :: d :: e), h =>
    have z : form (.tuple (a :: b :: c :: d :: e)) = false := by cases a <;> rfl
    rw [z] at h
    cases h
  | .none, h => exact (Bool.false_ne_true h).elim
  | .bool _, h => exact (Bool.false_ne_true h).elim
  | .int _, h => exact (Bool.false_ne_true h).elim
  | .str _, h => exact (Bool.false_ne_true h).elim
  | .list _, h => exact (Bool.false_ne_true h).elim
  | .dict _, h => exact (Bool.false_ne_true h).elim
theorem three {H : Hp} {v : V} {w a b : PyData} (h : Dp K H v (.tuple [w, a, b])) : ∃ p xw xa xb, v = .ref p ∧ SqT K H p [xw, xa, xb] ∧ Dp K H xw w ∧ Dp K H xa a ∧ Dp K H xb b := by
  cases h with
  | @tup p xs _ hs ha =>
  cases ha with
  | @cons x vs _ _ hx hr =>
  cases hr with
  | @cons y vs2 _ _ hy hr2 =>
  cases hr2 with
  | @cons z vs3 _ _ hz hr3 =>
  cases hr3
  exact ⟨p, x, y, z, rfl, hs, hx, hy, hz⟩
theorem lay3 {w a b : PyData} (h : (PyData.tuple [w, a, b]).canLay0 = true) : a.canLay0 = true ∧ b.canLay0 = true := by
  have h2 : (w.canLay0 && (a.canLay0 && (b.canLay0 && true))) = true := h
  rw [Bool.and_eq_true, Bool.and_eq_true, Bool.and_eq_true] at h2
  exact ⟨h2.2.1, h2.2.2.1⟩
theorem dep3 {w a b : PyData} : a.depth + 1 ≤ (PyData.tuple [w, a, b]).depth ∧ b.depth + 1 ≤ (PyData.tuple [w, a, b]).depth := by
  have e : (PyData.tuple [w, a, b]).depth = max w.depth (max a.depth (max b.depth 0)) + 1 := rfl
  rw [e]
  omega
theorem dep_or (d : PyData) : 0 ≤ d.depth := Nat.zero_le _
theorem form_flat {d : PyData} (h : d.depth = 0) : form d = false := by
  cases d with
  | tuple ds =>
    have e : (PyData.tuple ds).depth = PyData.depthAll ds + 1 := rfl
    omega
  | _ => rfl
theorem ok_iskind {f g NO NU PA : Addr} {fd gd : FuncData} {tk : Tok} (F : Fun K "is_kind" "is_kind" sIsKind f fd) (T : Tx K mg NO NU PA) (mM : mg "MOST_WITHIN" = some (.int 100 tk))
    (G : FnOk P w K mg base CX0 1 g gd ["piece"] (spForm K)) (bG : L2.Binds K gd ["piece"] []) (kG : PySem.W.keepIn K (.ref g) = true) (mG : mg "has_form" = some (.ref g)) : FnOk P w K mg base CX0 2 f fd ["thing"] (spIsKind K) := by
  refine F.ok scIsKind (fun vs H Q E h => ?_) (fun cdv A outer s H vs Q E hr h => ?_)
  · obtain ⟨v, d, rfl, _⟩ := h
    rfl
  obtain ⟨v, d, rfl, hd, lay, dd, sz, q⟩ := h
  have h1 : Room 1 _ := hr.mono (by decide)
  have u1 : (A.deeper (envOfC "is_kind" (defScope sIsKind) s.heap.objs.size f cdv)).units + 130 < cLine := by
    have := hr.un
    omega
  refine ⟨_, pss_cons (ps_set (i := 1) scIsKind.nd rfl (.inl rfl) (pe_lst (pa_cons (pe_tup (pa_cons (pv 0) (pa_cons pe_int (pa_cons pe_bl pa_nil)))) pa_nil)))
    (pss_cons (ps_while PassesOwn.never (pt_truth (pv 1) (by intro _; rfl))
      (pss_cons (ps_asg (pe_bm0 PySem.F.plainAttrs_list PySem.F.slot_list_pop PySem.F.type_list_pop mt_pop (pv 1)) (pg_tup (by rfl) (pgs_cons (pg_name (i := 2) scIsKind.nd rfl (.inl rfl)) (pgs_cons (pg_name (i := 3) scIsKind.nd rfl (.inl rfl)) (pgs_cons (pg_name (i := 4) scIsKind.nd rfl (.inl rfl)) pgs_nil)))))
      (pss_one (ps_if (pt_val (pv 4))
        (pss_one (ps_if (pt_cmpR (op_neW u1) (pe_ix ix_tup (pv 2) pe_int (fun _ _ => rfl)) (pe_ix ix_tup (pv 2) pe_int (fun _ _ => rfl)) (nomark _))
          (pss_one (ps_expr (pe_bm PySem.F.plainAttrs_list PySem.F.slot_list_append PySem.F.type_list_append mt_append (pv 1) (pa_cons (pe_tup (pa_cons (pe_ix ix_tup (pv 2) pe_int (fun _ _ => rfl)) (pa_cons (pe_op op_add (pv 3) pe_int) (pa_cons pe_bl pa_nil)))) pa_nil)))) pss_nil))
        (pss_one (ps_if (PW.pt (pw_or (pt_cmpR op_gt (pv 3) (pe_glob (v := .int 100) (by rfl) mM ⟨_, rfl⟩) (nomark _)) (pw_or1 (pt_not (pt_val (pe_call G h1 (by rfl) mG kG bG .nil pass0 (pa_cons (pv 2) pa_nil)))))))
          (pss_one (ps_ret pe_bl))
          (pss_one (ps_if (pt_cmpR op_eq (pe_callB call_len_seq (by rfl) T.zLen PySem.boot_len (pa_cons (pv 2) pa_nil)) pe_int (nomark _))
            (pss_cons (ps_expr (pe_bm PySem.F.plainAttrs_list PySem.F.slot_list_append PySem.F.type_list_append mt_append (pv 1) (pa_cons (pe_tup (pa_cons (pv 2) (pa_cons (pv 3) (pa_cons pe_bl pa_nil)))) pa_nil)))
            (pss_one (ps_expr (pe_bm PySem.F.plainAttrs_list PySem.F.slot_list_append PySem.F.type_list_append mt_append (pv 1) (pa_cons (pe_tup (pa_cons (pe_ix ix_tup (pv 2) pe_int (fun _ _ => rfl)) (pa_cons (pe_op op_add (pv 3) pe_int) (pa_cons pe_bl pa_nil)))) pa_nil))))) pss_nil))))))))
    (pss_one (ps_ret pe_bl))), ?_⟩
  refine ⟨_, rfl, (by show 3 ≤ sizeLine; decide), fun q0 nq => ?_⟩
  refine ⟨(by show 1 ≤ sizeLine; decide), fun pt nt => ?_⟩
  have s1 : Same H (upd H q0 (.tup [v, .int 1, .bl false])) := same_new nq
  have s2 := same_put (o := .lst [.ref q0]) s1 nt
  have fresh : H pt = none := s1.free nt
  have nqt : q0 ≠ pt := fun z => by
    rw [← z, upd_same] at nt
    cases nt
  refine ⟨fun m σ H' => ∃ (es : List En) (vt : List V) (y2 y3 y4 : Option V), σ = [some v, some (.ref pt), y2, y3, y4] ∧ TurnK K H H' pt (kn d) m es vt,
    ⟨_, [⟨d, 1, false⟩], [.ref q0], none, none, none, rfl, ⟨s2, upd_same, .one ⟨q0, v, rfl, ?_, hd⟩, fun e he => by rw [List.mem_singleton.mp he]; exact ⟨lay, (by show 1 + d.depth ≤ 101; omega), fun z => by cases z⟩, (by show (kn d && true) = kn d; rw [Bool.and_true]), (by rw [sumK_one]; show 2 * psz d ≤ 2000000; omega), rfl⟩⟩, fun m σ H1 hI => ?_⟩
  · rw [upd_ne nqt, upd_same]
    rfl
  obtain ⟨es, vt, y2, y3, y4, rfl, W0⟩ := hI
  refine ⟨_, rfl, !vt.isEmpty, .inl ⟨vt, .inl (.inl W0.lt), rfl⟩, ?_⟩
  rcases List.eq_nil_or_concat vt with en | ⟨vt0, y, en⟩
  · subst en
    refine iteF ?_
    have ee : es = [] := List.length_eq_zero_iff.mp W0.rt.len
    subst ee
    have r := q H1 W0.sm
    rw [← W0.res] at r
    exact r
  · rw [List.concat_eq_append] at en
    subst en
    rw [show (!(vt0 ++ [y]).isEmpty) = true by simp]
    refine iteT ?_
    obtain ⟨es1, ⟨d1, n1, b1⟩, rfl, rt0, ⟨q1, x1, rfl, hq1, dp1⟩⟩ := W0.rt.last
    obtain ⟨lay1, dep1, half1⟩ := W0.ok ⟨d1, n1, b1⟩ (List.mem_append.mpr (.inr (List.mem_singleton.mpr rfl)))
    have res := W0.res
    rw [all_snoc] at res
    have few := W0.few
    rw [sumK_app, sumK_one] at few
    have em := W0.m
    rw [sumK_app, sumK_one] at em
    have sp := En.mu_pos ⟨d1, n1, b1⟩
    refine ⟨fun σ' H' => ∃ m', m' < m ∧ ∃ (es : List En) (vt : List V) (y2 y3 y4 : Option V), σ' = [some v, some (.ref pt), y2, y3, y4] ∧ TurnK K H H' pt (kn d) m' es vt,
      fun σ' H' h => h, ?_⟩
    refine ⟨_, rfl, .inl ⟨rfl, _, .inl (.inl W0.lt)⟩, pt, _, .ref q1, rfl, rfl, W0.lt, by simp, ?_⟩
    rw [List.dropLast_concat]
    have k2 : Tups H1 (upd H1 pt (.lst vt0)) := tups_put fun xs z => by
      rw [W0.lt] at z
      cases z
    have S2 : Same H (upd H1 pt (.lst vt0)) := fun a o e => by
      rw [upd_ne (ne_of_none e fresh)]
      exact W0.sm _ _ e
    have lt2 : (upd H1 pt (.lst vt0)) pt = some (.lst vt0) := upd_same
    have hq2 := k2 _ _ hq1
    have rt2 := rt0.mono (RowK.keep k2)
    have okr : ∀ e ∈ es1, e.fit := fun e he => W0.ok e (List.mem_append.mpr (.inl he))
    generalize upd H1 pt (.lst vt0) = H2 at k2 S2 lt2 hq2 rt2
    refine ⟨q1, [x1, .int (n1 : Int), .bl b1], rfl, .inl (.inl hq2), rfl, x1, _, rfl, .int (n1 : Int), _, rfl, .bl b1, [], rfl, rfl, ?_⟩
    have dp2 := dp_up S2 _ _ dp1
    have bnd : vt0.length + 2 ≤ sizeLine := by
      have l1 := rt2.len
      have l2 := sumK_len es1
      exact Nat.le_trans (m := 2000002) (by omega) (by decide)
    have pend : PendK K H H2 pt es1 vt0 := ⟨S2, lt2, rt2⟩
    cases b1 with
    | true =>
      obtain ⟨dw, da, db, ed⟩ := half1 rfl
      have ed' : d1 = .tuple [dw, da, db] := ed
      subst ed'
      obtain ⟨a, xw, xa, xb, rfl, hs, hw, ha, hb⟩ := three dp1
      have hs2 := sqT_up S2 hs
      have mu1 : En.mu ⟨.tuple [dw, da, db], n1, true⟩ = 2 * psz db + 1 := rfl
      have c1 : En.c ⟨.tuple [dw, da, db], n1, true⟩ = (PyData.eqv da db || kn db) := rfl
      rw [mu1] at few em
      rw [c1] at res
      obtain ⟨la, lb⟩ := lay3 lay1
      obtain ⟨ea, eb⟩ := dep3 (w := dw) (a := da) (b := db)
      have dep : n1 + (PyData.tuple [dw, da, db]).depth ≤ 101 := dep1
      refine ⟨_, rfl, _, rfl, ?_⟩
      refine iteT ⟨_, rfl, a, _, 1, _, rfl, rfl, hs2, atI_nat (j := 1) rfl, _, rfl, a, _, 2, _, rfl, rfl, hs2, atI_nat (j := 2) rfl, da, db, dp_up S2 _ _ ha, dp_up S2 _ _ hb, la, lb, by omega, _, rfl, ?_⟩
      cases hE : PyData.eqv da db with
      | true =>
        rw [hE, Bool.true_or, Bool.and_true] at res
        exact iteF ⟨sumK es1, by omega, es1, vt0, _, _, _, rfl, ⟨S2, lt2, rt2, okr, res, by omega, rfl⟩⟩
      | false =>
        rw [hE, Bool.false_or] at res
        refine iteT ?_
        refine ⟨_, rfl, .inl ⟨rfl, _, .inl (.inl lt2)⟩, _, rfl, a, _, 2, _, rfl, rfl, hs2, atI_nat (j := 2) rfl, _, rfl, _, _, rfl, rfl, (by show 3 ≤ sizeLine; decide), fun q3 nq3 => ?_⟩
        have I1 := pend.tup (xs := [xb, .int ((n1 : Int) + 1), .bl false]) nq3
        refine ⟨pt, vt0, .ref q3, rfl, rfl, I1.lt, Nat.lt_of_lt_of_le (by omega) bnd, ?_⟩
        have I2 := I1.push (e := ⟨db, n1 + 1, false⟩) fresh upd_same hb
        refine ⟨sumK (es1 ++ [⟨db, n1 + 1, false⟩]), ?_, _, _, _, _, _, rfl, ⟨I2.sm, I2.lt, I2.rt, fun e he => ?_, ?_, ?_, rfl⟩⟩
        · rw [sumK_app, sumK_one]
          show sumK es1 + 2 * psz db < m
          omega
        · rcases List.mem_append.mp he with he | he
          · exact okr e he
          · rw [List.mem_singleton.mp he]
            exact ⟨lb, (by show n1 + 1 + db.depth ≤ 101; omega), fun z => by cases z⟩
        · rw [all_snoc]
          exact res
        · rw [sumK_app, sumK_one]
          show sumK es1 + 2 * psz db ≤ 2000000
          omega
    | false =>
      have mu1 : En.mu ⟨d1, n1, false⟩ = 2 * psz d1 := rfl
      have c1 : En.c ⟨d1, n1, false⟩ = kn d1 := rfl
      rw [mu1] at few em
      rw [c1] at res
      have dep : n1 + d1.depth ≤ 101 := dep1
      have pd := dep_or d1
      refine ⟨_, rfl, _, rfl, ?_⟩
      refine iteF ⟨_, rfl, _, _, rfl, rfl, _, rfl, ?_⟩
      refine ite2 (fun c => ?_) (fun c => ?_)
      · have z : (n1 : Int) > 100 := of_decide_eq_true c
        have z0 : d1.depth = 0 := by omega
        have r := q H2 S2
        rw [← res, kn_form (form_flat z0), Bool.and_false] at r
        exact iteT r
      refine ⟨_, rfl, x1, d1, rfl, dp2, lay1, by omega, fun H3 s3 => ⟨_, rfl, ?_⟩⟩
      have S3 := S2.trans s3
      have pend3 : PendK K H H3 pt es1 vt0 := ⟨S3, s3 _ _ lt2, rt2.mono (RowK.keep (tups_same s3))⟩
      cases hf : form d1 with
      | false =>
        have r := q H3 S3
        rw [← res, kn_form hf, Bool.and_false] at r
        exact iteT r
      | true =>
        refine iteF ?_
        rcases form_is hf with ⟨x, ex⟩ | ⟨dw, da, db, ex⟩
        · subst ex
          cases dp1 with
          | @tup a xs _ hs ha =>
          cases ha with
          | @cons vx _ _ _ hx hr =>
          cases hr
          rw [show kn (.tuple [x]) = form (.tuple [x]) by rw [kn], hf, Bool.and_true] at res
          refine ⟨_, rfl, a, _, rfl, .inr (sqT_up S3 hs), rfl, _, rfl, iteF ?_⟩
          have p1 := psz_pos (.tuple [x])
          exact ⟨sumK es1, by omega, es1, vt0, _, _, _, rfl, ⟨S3, pend3.lt, pend3.rt, okr, res, by omega, rfl⟩⟩
        · subst ex
          obtain ⟨a, xw, xa, xb, rfl, hs, hw, ha, hb⟩ := three dp1
          have hs3 := sqT_up S3 hs
          obtain ⟨la, lb⟩ := lay3 lay1
          obtain ⟨ea, eb⟩ := dep3 (w := dw) (a := da) (b := db)
          have szs : psz (.tuple [dw, da, db]) = 1 + (psz dw + (psz da + (psz db + 0))) := rfl
          have pw := psz_pos dw
          rw [show kn (.tuple [dw, da, db]) = (form (.tuple [dw, da, db]) && (kn da && kn db)) by rw [kn], hf, Bool.true_and] at res
          refine ⟨_, rfl, a, _, rfl, .inr hs3, rfl, _, rfl, iteT ?_⟩
          refine ⟨_, rfl, .inl ⟨rfl, _, .inl (.inl pend3.lt)⟩, _, rfl, _, rfl, (by show 3 ≤ sizeLine; decide), fun q3 nq3 => ?_⟩
          have I1 := pend3.tup (xs := [.ref a, .int (n1 : Int), .bl true]) nq3
          refine ⟨pt, vt0, .ref q3, rfl, rfl, I1.lt, Nat.lt_of_lt_of_le (by omega) bnd, ?_⟩
          have I2 := I1.push (e := ⟨.tuple [dw, da, db], n1, true⟩) fresh upd_same (by show Dp K H (.ref a) (.tuple [dw, da, db]); exact .tup hs (.cons hw (.cons ha (.cons hb .nil))))
          generalize upd (upd H3 q3 (.tup [.ref a, .int (n1 : Int), .bl true])) pt (.lst (vt0 ++ [.ref q3])) = X2 at I2
          have hs4 := sqT_up I2.sm hs
          refine ⟨_, rfl, .inl ⟨rfl, _, .inl (.inl I2.lt)⟩, _, rfl, a, _, 1, _, rfl, rfl, hs4, atI_nat (j := 1) rfl, _, rfl, _, _, rfl, rfl, (by show 3 ≤ sizeLine; decide), fun q4 nq4 => ?_⟩
          have I3 := I2.tup (xs := [xa, .int ((n1 : Int) + 1), .bl false]) nq4
          refine ⟨pt, _, .ref q4, rfl, rfl, I3.lt, Nat.lt_of_lt_of_le (by rw [List.length_append, List.length_singleton]; omega) bnd, ?_⟩
          have I4 := I3.push (e := ⟨da, n1 + 1, false⟩) fresh upd_same ha
          have m1 : En.mu ⟨.tuple [dw, da, db], n1, true⟩ = 2 * psz db + 1 := rfl
          have m2 : En.mu ⟨da, n1 + 1, false⟩ = 2 * psz da := rfl
          refine ⟨_, ?_, _, _, _, _, _, rfl, ⟨I4.sm, I4.lt, I4.rt, fun e he => ?_, ?_, ?_, rfl⟩⟩
          · rw [sumK_app, sumK_app, sumK_one, sumK_one, m1, m2]
            omega
          · rcases List.mem_append.mp he with he | he
            · rcases List.mem_append.mp he with he | he
              · exact okr e he
              · rw [List.mem_singleton.mp he]
                exact ⟨lay1, dep1, fun _ => ⟨dw, da, db, rfl⟩⟩
            · rw [List.mem_singleton.mp he]
              exact ⟨la, (by show n1 + 1 + da.depth ≤ 101; omega), fun z => by cases z⟩
          · rw [all_snoc, all_snoc]
            show ((es1.all En.c && (PyData.eqv da db || kn db)) && kn da) = kn d
            rw [Bool.and_assoc, Bool.and_comm (PyData.eqv da db || kn db), kn_like]
            exact res
          · rw [sumK_app, sumK_app, sumK_one, sumK_one, m1, m2]
            omega
end
end Kf
set_option Elab.async false
set_option linter.all false
set_option maxRecDepth 100000
set_option maxHeartbeats 8000000
set_option pp.maxSteps 1200
/-! k20: the law's own look. -/
namespace Kf
open PySem PySem.Spec PyProof.Rows L2 Sx
abbrev sDue : Stmt := top 11
theorem scDue : FnScope ["thing"] ["thing"] (defScope sDue) := ⟨rfl, rfl, rfl, by decide +kernel, rfl, by decide +kernel, by decide +kernel⟩
section
variable {P : Program} {w : World} {K : PySem.W.Frag} {mg : Str → Option Value} {base : Heap}
structure Blt (mg : Str → Option Value) : Prop where
  zIs : mg "isinstance" = none
  zStr : mg "str" = none
  zTuple : mg "tuple" = none
  zLen : mg "len" = none
theorem no_calls {f : Addr} {fd : FuncData} {k : Nat} {ps : List Str} {sp : Sp} (no : ∀ vs H Q E, ¬ sp vs H Q E) : FnOk P w K mg base CX0 k f fd ps sp :=
  ⟨fun vs H Q E h => absurd h (no vs H Q E), fun A outer s H args us vs Q E _ _ _ _ h => absurd h (no vs H Q E)⟩
def spDue (K : PySem.W.Frag) (n : Nat) : Sp := fun vs H Q _ => ∃ (v : V) (d : PyData), vs = [v] ∧ Dp K H v d ∧ d.canLay0 = true ∧ d.depth < n ∧ d.depth ≤ 110 ∧ ∀ H', Same H H' → Q (.bl (kn d)) H'
theorem ok_due {f : Addr} {fd : FuncData} {n : Nat} (F : Fun K "_law_due" "_law_due" sDue f fd) (T : Blt mg) (S : FnOk P w K mg base CX0 n f fd ["thing"] (spDue K n)) (bS : Binds K fd ["thing"] []) (mS : mg "_law_due" = some (.ref f)) :
    FnOk P w K mg base CX0 (n + 1) f fd ["thing"] (spDue K (n + 1)) := by
  refine F.ok scDue (fun vs H Q E h => ?_) (fun cdv A outer s H vs Q E hr h => ?_)
  · obtain ⟨v, d, rfl, _⟩ := h
    rfl
  obtain ⟨v, d, rfl, hd, lay, dn, dd, q⟩ := h
  have u1 : (A.deeper (envOfC "_law_due" (defScope sDue) s.heap.objs.size f cdv)).units + 130 < cLine := by
    have := hr.un
    omega
  refine ⟨_, pss_cons (ps_if (PW.pt (pw_or (pt_not (pt_val (pe_callB call_isi (by rfl) T.zIs (by decide +kernel) (pa_cons (pv 0) (pa_cons (pe_bltn (v := .ty "tuple") (by rfl) T.zTuple (by decide +kernel) rfl) pa_nil)))))
      (pw_or (pt_cmpR op_notIn_seq (pe_callB call_len_seq (by rfl) T.zLen PySem.boot_len (pa_cons (pv 0) pa_nil)) (pe_tup (pa_cons pe_int (pa_cons pe_int pa_nil))) (by rfl))
      (pw_or1 (pt_not (pt_val (pe_callB call_isi (by rfl) T.zIs (by decide +kernel) (pa_cons (pe_ix ix_tup (pv 0) pe_int (fun _ _ => rfl)) (pa_cons (pe_bltn (v := .ty "str") (by rfl) T.zStr (by decide +kernel) rfl) pa_nil))))))))) (pss_one (ps_ret pe_bl)) pss_nil)
    (pss_cons (ps_if (pt_cmpR op_eq (pe_callB call_len_seq (by rfl) T.zLen PySem.boot_len (pa_cons (pv 0) pa_nil)) pe_int (nomark _)) (pss_one (ps_ret (pe_cmpR op_in_seq (pe_ix ix_tup (pv 0) pe_int (fun _ _ => rfl)) (pe_tup (pa_cons pe_str (pa_cons pe_str pa_nil))) (by rfl)))) pss_nil)
    (pss_cons (ps_if (PW.pt (pw_or (pt_cmpR op_notIn_seq (pe_ix ix_tup (pv 0) pe_int (fun _ _ => rfl)) (pe_tup (pa_cons pe_str (pa_cons pe_str (pa_cons pe_str pa_nil)))) (by rfl))
      (pw_or (pt_not (pt_val (pe_call S hr (by rfl) mS F.kp bS .nil pass0 (pa_cons (pe_ix ix_tup (pv 0) pe_int (fun _ _ => rfl)) pa_nil))))
      (pw_or1 (pt_not (pt_val (pe_call S hr (by rfl) mS F.kp bS .nil pass0 (pa_cons (pe_ix ix_tup (pv 0) pe_int (fun _ _ => rfl)) pa_nil)))))))) (pss_one (ps_ret pe_bl)) pss_nil)
    (pss_one (ps_ret (pe_or (pe_cmpR op_eq (pe_ix ix_tup (pv 0) pe_int (fun _ _ => rfl)) pe_str (nomark _))
      (pe_one (pe_and (pe_cmpR (op_neW u1) (pe_ix ix_tup (pv 0) pe_int (fun _ _ => rfl)) (pe_tup (pa_cons pe_str pa_nil)) (nomark _)) (pe_one (pe_cmpR (op_neW u1) (pe_ix ix_tup (pv 0) pe_int (fun _ _ => rfl)) (pe_tup (pa_cons pe_str pa_nil)) (nomark _)))))))))), ?_⟩
  have q0 := q H fun _ _ e => e
  refine ⟨_, rfl, _, _, _, _, isTu d, rfl, .ty "tuple", dp_ty hd, kit_tu d, _, rfl, ?_⟩
  cases ht : isTu d with
  | false =>
    have e : kn d = false := kn_form (by
      cases d with
      | tuple _ => cases ht
      | _ => rfl)
    rw [e] at q0
    exact iteT (iteT q0)
  | true =>
    obtain ⟨ds, rfl⟩ : ∃ ds, d = .tuple ds := by
      cases d with
      | tuple ds => exact ⟨ds, rfl⟩
      | _ => cases ht
    cases hd with
    | @tup a xs _ hs ha =>
    have hl := dps_len ha
    refine iteF ⟨_, rfl, a, xs, rfl, .inr hs, (by show 2 ≤ sizeLine; decide), fun q3 n3 => ?_⟩
    have s3 := same_new (o := .tup [.int 1, .int 3]) n3
    have e3 : upd H q3 (.tup [.int 1, .int 3]) q3 = _ := upd_same
    have hs3 := sqT_up s3 hs
    have ha3 := dps_up s3 _ _ ha
    generalize upd H q3 (.tup [.int 1, .int 3]) = H3 at s3 e3 hs3 ha3
    refine ⟨q3, [.int 1, .int 3], rfl, .inr (.inl (.inl e3)), rfl, rfl, _, rfl, ?_⟩
    have q3' := q H3 s3
    have odd_ : xs.length ≠ 1 → xs.length ≠ 3 → kn (.tuple ds) = false → (!inV (.int ((xs.length : Nat) : Int)) [.int 1, .int 3]) = true := fun n1 n2 _ => by
      have z : inV (.int ((xs.length : Nat) : Int)) [.int 1, .int 3] = false := by
        show (eqV (.int 1) _ || (eqV (.int 3) _ || false)) = false
        rw [show eqV (.int 1) (.int ((xs.length : Nat) : Int)) = false from beq_eq_false_iff_ne.mpr (by omega), show eqV (.int 3) (.int ((xs.length : Nat) : Int)) = false from beq_eq_false_iff_ne.mpr (by omega)]
        rfl
      rw [z]
      rfl
    match ds, ha3, hl, lay, dn, dd, q3', odd_ with
    | [], ha3, hl, lay, dn, dd, q3', odd_ =>
      have e : kn (.tuple []) = false := kn_form rfl
      rw [odd_ (by rw [hl]; decide) (by rw [hl]; decide) e]
      rw [e] at q3'
      exact iteT (iteT q3')
    | [d0, d1], ha3, hl, lay, dn, dd, q3', odd_ =>
      have e : kn (.tuple [d0, d1]) = false := kn_form (by cases d0 <;> rfl)
      rw [odd_ (by rw [hl]; show 2 ≠ 1; decide) (by rw [hl]; show 2 ≠ 3; decide) e]
      rw [e] at q3'
      exact iteT (iteT q3')
    | d0 :: d1 :: d2 :: d3 :: dr, ha3, hl, lay, dn, dd, q3', odd_ =>
      have e : kn (.tuple (d0 :: d1 :: d2 :: d3 :: dr)) = false := kn_form (by cases d0 <;> rfl)
      have l4 : xs.length = dr.length + 4 := hl
      rw [odd_ (by omega) (by omega) e]
      rw [e] at q3'
      exact iteT (iteT q3')
    | [x], ha3, hl, lay, dn, dd, q3', odd_ =>
      cases ha3 with
      | @cons vx _ _ _ hx hr =>
      cases hr
      refine iteF ⟨_, rfl, a, _, 0, _, rfl, rfl, hs3, head_at _ _, _, _, _, _, isS x, rfl, .ty "str", dp_ty hx, kit_s x, _, rfl, ?_⟩
      rw [show kn (.tuple [x]) = form (.tuple [x]) by rw [kn]] at q
      cases hS : isS x with
      | false =>
        have e : form (.tuple [x]) = false := by
          cases x with
          | str _ => cases hS
          | _ => rfl
        have q4 := q H3 s3
        rw [e] at q4
        exact iteT q4
      | true =>
        obtain ⟨wd, rfl⟩ : ∃ w, x = .str w := by
          cases x with
          | str w => exact ⟨w, rfl⟩
          | _ => cases hS
        cases hx
        refine iteF ⟨_, rfl, a, _, rfl, .inr hs3, rfl, _, rfl, ?_⟩
        refine iteT ⟨_, rfl, a, _, 0, _, rfl, rfl, hs3, head_at _ _, (by show 2 ≤ sizeLine; decide), fun q4 n4 => ?_⟩
        have s4 := same_new (o := .tup [.str "none", .str "number"]) n4
        refine ⟨q4, [.str "none", .str "number"], rfl, .inr (.inl (.inl upd_same)), rfl, rfl, ?_⟩
        have q5 := q _ (s3.trans s4)
        have e : form (.tuple [.str wd]) = inV (.str wd) [.str "none", .str "number"] := by
          show (PyData.eqv none1 (.tuple [.str wd]) || (PyData.eqv num1 (.tuple [.str wd]) || false)) = ((Str.ofString "none" == wd) || ((Str.ofString "number" == wd) || false))
          rw [show PyData.eqv none1 (.tuple [.str wd]) = (PyData.eqv (.str "none") (.str wd) && true) from rfl, show PyData.eqv num1 (.tuple [.str wd]) = (PyData.eqv (.str "number") (.str wd) && true) from rfl, Bool.and_true, Bool.and_true]
          rfl
        rw [e] at q5
        exact q5
    | [x, da, db], ha3, hl, lay, dn, dd, q3', odd_ =>
      obtain ⟨a', xw, xa, xb, ea, hs', hw, hda, hdb⟩ := three (.tup hs3 ha3)
      cases ea
      have lay_ : (PyData.tuple [x, da, db]).canLay0 = true := lay
      obtain ⟨la, lb⟩ := lay3 lay_
      obtain ⟨pa, pb⟩ := dep3 (w := x) (a := da) (b := db)
      have dn' : (PyData.tuple [x, da, db]).depth < n + 1 := dn
      have dd' : (PyData.tuple [x, da, db]).depth ≤ 110 := dd
      have hs3 := hs'
      rw [show (!inV (.int ((xs.length : Nat) : Int)) [.int 1, .int 3]) = false by rw [hl]; rfl]
      refine iteF ⟨_, rfl, a, _, 0, _, rfl, rfl, hs3, head_at _ _, _, _, _, _, isS x, rfl, .ty "str", dp_ty hw, kit_s x, _, rfl, ?_⟩
      cases hS : isS x with
      | false =>
        have q4 := q H3 s3
        rw [show kn (.tuple [x, da, db]) = false from kn_form (form_no hS)] at q4
        exact iteT q4
      | true =>
        obtain ⟨wd, rfl⟩ : ∃ w, x = .str w := by
          cases x with
          | str w => exact ⟨w, rfl⟩
          | _ => cases hS
        cases hw
        refine iteF ⟨_, rfl, a, _, rfl, .inr hs3, rfl, _, rfl, ?_⟩
        refine iteF ⟨_, rfl, a, _, 0, _, rfl, rfl, hs3, head_at _ _, (by show 3 ≤ sizeLine; decide), fun q4 n4 => ?_⟩
        have s4 := same_new (o := .tup [.str "pair", .str "either", .str "from"]) n4
        have e4 : upd H3 q4 (.tup [.str "pair", .str "either", .str "from"]) q4 = _ := upd_same
        have hs4 := sqT_up s4 hs3
        have da4 := dp_up s4 _ _ hda
        have db4 := dp_up s4 _ _ hdb
        generalize upd H3 q4 (.tup [.str "pair", .str "either", .str "from"]) = H4 at s4 e4 hs4 da4 db4
        have S4 := s3.trans s4
        refine ⟨q4, [.str "pair", .str "either", .str "from"], rfl, .inr (.inl (.inl e4)), rfl, rfl, _, rfl, ?_⟩
        have knd : kn (.tuple [.str wd, da, db]) = (form (.tuple [.str wd, da, db]) && (kn da && kn db)) := by rw [kn]
        have ef : form (.tuple [.str wd, da, db]) = ((decide (wd = "pair") || (decide (wd = "from") || decide (wd = "either"))) && (decide (wd = "either") || !(PyData.eqv da none1 || (PyData.eqv db none1 || false)))) := rfl
        have ei : inV (.str wd) [.str "pair", .str "either", .str "from"] = (decide (wd = "pair") || (decide (wd = "from") || decide (wd = "either"))) := by
          show (PyData.eqv (.str "pair") (.str wd) || (PyData.eqv (.str "either") (.str wd) || (PyData.eqv (.str "from") (.str wd) || false))) = _
          rw [eqv_str, eqv_str, eqv_str, Bool.or_false, Bool.or_comm (decide (wd = "either"))]
        rw [ei]
        cases hP : (decide (wd = "pair") || (decide (wd = "from") || decide (wd = "either"))) with
        | false =>
          have q5 := q H4 S4
          rw [knd, ef, hP] at q5
          exact iteT (iteT q5)
        | true =>
          refine iteF ⟨_, rfl, a, _, 1, _, rfl, rfl, hs4, atI_nat (j := 1) rfl, xa, da, rfl, da4, la, by omega, by omega, fun H5 s5 => ⟨_, rfl, ?_⟩⟩
          have S5 := S4.trans s5
          cases ka : kn da with
          | false =>
            have q5 := q H5 S5
            rw [knd, ka, Bool.false_and, Bool.and_false] at q5
            exact iteT (iteT q5)
          | true =>
            refine iteF ⟨_, rfl, a, _, 2, _, rfl, rfl, sqT_up s5 hs4, atI_nat (j := 2) rfl, xb, db, rfl, dp_up s5 _ _ db4, lb, by omega, by omega, fun H6 s6 => ⟨_, rfl, ?_⟩⟩
            have S6 := S5.trans s6
            have hs6 := sqT_up (s5.trans s6) hs4
            cases kb : kn db with
            | false =>
              have q5 := q H6 S6
              rw [knd, kb, Bool.and_false, Bool.and_false] at q5
              exact iteT q5
            | true =>
              have kq : kn (.tuple [.str wd, da, db]) = (decide (wd = "either") || !(PyData.eqv da none1 || (PyData.eqv db none1 || false))) := by
                rw [knd, ef, hP, ka, kb, Bool.true_and, Bool.and_self, Bool.and_true]
              rw [kq] at q
              refine iteF ⟨_, rfl, a, _, 0, _, rfl, rfl, hs6, head_at _ _, rfl, _, rfl, ?_⟩
              rw [show decide (V.str wd = V.str "either") = decide (wd = "either") from decide_eq_decide.mpr ⟨fun y => by injection y, fun y => by rw [y]⟩]
              cases hE : decide (wd = "either") with
              | true =>
                have q5 := q H6 S6
                rw [hE] at q5
                exact iteT q5
              | false =>
                rw [hE, Bool.false_or] at q
                refine iteF ⟨_, rfl, a, _, 1, _, rfl, rfl, hs6, atI_nat (j := 1) rfl, (by show 1 ≤ sizeLine; decide), fun q7 n7 => ?_⟩
                have s7 := same_new (o := .tup [.str "none"]) n7
                have e7 : upd H6 q7 (.tup [.str "none"]) q7 = _ := upd_same
                have dA7 := dp_up ((s5.trans s6).trans s7) _ _ da4
                have dB7 := dp_up ((s5.trans s6).trans s7) _ _ db4
                have hs7 := sqT_up s7 hs6
                generalize upd H6 q7 (.tup [.str "none"]) = H7 at s7 e7 dA7 dB7 hs7
                refine ⟨da, none1, dA7, .tup (.inl (.inl e7)) (.cons (.str _) .nil), la, (by decide +kernel), by omega, _, rfl, ?_⟩
                cases eA : PyData.eqv da none1 with
                | true =>
                  have q5 := q H7 (S6.trans s7)
                  rw [eA] at q5
                  exact iteF q5
                | false =>
                  rw [eA] at q
                  refine iteT ⟨_, rfl, a, _, 2, _, rfl, rfl, hs7, atI_nat (j := 2) rfl, (by show 1 ≤ sizeLine; decide), fun q8 n8 => ?_⟩
                  have s8 := same_new (o := .tup [.str "none"]) n8
                  refine ⟨db, none1, dp_up s8 _ _ dB7, .tup (.inl (.inl upd_same)) (.cons (.str _) .nil), lb, (by decide +kernel), by omega, ?_⟩
                  have q5 := q _ ((S6.trans s7).trans s8)
                  rw [Bool.false_or, Bool.or_false] at q5
                  exact q5
theorem ok_dues {f : Addr} {fd : FuncData} (F : Fun K "_law_due" "_law_due" sDue f fd) (T : Blt mg) (bS : Binds K fd ["thing"] []) (mS : mg "_law_due" = some (.ref f)) : ∀ n : Nat, FnOk P w K mg base CX0 n f fd ["thing"] (spDue K n)
  | 0 => no_calls fun vs H Q E h => by
    obtain ⟨v, d, _, _, _, dn, _⟩ := h
    omega
  | n + 1 => ok_due F T (ok_dues F T bS mS n) bS mS
end
end Kf
set_option Elab.async false
set_option linter.all false
set_option maxRecDepth 100000
set_option maxHeartbeats 3900000
/-! A lambda with parameters and captured names, handed as the second of two to a def, called there. Its frame is begun as that of a def within a def. -/
namespace LmY
open PySem PySem.Spec PyProof.Rows L2 LamX NdefX
/-- the lambda as a def within the def of X, whose code object is k -/
abbrev lamF (X : Cx) (ar : Arguments) (sc : Scope) (k : Addr) : NF := ⟨"<lambda>", X.env.qual ++ "<lambda>", ar, [], sc, cloFrom X.env.cells sc.names [], k⟩
/-- where its body runs: its names are N -/
abbrev lamX (X : Cx) (N : List Str) (ar : Arguments) (sc : Scope) (fo k : Addr) (A : Around) (outer : List Env) (sh : Shared) (hp : Hp) : Cx := ncx L2.CX0 X.prog X.w X.K X.mg X.base N (lamF X ar sc k) fo A outer sh hp L2.E0
/-- where the def runs that got it, entered from X's frame -/
abbrev gotX (X : Cx) (Ng : List Str) (x : Str) (sg : Scope) (g : Addr) (cg : Value) (sh : Shared) (hp : Hp) : Cx := (cxOf L2.CX0 X.prog X.w X.K X.mg X.base Ng x sg g cg X.A X.stack sh hp L2.E0).nox
/-- cells that no def of the text writes hold what they held -/
theorem cells_stay {cl : List (Str × Addr)} {fr : List Str} {ws : List (Option V)} {g g2 : Heap} {hp hp2 : Hp} {fs : List Addr} (un : Un fs [] hp hp2 g g2) (cs : CellsAt cl fr ws g hp) : CellsAt cl fr ws g2 hp2 := by
  have still : ∀ a, hp a = none → ∀ val, g.IsCell a val → g2.IsCell a val := fun a off val ⟨ob, at1, dat⟩ => by
    obtain ⟨_, at2⟩ := un.any at1 off List.not_mem_nil
    exact ⟨_, at2, dat⟩
  refine ⟨cs.len, fun nm a e => ?_, cs.inj, fun j nm e => ?_⟩
  · obtain ⟨off, val, cell⟩ := cs.all nm a e
    obtain ⟨ob, at1, _⟩ := id cell
    exact ⟨un.free a ob at1 off List.not_mem_nil, val, still a off val cell⟩
  · obtain ⟨a, e1, has⟩ := cs.has j nm e
    refine ⟨a, e1, fun z ez => ?_⟩
    obtain ⟨u, rz, cell⟩ := has z ez
    exact ⟨u, rz, still a (cs.all nm a e1).1 _ cell⟩
section
variable {X : Cx} {pins : List (Addr × Obj)} {σ : L2.St} {H : Hp} {s : Shared}
/-- a call that ends without an exception, told to its caller -/
theorem land {fo : Addr} {us : List Value} {Q : VK} (I : Inv X pins σ H s) (run : codeAny (model X.prog X.w) X.A (.call (.ref fo) ⟨us, []⟩) (CR L2.CX0 X.stack X.prog X.w H s Q L2.E0) s) :
    wpAny (model X.prog X.w) X.A (call (.ref fo) us) (EP X pins σ Q) X.xe s :=
  wpAny_call (codeAny_mono run fun res s2 told => match res, told with
    | .ok (.ret _), told => I.after told
    | .ok .next, told => told.elim
    | .ok .brk, told => told.elim
    | .ok .cont, told => told.elim
    | .error _, told => (show False from told).elim)
/-- x(e, ..), in the def that got the lambda as x -/
theorem pe_lact {N ps fr Ng : List Str} {js : List Nat} {qg : Str} {sg : Scope} {g fo k : Addr} {cg pm ctv : Value} {ar : Arguments} {body : Expr} {sc : Scope} {m i : Nat} {a : Str} {tb : TE} {p1 p2 : Pos} {e : Expr} {es : List Expr} {t : TA}
    (I : Inv X pins σ H s) (S : NScope N ps fr sc) (cp : Caps X (cloFrom X.env.cells sc.names []) fr js)
    (at_ : s.heap.get? fo = some (PySem.W.kla_obj "<lambda>" (X.env.qual ++ "<lambda>") ar body sc (cloFrom X.env.cells sc.names []) pm k ctv)) (off : H fo = none) (noF : fo ∉ frs X.stack)
    (bind : ∀ us : List Value, us.length = ps.length → bindArgs (PySem.W.kla_fn "<lambda>" (X.env.qual ++ "<lambda>") ar body sc (cloFrom X.env.cells sc.names []) pm (.ref k) ctv) ⟨us, []⟩ = pure (ps.zip us))
    (room : Room (m + 1) (X.A.deeper (envOfC qg sg s.heap.objs.size g cg)))
    (inner : ∀ (A : Around) (outer : List Env) (sh : Shared) (hp : Hp), Room m (A.deeper (envF (lamF X ar sc k) fo sh.heap.objs.size)) → PE (lamX X N ar sc fo k A outer sh hp) body tb)
    (hN : Ng[i]? = some a) (hv : Vis sg a) (pa : PA (gotX X Ng qg sg g cg s H) (e :: es) t)
    (h1 : (a == ("__debug__" : Str)) = false := by decide) (h2 : (a == ("__classdict__" : Str)) = false := by decide)
    (h3 : starEach (e :: es) (envOfC qg sg s.heap.objs.size g cg) = (false, eval e (envOfC qg sg s.heap.objs.size g cg)) :: starEach es (envOfC qg sg s.heap.objs.size g cg) := by rfl)
    (h4 : (backTo p2 (starEach es (envOfC qg sg s.heap.objs.size g cg))).any (·.1) = false := by rfl) :
    PE (gotX X Ng qg sg g cg s H) (.Call (.Name a p1) (e :: es) [] p2)
      (fun σZ HZ Q => σZ[i]? = some (some (.ref fo)) ∧ t σZ HZ fun vs H1 => vs.length = ps.length ∧ H1 k = some (CodeO k (X.env.qual ++ "<lambda>")) ∧ tb (startF N vs (js.map (slotAt σ))) H1 Q) := by
  refine ⟨fun pinsZ sZ σZ HZ Q IZ ⟨slot, rest⟩ => ?_⟩
  have same : ∀ {pn : List (Addr × Obj)} {τ : L2.St} {hp : Hp} {sh : Shared}, Inv (gotX X Ng qg sg g cg s H) pn τ hp sh → sh.heap.get? fo = some (PySem.W.kla_obj "<lambda>" (X.env.qual ++ "<lambda>") ar body sc (cloFrom X.env.cells sc.names []) pm k ctv) :=
    fun J => J.base.keep fo _ at_ off noF List.not_mem_nil
  have name := (pe_var (X := gotX X Ng qg sg g cg s H) (pos := p1) (i := i) hN hv h1 h2).run pinsZ sZ σZ HZ (fun val hp => val = .ref fo ∧ hp = HZ) IZ ⟨.ref fo, slot, rfl, rfl⟩
  refine wpAny_Call_Name_kw (thn name fun val s1 ⟨_, _, I1, rel, ev, eh⟩ => ?_)
  subst ev eh
  cases (show val = Value.ref fo from rel)
  refine PySem.W.callWith_F (first := []) ⟨_, _, _, _, same I1⟩ (thn (pa.run p2 pinsZ s1 σZ _ _ I1 rest) fun us s2 ⟨vs, H2, I2, rv, len, code, ht⟩ => ⟨⟨_, _, _, _, same I2⟩, land (us := us) I2 ?_⟩) h3 h4
  obtain ⟨⟨oc, fields, tq, o1, o2, o3⟩, _, _⟩ := I2.hok k _ code
  refine PySem.W.kla_callFunE room.depth (same I2) rfl S.co S.gen rfl ⟨k, oc, fields, tq, rfl, o1, o2, o3⟩ ?_
  rw [bind us (rv.length.symm.trans len)]
  refine wpAny_pure (wpAny_newFunctionEnv (fun y hy => S.nocell y hy) (fun y hy => S.par y.1 (List.of_mem_zip hy).1) (fun g1 ns1 more => ⟨I2.nolimit.fresh _ more, ?_⟩) S.kind)
  have grown : ∀ b ob, s2.heap.get? b = some ob → g1.get? b = some ob := fun b ob eb => more.extBut b ob (Nat.ne_of_lt (Heap.lt_size eb)) (Heap.get?_push_of_some _ eb)
  have J := inv_startN (CX := L2.CX0) (E := L2.E0) (tk := s2.toks + (ps.zip us).length) (F := lamF X ar sc k) (f := fo) S room.hd I2.env0 len rv (cells_stay I2.base (cells_of I cp)) ns1 grown
  refine PySem.W.kla_codeExpr (wpAny_mono ((inner _ _ s2 H2 (room.deeper _)).run [] _ _ H2 Q J ht) (fun _ s3 ⟨w3, H3, J3, r3, q3⟩ => ?_) fun _ _ bad => bad)
  exact ⟨w3, H3, J3.os, J3.bare, J3.base, J3.hok, r3, q3⟩
end
/-- what the def that got the lambda makes of its calls: TT -/
def Gives2 (X : Cx) (Ng : List Str) (x : Str) (sg : Scope) (g : Addr) (cg : Value) (bg : List Stmt) (a : Str) (q : Str) (ps : List Str) (m : Nat) (TT : (List V → Hp → VK → Prop) → V → Hp → VK → Prop) : Prop :=
  ∀ (fo k : Addr) (s : Shared) (H : Hp) (v : V) (Q : VK) (tl : List V → Hp → VK → Prop),
    (∀ (p1 p2 : Pos) (e : Expr) (es : List Expr) (t : TA), PA (gotX X Ng x sg g cg s H) (e :: es) t →
      starEach (e :: es) (envOfC x sg s.heap.objs.size g cg) = (false, eval e (envOfC x sg s.heap.objs.size g cg)) :: starEach es (envOfC x sg s.heap.objs.size g cg) → (backTo p2 (starEach es (envOfC x sg s.heap.objs.size g cg))).any (·.1) = false →
      PE (gotX X Ng x sg g cg s H) (.Call (.Name a p1) (e :: es) [] p2) (fun σZ HZ Q => σZ[1]? = some (some (.ref fo)) ∧ t σZ HZ fun vs H1 => vs.length = ps.length ∧ H1 k = some (CodeO k q) ∧ tl vs H1 Q)) →
    Room (m + 1) (X.A.deeper (envOfC x sg s.heap.objs.size g cg)) → H k = some (CodeO k q) → TT tl v H Q →
    ∃ t, PSs (gotX X Ng x sg g cg s H) bg t ∧ t { nx := fun _ H' => Q .non H', rt := Q } (L2.start Ng [v, .ref fo]) H
def tLam2 (T : List (Addr × Str)) (N : List Str) (js : List Nat) (TT : (List V → Hp → VK → Prop) → V → Hp → VK → Prop) (te : TE) (t : TE) : TE := fun σ H Q => te σ H fun v H0 => Tabs T H0 ∧ ∀ H1, ExtN H0 H1 → Tabs T H1 → TT (fun vs H' Q' => t (startF N vs (js.map (slotAt σ))) H' Q') v H1 Q
section
variable {X : Cx}
/-- x(e, lambda ..: body) -/
theorem pe_lamcall2 {T : List (Addr × Str)} {TT : (List V → Hp → VK → Prop) → V → Hp → VK → Prop} {x a0 a : Str} {g c tab : Addr} {m : Nat} {pg : Arguments} {bg : List Stmt} {sg : Scope} {dV kV doc pm cdv ct oc : Value} {an od : Option Addr} {osl : Array (Option Value)} {N Ng ps fr : List Str} {js : List Nat}
    {ar : Arguments} {body e : Expr} {sc : Scope} {te t : TE} {p0 p1 p2 : Pos} (gx : Gl X x) (mx : X.mg x = some (.ref g)) (kx : PySem.W.keepIn X.K (.ref g) = true)
    (look : X.K.lookup g = some ⟨oc, od, .func (PySem.W.fnOf x x pg bg sg dV kV doc pm an cdv ct), osl⟩) (code : PySem.W.codeIn X.K cdv x = true) (bx : L2.Binds X.K (PySem.W.fnOf x x pg bg sg dV kV doc pm an cdv ct) [a0, a] []) (Sg : FnScope Ng [a0, a] sg) (second : Ng[1]? = some a) (seen : Vis sg a)
    (gives : Gives2 X Ng x sg g cdv bg a (X.env.qual ++ "<lambda>") ps m TT) (pe : PE X e te)
    (own : TabB X.base X.mg c tab) (mine : X.env.code = .ref c) (inT : (tab, X.env.qual ++ "<lambda>") ∈ T) (sole : ∀ p ∈ T, p.1 = tab → p.2 = X.env.qual ++ "<lambda>") (room : Room (m + 2) X.A)
    (S : NScope N ps fr sc) (held : ndefB X.env.scope sc fr = true) (slots : js.map (fun j => X.N[j]?) = fr.map some) (plain : defaultsOf ar X.env = ([], []))
    (bind : ∀ (q : Str) (cl : List (Str × Addr)) (pm cv ctv : Value) (us : List Value), us.length = ps.length → bindArgs (PySem.W.kla_fn "<lambda>" q ar body sc cl pm cv ctv) ⟨us, []⟩ = pure (ps.zip us))
    (inner : ∀ (A : Around) (outer : List Env) (sh : Shared) (hp : Hp) (fo k : Addr), Room m (A.deeper (envF (lamF X ar sc k) fo sh.heap.objs.size)) → PE (lamX X N ar sc fo k A outer sh hp) body t)
    (h0 : (x == ("__debug__" : Str)) = false := by decide) (h1 : (a == ("__debug__" : Str)) = false := by decide) (h2 : (a == ("__classdict__" : Str)) = false := by decide)
    (h3 : starEach (e :: [.Lambda ar body sc p1]) X.env = (false, eval e X.env) :: starEach [.Lambda ar body sc p1] X.env := by rfl) :
    PE X (.Call (.Name x p0) [e, .Lambda ar body sc p1] [] p2) (tLam2 T N js TT te t) := by
  refine ⟨fun pins s σ H Q I reading => wpAny_Call_Name_kw (ld_glob I gx mx (PySem.W.callWith_K (h₀ := X.base) I.ok.mod.kin kx ?_ h3 (by rfl)) h0)⟩
  rw [h3]
  show wpAny _ _ (spliced ((false, eval e X.env) :: backTo p2 (starEach [.Lambda ar body sc p1] X.env))) _ _ s
  refine Calls.spliced_cons (thn (pe.run pins s σ H _ I reading) fun u s0 ⟨v, H0, I0, r0, tabs0, later⟩ => ?_)
  show wpAny _ _ (spliced ((false, eval (.Lambda ar body sc p1) X.env) :: backTo p2 (starEach [] X.env))) _ _ s0
  refine Calls.spliced_cons (lam_make2 I0 own mine inT sole tabs0 plain (fun y hy e => (ndef_free held y hy e).elim (fun z => I0.ok.has _ (.inl z)) fun z => I0.ok.has _ (.inr z)) fun fo k pmF ctF H1 s1 I1 grown tabs1 at_ off noF codeK => Calls.spliced_nil ⟨I1.kIn, land I1 ?_⟩)
  refine run_ofS (N := Ng) (ps := [a0, a]) (us := [u, .ref fo]) (vs := [v, .ref fo]) look code Sg room I1.env0 (bx s1 [u, .ref fo] I1.kIn rfl) (.cons r0 (.cons rfl .nil)) rfl fun room1 => ?_
  obtain ⟨ts, run, told⟩ := gives fo k s1 H1 v Q _ (fun q1 q2 e1 es1 t1 pa he hp => pe_lact (i := 1) (js := js) I1 S (Caps.made I1.ok (ndef_free held) (ndef_fr held) slots) at_ off noF (fun us hl => bind _ _ _ _ _ us hl) room1 (fun A outer sh hp2 r2 => inner A outer sh hp2 fo k r2) second seen pa h1 h2 he hp) room1 codeK (later H1 grown tabs1)
  exact ⟨ts, run.nox, told⟩
end
end LmY
set_option Elab.async false
set_option linter.all false
set_option maxRecDepth 100000
set_option maxHeartbeats 3900000
/-! The end of a law whose defs want to know that no repr is under way around them: its def is run from the caller alone. -/
namespace Gd
open PySem PySem.Spec PyProof.Rows L2 LamX LmY
section
variable {P : Program} {w : World} {K : PySem.W.Frag} {mg mb : Str → Option Value} {k : Nat} {fa scr : Addr} {cs : List (Addr × Addr)} {st : Shared} {vs : List Value} {ns : List Int}
/-- what stands in the heap ahead of the law's call -/
structure Ahead (K : PySem.W.Frag) (mg mb : Str → Option Value) (cs : List (Addr × Addr)) (scr : Addr) (vs : List Value) (st : Shared) : Prop where
  kin : K.In st.heap
  glob : st.heap.Ns mainGlobals mg
  blt : st.heap.Ns builtinsNs mb
  boot : ∀ x : Str, x ≠ "__name__" → mb x = bootBuiltins x
  lim : st.heap.NoLimit
  gens : st.gens = #[]
  tabs : ∀ p ∈ cs, st.heap.get? p.2 = some { cls := .none, data := .fields #[] }
  offK : ∀ p ∈ cs, K.lookup p.2 = none
  codes : ∀ p ∈ cs, PySem.W.CodeHd st.heap p.1 p.2
  mod : ∃ (bm : Addr) (ob : Obj), mg "__builtins__" = some (.ref bm) ∧ bm ≠ builtinsNs ∧ st.heap.get? bm = some ob ∧ ob.cls = .type "module" ∧ ob.dict = some builtinsNs ∧ ob.data = .plain
  list : st.heap.get? scr = some { cls := .type "list", data := .seq vs.toArray }
/-- tracked are the script and the tables at most -/
structure Few (K : PySem.W.Frag) (cs : List (Addr × Addr)) (scr : Addr) (H : Hp) : Prop where
  only : ∀ b, H b ≠ none → b = scr ∨ ∃ p ∈ cs, p.2 = b
  notK : H scr ≠ none → K.lookup scr = none
theorem untracked (W : Ahead K mg mb cs scr vs st) {H : Hp} (F : Few K cs scr H) {b : Addr} {ob : Obj} (at_ : st.heap.get? b = some ob) (n1 : ∀ us m, ob.data ≠ .seq us m) (n2 : ob.data ≠ .fields #[]) : H b = none := by
  refine Decidable.byContradiction fun z => ?_
  rcases F.only b z with rfl | ⟨p, hp, rfl⟩
  · rw [W.list] at at_
    cases at_
    exact n1 _ _ rfl
  · rw [W.tabs p hp] at at_
    cases at_
    exact n2 rfl
theorem hid_ns (W : Ahead K mg mb cs scr vs st) {H : Hp} (F : Few K cs scr H) {b : Addr} {m : Str → Option Value} (h : st.heap.Ns b m) : (hidT st.heap H).Ns b m := by
  obtain ⟨ob, es, ep, at_, dat, rest⟩ := h
  refine ⟨ob, es, ep, hidT_get at_ (untracked W F at_ (fun us m z => ?_) fun z => ?_), dat, rest⟩ <;> (rw [dat] at z; cases z)
theorem hid_in (W : Ahead K mg mb cs scr vs st) {H : Hp} (F : Few K cs scr H) : K.In (hidT st.heap H) := fun b ob e => by
  refine hidT_get (W.kin b ob e) (Decidable.byContradiction fun z => ?_)
  rcases F.only b z with rfl | ⟨p, hp, rfl⟩
  · rw [F.notK z] at e
    cases e
  · rw [W.offK p hp] at e
    cases e
theorem hid_tab (W : Ahead K mg mb cs scr vs st) {H : Hp} (F : Few K cs scr H) : ∀ p ∈ cs, TabB (hidT st.heap H) mg p.1 p.2 := fun p hp => by
  have here := W.tabs p hp
  have plainG : ∀ {b : Addr} {ob : Obj}, st.heap.get? b = some ob → (∃ es ep, ob.data = .dict es ep) → b ≠ p.2 := fun e ⟨es, ep, d⟩ z => by
    rw [z, here] at e
    cases e
    cases d
  refine ⟨?_, ?_, ?_⟩
  · obtain ⟨ob, us, file, tf, flags, tg, inF, text, tt, e1, r1, r2, r3, rest⟩ := W.codes p hp
    refine ⟨ob, us, file, tf, flags, tg, inF, text, tt, hidT_get e1 (untracked W F e1 (fun us m z => ?_) fun z => ?_), r1, r2, r3, rest⟩
    · rw [r2] at z
      cases z
    · rw [r2] at z
      cases z
      simp at r3
  · obtain ⟨bm, ob, b1, b2, b3, b4, b5, b6⟩ := W.mod
    refine ⟨bm, ob, b1, b2, fun z => ?_, fun z => ?_, hidT_get b3 (untracked W F b3 (fun us m z => ?_) fun z => ?_), b4, b5, b6⟩
    · obtain ⟨og, es, ep, e, dat, _⟩ := W.glob
      rw [z, e] at b3
      cases b3
      rw [dat] at b6
      cases b6
    · rw [z, here] at b3
      cases b3
      cases b6
    · rw [b6] at z
      cases z
    · rw [b6] at z
      cases z
  · obtain ⟨og, es, ep, e, dat, _⟩ := W.glob
    exact plainG e ⟨es, ep, dat⟩
theorem hid_env (W : Ahead K mg mb cs scr vs st) {H : Hp} (F : Few K cs scr H) (hok : HOk P w H st.heap) : Env0 P w K mg (hidT st.heap H) callerA [] st H :=
  ⟨rfl, ⟨hid_in W F, hid_ns W F W.glob, ⟨mb, hid_ns W F W.blt, W.boot⟩, let ⟨mc, c1, c2⟩ := W.lim; ⟨mc, hid_ns W F c1, c2⟩⟩, fun b ob e => of_hidT e, Nat.le_of_eq (hidT_size _ _), trivial, fun b hb => (List.not_mem_nil (show b ∈ ([] : List Addr) from hb)).elim, hok, .of_eq W.gens⟩
/-- what is told of the heap behind the call -/
theorem behind (W : Ahead K mg mb cs scr vs st) {H : Hp} (F : Few K cs scr H) (hok : HOk P w H st.heap) (tb : ∀ p ∈ cs, H p.2 = some (.tbl #[])) (fz : H scr = none ∨ ∃ ob xs, H scr = some (.frz ob (.lst xs))) {r : Result} {s' : Shared}
    (told : CR L2.CX0 [] P w H st (fun v _ => v = .bl true) L2.E0 r s') : r = .ok (.ret (.bool true)) ∧ OldK st.heap s'.heap ∧ s'.os = st.os ∧ AllBare s'.gens := by
  match r, told with
  | .error _, told => exact (show False from told).elim
  | .ok .next, told => exact (show False from told).elim
  | .ok .brk, told => exact (show False from told).elim
  | .ok .cont, told => exact (show False from told).elim
  | .ok (.ret u), told =>
    obtain ⟨v, H2, os, bare, un, hok2, rel, isT⟩ := told
    have isT : v = .bl true := isT
    subst isT
    obtain rfl : u = Value.bool true := rel
    have noE : ∀ b : Addr, b ∉ ([] : List Addr) := fun _ => List.not_mem_nil
    have grown : ∀ p ∈ cs, ∃ more : Array Value, s'.heap.get? p.2 = some { cls := .none, data := .fields more } := fun p hp => by
      obtain ⟨more, e⟩ := un.tbls p.2 #[] (tb p hp)
      exact ⟨_, hok2 p.2 _ e⟩
    have stays : ∀ b ob, (¬ ∃ p ∈ cs, p.2 = b) → st.heap.get? b = some ob → s'.heap.get? b = some ob := fun b ob far e => by
      by_cases z : H b = none
      · exact un.keep b ob e z (noE b) (noE b)
      · rcases F.only b z with rfl | h
        · rcases fz with f | ⟨o2, xs, f⟩
          · exact absurd f z
          · obtain ⟨e1, _⟩ := hok _ _ f
            obtain ⟨e2, _⟩ := hok2 _ _ (un.frzs _ _ _ f)
            rw [e] at e1
            cases e1
            exact e2
        · exact absurd h far
    refine ⟨rfl, ⟨fun b ob e => ?_, fun b ob e => ?_⟩, os, bare⟩
    · by_cases h : ∃ p ∈ cs, p.2 = b
      · obtain ⟨p, hp, rfl⟩ := h
        obtain ⟨more, hm⟩ := grown p hp
        rw [W.tabs p hp] at e
        cases e
        exact .inr (.inl ⟨((W.codes p hp).tab (W.tabs p hp)).isCodeTable, rfl, #[], more, rfl, by rw [Array.empty_append]; exact hm⟩)
      · exact .inl (stays b ob h e)
    · by_cases h : ∃ p ∈ cs, p.2 = b
      · obtain ⟨p, hp, rfl⟩ := h
        obtain ⟨more, hm⟩ := grown p hp
        exact ⟨_, hm⟩
      · exact ⟨ob, stays b ob h e⟩
open Classical in
/-- THE END: the law's def by its run from the caller alone -/
theorem end_at (W : Ahead K mg mb cs scr vs st) (are : IntsAre vs ns) (short : ns.length ≤ sizeLine)
    (run : ∀ (base : Heap) (H : Hp), K.In base → base.Ns mainGlobals mg → (∀ p ∈ cs, TabB base mg p.1 p.2) → (∀ p ∈ cs, H p.2 = some (.tbl #[])) → SqL K H scr (ns.map V.int) → Env0 P w K mg base callerA [] st H →
      codeAny (model P w) callerA (.call (.ref fa) ⟨[.ref scr], []⟩) (CR L2.CX0 [] P w H st (fun v _ => v = .bl true) L2.E0) st) :
    codeAny (model P w) callerA (.call (.ref fa) ⟨[.ref scr], []⟩) (fun r s' => r = .ok (.ret (.bool true)) ∧ OldK st.heap s'.heap ∧ s'.os = st.os ∧ AllBare s'.gens) st := by
  have rv := vals_ints are
  have same := are.length
  have scrT : ¬ ∃ p ∈ cs, p.2 = scr := fun ⟨p, hp, e⟩ => by
    have z := W.tabs p hp
    rw [e, W.list] at z
    cases z
  have go : ∀ H : Hp, (∀ b, (∃ p ∈ cs, p.2 = b) → H b = some (.tbl #[])) → (∀ b, (¬ ∃ p ∈ cs, p.2 = b) → b ≠ scr → H b = none) → (H scr = none ∨ (K.lookup scr = none ∧ H scr = some (.frz { cls := .type "list", data := .seq vs.toArray } (.lst (ns.map V.int))))) → SqL K H scr (ns.map V.int) →
      codeAny (model P w) callerA (.call (.ref fa) ⟨[.ref scr], []⟩) (fun r s' => r = .ok (.ret (.bool true)) ∧ OldK st.heap s'.heap ∧ s'.os = st.os ∧ AllBare s'.gens) st := by
    intro H isTab noneElse atScr seq
    have few : Few K cs scr H := ⟨fun b z => by
      by_cases h : ∃ p ∈ cs, p.2 = b
      · exact .inr h
      · exact .inl (Decidable.byContradiction fun n => z (noneElse b h n)), fun z => (atScr.resolve_left z).1⟩
    have hok : HOk P w H st.heap := fun b ob e => by
      by_cases h : ∃ p ∈ cs, p.2 = b
      · rw [isTab b h] at e
        cases e
        obtain ⟨p, hp, rfl⟩ := h
        exact W.tabs p hp
      · by_cases n : b = scr
        · subst n
          rcases atScr with z | ⟨_, z⟩
          · rw [z] at e
            cases e
          · rw [z] at e
            cases e
            exact ⟨W.list, by rw [List.length_map]; exact short, vs, _, rv, W.list⟩
        · rw [noneElse b h n] at e
          cases e
    have tb : ∀ p ∈ cs, H p.2 = some (.tbl #[]) := fun p hp => isTab p.2 ⟨p, hp, rfl⟩
    exact codeAny_mono (run _ H (hid_in W few) (hid_ns W few W.glob) (hid_tab W few) tb seq (hid_env W few hok)) fun r s' told => behind W few hok tb (atScr.imp id fun z => ⟨_, _, z.2⟩) told
  cases hk : K.lookup scr with
  | some ob =>
    have e := W.kin scr ob hk
    rw [W.list] at e
    cases e
    exact go (fun b => if ∃ p ∈ cs, p.2 = b then some (.tbl #[]) else none) (fun b h => if_pos h) (fun b h _ => if_neg h) (.inl (if_neg scrT)) (.inr ⟨_, vs.toArray, _, hk, rfl, rfl, rfl, by rw [List.size_toArray, same]; exact short, by simpa using rv⟩)
  | none =>
    refine go (fun b => if b = scr then some (.frz { cls := .type "list", data := .seq vs.toArray } (.lst (ns.map V.int))) else if ∃ p ∈ cs, p.2 = b then some (.tbl #[]) else none) (fun b h => ?_) (fun b h n => ?_) (.inr ⟨hk, if_pos rfl⟩) (.inl (.inr ⟨_, if_pos rfl⟩))
    · exact (if_neg (fun z => scrT (by rw [← z]; exact h))).trans (if_pos h)
    · exact (if_neg n).trans (if_neg h)
end
end Gd
set_option Elab.async false
set_option linter.all false
set_option maxRecDepth 100000
set_option maxHeartbeats 3900000
/-! Defs that are run where no repr is under way; repr of data. -/
namespace Gd
open PySem PySem.Spec PyProof.Rows L2 LamX LmY
/-- as FnOk, where no repr is under way around the call -/
structure FnG (P : Program) (w : World) (K : PySem.W.Frag) (mg : Str → Option Value) (base : Heap) (k : Nat) (f : Addr) (fd : FuncData) (ps : List Str) (sp : Sp) : Prop where
  len : ∀ vs H Q E, sp vs H Q E → vs.length = ps.length
  run : ∀ (A : Around) (outer : List Env) (s : Shared) (H : Hp) (args : Args) (us : List Value) (vs : List V) (Q : VK), A.guards = some [] → Room k A → Env0 P w K mg base A outer s H → BindsTo s fd args (ps.zip us) → Vals vs us → sp vs H Q L2.E0 →
    codeAny (model P w) A (.call (.ref f) args) (CR L2.CX0 outer P w H s Q L2.E0) s
section
variable {P : Program} {w : World} {K : PySem.W.Frag} {mg : Str → Option Value} {base : Heap}
/-- a def of the text, by its body -/
theorem okG {x : Str} {st : Stmt} {f : Addr} {fd : FuncData} {N ps : List Str} {k : Nat} {sp : Sp} (F : Fun K x x st f fd) (S : FnScope N ps (defScope st)) (len : ∀ vs H Q E, sp vs H Q E → vs.length = ps.length)
    (body : ∀ (cdv : Value) (A : Around) (outer : List Env) (s : Shared) (H : Hp) (vs : List V) (Q : VK), A.guards = some [] → Room k (A.deeper (envOfC x (defScope st) s.heap.objs.size f cdv)) → sp vs H Q L2.E0 →
      ∃ t, PSs (cxOf L2.CX0 P w K mg base N x (defScope st) f cdv A outer s H L2.E0).nox (defBody st) t ∧ t { nx := fun _ H' => Q .non H', rt := Q } (L2.start N vs) H) : FnG P w K mg base (k + 1) f fd ps sp := by
  obtain ⟨oc, od, kV, doc, pm, an, cdv, ct, osl, rfl, look, code⟩ := F.ex
  refine ⟨len, fun A outer s H args us vs Q gu room e0 bind rel h => ?_⟩
  refine run_ofS look code S room e0 bind rel (len _ _ _ _ h) fun room1 => ?_
  obtain ⟨t, run, told⟩ := body cdv A outer s H vs Q gu room1 h
  exact ⟨t, run.nox, told⟩
/-- FnOk is more -/
theorem FnG.of {k : Nat} {f : Addr} {fd : FuncData} {ps : List Str} {sp : Sp} (F : FnOk P w K mg base L2.CX0 k f fd ps sp) : FnG P w K mg base k f fd ps sp := ⟨F.len, fun A outer s H args us vs Q _ room e0 bind rel h => F.run A outer s H args us vs Q L2.E0 room e0 bind rel h⟩
end
section
variable {X : Cx}
/-- x(e, ..), x such a def -/
theorem pe_callG {k : Nat} {f : Addr} {fd : FuncData} {ps : List Str} {sp : Sp} {x : Str} {p pos : Pos} {e : Expr} {es : List Expr} {t : TA} (F : FnG X.prog X.w X.K X.mg X.base k f fd ps sp) (gu : X.A.guards = some []) (room : Room k X.A) (gl : Gl X x) (mx : X.mg x = some (.ref f)) (kx : PySem.W.keepIn X.K (.ref f) = true)
    (bind : L2.Binds X.K fd ps []) (pa : PA X (e :: es) t) (h0 : (x == ("__debug__" : Str)) = false := by decide)
    (h1 : starEach (e :: es) X.env = (false, eval e X.env) :: starEach es X.env := by rfl) (h2 : (backTo pos (starEach es X.env)).any (·.1) = false := by rfl) :
    PE X (.Call (.Name x p) (e :: es) [] pos) (fun σ H Q => t σ H fun vs H1 => sp vs H1 Q L2.E0) := by
  refine ⟨fun pins s σ H Q I reading => wpAny_Call_Name_kw (ld_glob I gl mx (PySem.W.callWith_K (h₀ := X.base) I.ok.mod.kin kx (thn (pa.run pos pins s σ H _ I reading) fun us s1 ⟨vs, H1, I1, rel, q⟩ => ⟨I1.kIn, land (us := us) I1 ?_⟩) h1 h2) h0)⟩
  have given := bind s1 us I1.kIn (by rw [List.append_nil]; exact rel.length.symm.trans (F.len _ _ _ _ q))
  rw [List.append_nil] at given
  exact F.run X.A X.stack s1 H1 ⟨us, []⟩ us vs Q gu room I1.env0 given rel q
/-- repr of data, no repr being under way -/
theorem cr_reprD (gu : X.A.guards = some []) (un : X.A.units + 64 < cLine) : CallR X (.builtin "repr") (fun xs H Q => ∃ (a : Addr) (d : PyData), xs = [.ref a] ∧ Dp X.K H (.ref a) d ∧ d.showable = true ∧ d.hasDict = false ∧ d.depth ≤ 60 ∧ d.shown.length ≤ sizeLine ∧ Q (.str d.shown) H) := by
  intro pins s σ H xs us Q I rel ⟨a, d, ex, dp, sh, nd, dd, fits, q⟩
  subst ex
  rw [Vals.ref1 rel]
  obtain ⟨as, rd⟩ := Dp.reads I d (.ref a) (.ref a) dp rfl
  exact repr_of_reads' rd sh (fun e => by rw [nd] at e; cases e) gu (by omega) (fun _ _ e => e) (fun h' u tk kp => ⟨.str d.shown, H, I.kept kp, ⟨u, rfl⟩, q⟩) fits
end
/-- what the end wants of the law's def -/
def LawG (l : PySem.W.OpenLaw) (w : World) (K : PySem.W.Frag) (k n : Nat) (x : Str) (mg : Str → Option Value) (fa : Addr) (h : Heap) : Prop :=
  ∃ (fd : FuncData) (cs : List (Addr × Addr)) (sp : Sp), (∀ p ∈ cs, h.get? p.2 = some { cls := .none, data := .fields #[] }) ∧ (∀ p ∈ cs, K.lookup p.2 = none) ∧ (∀ p ∈ cs, PySem.W.CodeHd h p.1 p.2) ∧ (∀ (s : Shared) (u : Value), BindsTo s fd ⟨[u], []⟩ [(x, u)]) ∧
    (∀ (H : Hp) (a : Addr) (ns : List Int), ns.length ≤ n → (∀ z ∈ ns, Builtin.Int.intBits z ≤ 1048576) → (∀ p ∈ cs, H p.2 = some (.tbl #[])) → SqL K H a (ns.map V.int) → sp [.ref a] H (fun v _ => v = .bl true) L2.E0) ∧
    ∀ base : Heap, K.In base → base.Ns mainGlobals mg → (∀ p ∈ cs, TabB base mg p.1 p.2) → FnG l.prog w K mg base k fa fd [x] sp
/-- the end of a law some defs of which say repr, or hold lambdas: these ones' tables are still empty -/
theorem walk_guard {l : PySem.W.OpenLaw} {n k : Nat} {q : Program} {loose : List Str} {XP : (Str → Option Value) → Heap → Prop} {YP : World → Heap → Prop} {d : DefRec} {K : Params → PySem.W.Frag} {x : Str} (nms : List Str)
    (hn : l.most = some n) (line : n ≤ sizeLine) (hdf : d.params.defaults = []) (room : Room k callerA) (recs : ∀ nm ∈ nms, ((recsOf q).any fun e => e.name == nm) = true) (hY : ∀ (w : World) (h : Heap), YP w h → (K w.params).In h)
    (F : ∀ (w : World) (mg : Str → Option Value) (fa : Addr) (h : Heap), YP w h → (K w.params).In h → h.Ns mainGlobals mg → mg d.name = some (.ref fa) → (∀ nm ∈ nms, ∀ fw, mg nm = some (.ref fw) → OwnTab (K w.params) fw h) → LawG l w (K w.params) k n x mg fa h) :
    PySem.W.WalkO q loose XP YP l.row.toRowW d [] (fun f vs => PySem.call f vs) := by
  refine Att.attach_callB hn hdf fun w s0 s1 mg mb fa o pm cd doc a vs ns G Y ho hd hcd hmg hobj hints hlen hbits hg => ?_
  have KX := hY w _ Y
  have tabs : ∀ nm ∈ nms, ∀ fw, mg nm = some (.ref fw) → OwnTab (K w.params) fw s1.heap := by
    intro nm inn fw hw c P o1 fd1 e dd us sl look isF isC lookC at11
    obtain ⟨dR, mem, same⟩ := List.any_eq_true.mp (recs nm inn)
    have eN : dR.name = nm := beq_iff_eq.mp same
    obtain ⟨a2, o2, fd2, c2, P2, g1, g2, g3, g4, _, ⟨oc, vc, g5, _, g6, g7⟩, empty⟩ := G.T.tab dR mem
    rw [eN] at g1
    cases hw.symm.trans g1
    cases (KX _ _ look).symm.trans g2
    cases isF.symm.trans g3
    cases isC.symm.trans g4
    cases (KX _ _ lookC).symm.trans g5
    cases g6
    cases at11.symm.trans g7
    exact empty
  obtain ⟨fd, cs, sp, hT, nT, hC, hb, hsp, hF⟩ := F w mg fa _ Y KX G.T.g hmg tabs
  exact end_at ⟨KX, G.T.g, G.T.b, G.T.builtins, G.T.nolimit, hg, hT, nT, hC, G.T.bmain, hobj⟩ hints (Nat.le_trans hlen line) fun base H hK hG hB ht hS e0 =>
    (hF base hK hG hB).run callerA [] s1 H ⟨[.ref a], []⟩ [.ref a] [.ref a] _ rfl room e0 (hb s1 (.ref a)) (.cons rfl .nil) (hsp H a ns hlen hbits ht hS)
end Gd
set_option Elab.async false
set_option linter.all false
set_option maxRecDepth 100000
set_option maxHeartbeats 4000000
set_option pp.maxSteps 1200
/-! Things that stand beside the dice; how great they are. -/
namespace Kf
open PySem PySem.Spec PyProof.Rows L2 Sx
abbrev NmOk (z : Str) : Prop := z.cps.all (· < 0x110000) = true
/-- the heap without some places -/
def del (H : Hp) (S : List Addr) : Hp := fun c => if c ∈ S then none else H c
theorem del_ne {H : Hp} {S : List Addr} {c : Addr} (n : c ∉ S) : del H S c = H c := if_neg n
theorem del_same {H : Hp} {S : List Addr} : Same (del H S) H := fun c o e => by
  unfold del at e
  split at e
  · cases e
  · exact e
theorem del_but {H H' : Hp} {p : Addr} {S : List Addr} (pS : p ∈ S) (b : But p H H') : Same (del H S) (del H' S) := fun c o e => by
  by_cases n : c ∈ S
  · rw [show del H S c = none from if_pos n] at e
    cases e
  · rw [del_ne n] at e ⊢
    exact b _ _ (fun z => n (by rw [z]; exact pS)) e
/-- these places are lists -/
def LS (H : Hp) (S : List Addr) : Prop := ∀ a ∈ S, ∃ xs, H a = some (.lst xs)
theorem LS.but {H H' : Hp} {p L : Addr} {S : List Addr} {m : Int} (h : LS H S) (b : But p H H') (hD : DiceAt H' p L m) : LS H' S := fun a ha => by
  by_cases e : a = p
  · obtain ⟨x, n, r, cs, e2, _⟩ := hD
    rw [e]
    exact ⟨_, e2⟩
  · obtain ⟨xs, e2⟩ := h a ha
    exact ⟨xs, b _ _ e e2⟩
theorem LS.nin {H : Hp} {S : List Addr} {q : Addr} (h : LS H S) (e : H q = none) : q ∉ S := fun z => by
  obtain ⟨xs, e2⟩ := h q z
  rw [e] at e2
  cases e2
section
variable {K : PySem.W.Frag} {H H' : Hp} {p : Addr} {S : List Addr} {m : Int}
/-- data in the heap, but for these places -/
def Df (K : PySem.W.Frag) (S : List Addr) (H : Hp) (v : V) (d : PyData) : Prop := Dp K (del H S) v d
theorem Df.dp {v : V} {d : PyData} (h : Df K S H v d) : Dp K H v d := dp_up del_same _ _ h
theorem Df.but {v : V} {d : PyData} (pS : p ∈ S) (b : But p H H') (h : Df K S H v d) : Df K S H' v d := dp_up (del_but pS b) _ _ h
theorem del_up (b : Same H H') : Same (del H S) (del H' S) := fun c o e => by
  by_cases n : c ∈ S
  · rw [show del H S c = none from if_pos n] at e
    cases e
  · rw [del_ne n] at e ⊢
    exact b _ _ e
theorem Df.same {v : V} {d : PyData} (b : Same H H') (h : Df K S H v d) : Df K S H' v d := dp_up (del_up b) _ _ h
theorem sqT_del {a : Addr} {xs : List V} (hL : LS H S) (h : SqT K H a xs) : SqT K (del H S) a xs := by
  rcases h with (h | ⟨o, h⟩) | h
  · have ne : a ∉ S := fun z => by
      obtain ⟨ys, e⟩ := hL a z
      rw [e] at h
      cases h
    exact .inl (.inl (by rw [del_ne ne]; exact h))
  · have ne : a ∉ S := fun z => by
      obtain ⟨ys, e⟩ := hL a z
      rw [e] at h
      cases h
    exact .inl (.inr ⟨o, by rw [del_ne ne]; exact h⟩)
  · exact .inr h
def DfAll (K : PySem.W.Frag) (S : List Addr) (H : Hp) (vs : List V) (ds : List PyData) : Prop := DpAll K (del H S) vs ds
theorem df_tup {a : Addr} {xs : List V} {ds : List PyData} (hL : LS H S) (h : SqT K H a xs) (g : DfAll K S H xs ds) : Df K S H (.ref a) (.tuple ds) := .tup (sqT_del hL h) g
theorem df_lst {a : Addr} {xs : List V} {ds : List PyData} (n : a ∉ S) (h : H a = some (.lst xs)) (g : DfAll K S H xs ds) : Df K S H (.ref a) (.list ds) := .lst (.inl (.inl (by rw [del_ne n]; exact h))) g
theorem DfAll.but {vs : List V} {ds : List PyData} (pS : p ∈ S) (b : But p H H') (h : DfAll K S H vs ds) : DfAll K S H' vs ds := dps_up (del_but pS b) _ _ h
theorem dps_app : ∀ {vs ws : List V} {ds es : List PyData}, DpAll K H vs ds → DpAll K H ws es → DpAll K H (vs ++ ws) (ds ++ es)
  | _, _, _, _, .nil, h => h
  | _, _, _, _, .cons a b, h => .cons a (dps_app b h)
theorem dps_take : ∀ (k : Nat) {vs : List V} {ds : List PyData}, DpAll K H vs ds → DpAll K H (vs.take k) (ds.take k)
  | 0, _, _, _ => .nil
  | k + 1, _, _, .nil => .nil
  | k + 1, _, _, .cons a b => .cons a (dps_take k b)
theorem dps_drop : ∀ (k : Nat) {vs : List V} {ds : List PyData}, DpAll K H vs ds → DpAll K H (vs.drop k) (ds.drop k)
  | 0, _, _, h => h
  | k + 1, _, _, .nil => .nil
  | k + 1, _, _, .cons a b => dps_drop k b
theorem dps_rev : ∀ {vs : List V} {ds : List PyData}, DpAll K H vs ds → DpAll K H vs.reverse ds.reverse
  | _, _, .nil => .nil
  | _, _, .cons a b => by
    rw [List.reverse_cons, List.reverse_cons]
    exact dps_app (dps_rev b) (.cons a .nil)
theorem dps_get : ∀ {vs : List V} {ds : List PyData} {i : Nat} {v : V}, DpAll K H vs ds → vs[i]? = some v → ∃ d, ds[i]? = some d ∧ Dp K H v d
  | _, _, _, _, .nil, h => by simp at h
  | _, _, 0, _, .cons a _, h => ⟨_, rfl, (Option.some.inj h) ▸ a⟩
  | _, _, i + 1, _, .cons _ t, h => dps_get (i := i) t (by simpa using h)
end
/-! ### how great -/
def Atm : PyData → Prop
  | .none | .bool _ => True
  | .int i => i.natAbs < 10 ^ 62
  | .str z => NmOk z ∧ z.length ≤ 8
  | _ => False
def Gd (b : Nat) : Nat → PyData → Prop
  | 0, d => Atm d
  | n + 1, d => Atm d ∨ ∃ ds, (d = .tuple ds ∨ d = .list ds) ∧ ds.length ≤ b ∧ ∀ x ∈ ds, Gd b n x
theorem Gd.atm {b : Nat} {d : PyData} (h : Atm d) : ∀ n, Gd b n d
  | 0 => h
  | _ + 1 => .inl h
theorem Gd.mono {b c : Nat} (l : b ≤ c) : ∀ {n k : Nat} {d : PyData}, n ≤ k → Gd b n d → Gd c k d
  | 0, k, d, _, h => .atm h k
  | n + 1, 0, d, hk, _ => absurd hk (Nat.not_succ_le_zero n)
  | n + 1, k + 1, d, hk, .inl h => .inl h
  | n + 1, k + 1, d, hk, .inr ⟨ds, e, len, all⟩ => .inr ⟨ds, e, Nat.le_trans len l, fun x hx => Gd.mono l (Nat.le_of_succ_le_succ hk) (all x hx)⟩
theorem Gd.tup {b n : Nat} {ds : List PyData} (len : ds.length ≤ b) (all : ∀ x ∈ ds, Gd b n x) : Gd b (n + 1) (.tuple ds) := .inr ⟨ds, .inl rfl, len, all⟩
theorem Gd.lst {b n : Nat} {ds : List PyData} (len : ds.length ≤ b) (all : ∀ x ∈ ds, Gd b n x) : Gd b (n + 1) (.list ds) := .inr ⟨ds, .inr rfl, len, all⟩
theorem Gd.untup {b n : Nat} {ds : List PyData} (h : Gd b n (.tuple ds)) : ∃ k, n = k + 1 ∧ ds.length ≤ b ∧ ∀ x ∈ ds, Gd b k x := by
  cases n with
  | zero => exact h.elim
  | succ k =>
    rcases h with h | ⟨es, e | e, len, all⟩
    · exact h.elim
    · injection e with e
      subst e
      exact ⟨k, rfl, len, all⟩
    · cases e
/-- how long the text of one is at most -/
def LL (b : Nat) : Nat → Nat
  | 0 => 90
  | n + 1 => b * LL b n + 2 * b + 90
theorem LL_ge (b : Nat) : ∀ n, 90 ≤ LL b n
  | 0 => Nat.le_refl 90
  | n + 1 => Nat.le_add_left 90 _
structure Fit (d : PyData) (n m : Nat) : Prop where
  lay : d.canLay0 = true
  show_ : d.showable = true
  dict : d.hasDict = false
  deep : d.depth ≤ n
  len : d.shown.length ≤ m
theorem fit_all {n m : Nat} : ∀ ds : List PyData, (∀ x ∈ ds, Fit x n m) → PyData.canLayAll0 ds = true ∧ PyData.showableAll ds = true ∧ PyData.hasDictAll ds = false ∧ PyData.depthAll ds ≤ n ∧ ((PyData.shownAll ds).map (·.length)).sum ≤ ds.length * m ∧ (PyData.shownAll ds).length = ds.length
  | [], _ => ⟨rfl, rfl, rfl, Nat.zero_le _, Nat.zero_le _, rfl⟩
  | d :: ds, h => by
    obtain ⟨a1, a2, a3, a4, a5, a6⟩ := fit_all ds fun x hx => h x (List.mem_cons_of_mem _ hx)
    obtain ⟨b1, b2, b3, b4, b5⟩ := h d List.mem_cons_self
    refine ⟨?_, ?_, ?_, ?_, ?_, ?_⟩
    · show (d.canLay0 && PyData.canLayAll0 ds) = true
      rw [b1, a1]
      rfl
    · show (d.showable && PyData.showableAll ds) = true
      rw [b2, a2]
      rfl
    · show (d.hasDict || PyData.hasDictAll ds) = false
      rw [b3, a3]
      rfl
    · show max d.depth (PyData.depthAll ds) ≤ n
      omega
    · show d.shown.length + ((PyData.shownAll ds).map (·.length)).sum ≤ (ds.length + 1) * m
      rw [Nat.succ_mul]
      omega
    · show (PyData.shownAll ds).length + 1 = ds.length + 1
      rw [a6]
theorem fit_atm {d : PyData} (h : Atm d) : Fit d 0 90 := by
  cases d with
  | none => exact ⟨rfl, rfl, rfl, Nat.le_refl 0, by decide +kernel⟩
  | bool b => exact ⟨rfl, rfl, rfl, Nat.le_refl 0, by cases b <;> decide +kernel⟩
  | int i =>
    refine ⟨rfl, decide_eq_true ?_, rfl, Nat.le_refl 0, ?_⟩
    · by_cases z : i.natAbs = 0
      · rw [z]
        decide
      · refine (Nat.log2_lt z).2 ?_
        exact Nat.lt_of_lt_of_le h (Nat.le_trans (show 10 ^ 62 ≤ 2 ^ 208 by decide) (Nat.pow_le_pow_right (by decide) (by decide)))
    · have e := int_text_length_le10 (k := 62) (by decide) h
      show (Str.ofString (toString i)).length ≤ 90
      rw [PySem.ofString_length]
      exact Nat.le_trans e (by decide)
  | str z =>
    obtain ⟨h1, h2⟩ := h
    refine ⟨h1, rfl, rfl, Nat.le_refl 0, ?_⟩
    have all : ∀ c ∈ z.cps.toList, c < 16 ^ 8 := fun c hc => by
      have q := (Array.all_eq_true_iff_forall_mem.mp h1) c (Array.mem_toList_iff.mp hc)
      have q2 : c < 0x110000 := by simpa using q
      exact Nat.lt_of_lt_of_le q2 (by decide)
    have y := StrLaws.reprText_len z all
    have e : (PyData.shown (.str z)).length = (reprText z).length := rfl
    rw [e]
    omega
  | list _ => exact h.elim
  | tuple _ => exact h.elim
  | dict _ => exact h.elim
theorem Fit.mono {d : PyData} {n m n2 m2 : Nat} (h : Fit d n m) (a : n ≤ n2) (b : m ≤ m2) : Fit d n2 m2 := ⟨h.lay, h.show_, h.dict, Nat.le_trans h.deep a, Nat.le_trans h.len b⟩
theorem fit_gd {b : Nat} : ∀ {n : Nat} {d : PyData}, Gd b n d → Fit d n (LL b n)
  | 0, d, h => fit_atm h
  | n + 1, d, .inl h => (fit_atm h).mono (Nat.zero_le _) (LL_ge b _)
  | n + 1, d, .inr ⟨ds, e, len, all⟩ => by
    obtain ⟨a1, a2, a3, a4, a5, a6⟩ := fit_all ds fun x hx => fit_gd (all x hx)
    have l1 := listText_len_le (PyData.shownAll ds)
    have l2 := tupleText_len_le (PyData.shownAll ds)
    have l3 : ds.length * LL b n ≤ b * LL b n := Nat.mul_le_mul_right _ len
    have e9 : LL b (n + 1) = b * LL b n + 2 * b + 90 := rfl
    rcases e with e | e
    · subst e
      refine ⟨a1, a2, a3, Nat.succ_le_succ a4, ?_⟩
      show (tupleText (PyData.shownAll ds)).length ≤ _
      omega
    · subst e
      refine ⟨a1, a2, a3, Nat.succ_le_succ a4, ?_⟩
      show (listText (PyData.shownAll ds)).length ≤ _
      omega
theorem gd_shaped {b n : Nat} {d : PyData} (h : Gd b n d) (l : n ≤ 64) : SeqAt.shaped d = true := by
  have f := fit_gd h
  show (d.canLay0 && decide (d.depth ≤ 64)) = true
  rw [f.lay, decide_eq_true (Nat.le_trans f.deep l)]
  rfl
end Kf
set_option Elab.async false
set_option linter.all false
set_option maxRecDepth 100000
set_option maxHeartbeats 8000000
set_option pp.maxSteps 1200
/-! k20: the pick, drawn kinds. -/
namespace Kf
open PySem PySem.Spec PyProof.Rows L2 Sx
abbrev sKind : Stmt := top 10
abbrev kindN : List Str := ["dice", "deep", "whole", "way", "one", "other", "none", "some"]
theorem scKind : FnScope kindN ["dice", "deep", "whole"] (defScope sKind) := ⟨rfl, rfl, rfl, by decide +kernel, rfl, by decide +kernel, by decide +kernel⟩
section
variable {P : Program} {w : World} {K : PySem.W.Frag} {mg : Str → Option Value} {base : Heap}
def spPick (K : PySem.W.Frag) : Sp := fun vs H Q _ => ∃ (p l L : Addr) (xs : List V) (m : Int), vs = [.ref p, .ref l] ∧ SqL K H l xs ∧ l ≠ p ∧ 0 < xs.length ∧ xs.length ≤ 1000 ∧ m < 2 ^ 50 ∧ DiceAt H p L m ∧
  ∀ x ∈ xs, ∀ H', But p H H' → DiceAt H' p L (m + 1) → Q x H'
theorem seq_but {p l : Addr} {H H' : Hp} {xs : List V} (n : l ≠ p) (b : But p H H') (h : SqL K H l xs) : SqL K H' l xs := by
  rcases h with (h | ⟨o, h⟩) | h
  · exact .inl (.inl (b _ _ n h))
  · exact .inl (.inr ⟨o, b _ _ n h⟩)
  · exact .inr h
theorem ok_pick {f g : Addr} {fd gd : FuncData} {j : Nat} (F : Fun K "_law_pick" "_law_pick" sPick f fd) (G : FnOk P w K mg base CX0 (j + 1) g gd ["dice", "size"] spRoll) (bG : Binds K gd ["dice", "size"] []) (kG : PySem.W.keepIn K (.ref g) = true) (mG : mg "_law_roll" = some (.ref g)) (ml : mg "len" = none) :
    FnOk P w K mg base CX0 (j + 2) f fd ["dice", "some"] (spPick K) := by
  refine F.ok scPick (fun vs H Q E h => ?_) (fun cdv A outer s H vs Q E hr h => ?_)
  · obtain ⟨p, l, L, xs, m, rfl, _⟩ := h
    rfl
  obtain ⟨p, l, L, xs, m, rfl, hs, nl, l0, l1, mm, hD, q⟩ := h
  refine ⟨_, pss_one (ps_ret (pe_ix ix_list (pv 1) (pe_call G hr (by rfl) mG kG bG .nil pass0 (pa_cons (pv 0) (pa_cons (pe_callB call_len_seq (by rfl) ml PySem.boot_len (pa_cons (pv 1) pa_nil)) pa_nil))) (fun _ _ => rfl))), ?_⟩
  refine ⟨_, rfl, _, rfl, _, rfl, l, xs, rfl, .inl hs, p, L, ((xs.length : Nat) : Int), m, rfl, by omega, Nat.lt_of_le_of_lt (by rw [Int.natAbs_natCast]; exact l1) (by decide), mm, hD, fun r H' r0 r1 b hD' => ?_⟩
  obtain ⟨x, mem, e⟩ := atI_in r0 r1
  exact ⟨l, xs, r, x, rfl, rfl, seq_but nl b hs, e, q x mem H' b hD'⟩
/-! ### the dice, with all that the draws want -/
structure Draw (P : Program) (w : World) (K : PySem.W.Frag) (mg : Str → Option Value) (base : Heap) (fr fp : Addr) (dr dp : FuncData) : Prop where
  R : FnOk P w K mg base CX0 1 fr dr ["dice", "size"] spRoll
  bR : Binds K dr ["dice", "size"] []
  kR : PySem.W.keepIn K (.ref fr) = true
  mR : mg "_law_roll" = some (.ref fr)
  Pk : FnOk P w K mg base CX0 2 fp dp ["dice", "some"] (spPick K)
  bP : Binds K dp ["dice", "some"] []
  kP : PySem.W.keepIn K (.ref fp) = true
  mP : mg "_law_pick" = some (.ref fp)
theorem Int.one_le_two_pow_ : ∀ d : Nat, (1 : Int) ≤ 2 ^ d
  | 0 => by decide
  | d + 1 => by
    rw [Int.pow_succ]
    have := Int.one_le_two_pow_ d
    omega
theorem join {C G : Hp → Prop} {M : Prop} (main : (∀ H, C H → G H) → M) (rest : ∀ H, C H → G H) : M := main rest
/-- what a kind so deep may cost -/
def ck (d : Nat) : Int := 4 * 2 ^ d - 2
def OutK (K : PySem.W.Frag) (Z : List Addr) (p L : Addr) (H : Hp) (d : Nat) (m : Int) (Q : VK) : Prop := ∀ v t H', Df K Z H' v t → Gd 3 d t → But p H H' → DiceAt H' p L m → Q v H'
def spKind (K : PySem.W.Frag) (n : Nat) : Sp := fun vs H Q _ => ∃ (p L : Addr) (Z : List Addr) (d : Nat) (m : Int), p ∈ Z ∧ LS H Z ∧ vs = [.ref p, .int (d : Int), .bl true] ∧ d + 1 ≤ n ∧ m + ck d < 2 ^ 50 ∧ DiceAt H p L m ∧ OutK K Z p L H (d + 1) (m + ck d) Q
theorem gd3 {n : Nat} {z : Str} {x y : PyData} (hz : NmOk z ∧ z.length ≤ 8) (hx : Gd 3 n x) (hy : Gd 3 n y) : Gd 3 (n + 1) (.tuple [.str z, x, y]) := .tup (Nat.le_refl 3) fun u hu => by
  rcases List.mem_cons.mp hu with rfl | hu
  · exact Gd.atm (d := .str z) hz _
  rcases List.mem_cons.mp hu with rfl | hu
  · exact hx
  · rw [List.mem_singleton.mp hu]
    exact hy
theorem gd1 {b n : Nat} {z : Str} (hb : 1 ≤ b) (hz : NmOk z ∧ z.length ≤ 8) : Gd b (n + 1) (.tuple [.str z]) := .tup hb fun u hu => by
  rw [List.mem_singleton.mp hu]
  exact Gd.atm (d := .str z) hz _
theorem df3 {Z : List Addr} {H : Hp} {q : Addr} {z : Str} {x y : V} {a b : PyData} (hL : LS H Z) (e : H q = some (.tup [.str z, x, y])) (ha : Df K Z H x a) (hb : Df K Z H y b) : Df K Z H (.ref q) (.tuple [.str z, a, b]) := df_tup hL (.inl (.inl e)) (.cons (.str z) (.cons ha (.cons hb .nil)))
theorem df1 {Z : List Addr} {H : Hp} {q : Addr} {z : Str} (hL : LS H Z) (e : H q = some (.tup [.str z])) : Df K Z H (.ref q) (.tuple [.str z]) := df_tup hL (.inl (.inl e)) (.cons (.str z) .nil)
theorem LS.same {H H' : Hp} {S : List Addr} (h : LS H S) (b : Same H H') : LS H' S := fun a ha => by
  obtain ⟨xs, e⟩ := h a ha
  exact ⟨xs, b _ _ e⟩
theorem ok_kind {f fr fp : Addr} {fd dr dp : FuncData} {n : Nat} (F : Fun K "_law_kind" "_law_kind" sKind f fd) (D : Draw P w K mg base fr fp dr dp) (S : FnOk P w K mg base CX0 (2 + n) f fd ["dice", "deep", "whole"] (spKind K n)) (bS : Binds K fd ["dice", "deep", "whole"] []) (mS : mg "_law_kind" = some (.ref f)) :
    FnOk P w K mg base CX0 (2 + n + 1) f fd ["dice", "deep", "whole"] (spKind K (n + 1)) := by
  refine F.ok scKind (fun vs H Q E h => ?_) (fun cdv A outer s H vs Q E hr h => ?_)
  · obtain ⟨p, L, Z, d, m, _, _, rfl, _⟩ := h
    rfl
  obtain ⟨p, L, Z, d, m, pS, lS, rfl, dn, mc, hD, q⟩ := h
  have h1 : Room 1 _ := hr.mono (by omega)
  have h2 : Room 2 _ := hr.mono (by omega)
  refine ⟨_, pss_cons (ps_set (i := 3) scKind.nd rfl (.inl rfl) (pe_call D.R h1 (by rfl) D.mR D.kR D.bR .nil pass0 (pa_cons (pv 0) (pa_cons pe_int pa_nil))))
    (pss_cons (ps_if (PW.pt (pw_or (pt_cmpR op_eq (pv 1) pe_int (nomark _)) (pw_or1 (pt_cmpR op_lt (pv 3) pe_int (nomark _))))) (pss_one (ps_ret (pe_tup (pa_cons pe_str pa_nil)))) pss_nil)
    (pss_cons (ps_set (i := 4) scKind.nd rfl (.inl rfl) (pe_call S hr (by rfl) mS F.kp bS .nil pass0 (pa_cons (pv 0) (pa_cons (pe_op op_sub (pv 1) pe_int) (pa_cons (pv 2) pa_nil)))))
    (pss_cons (ps_set (i := 5) scKind.nd rfl (.inl rfl) (pe_call S hr (by rfl) mS F.kp bS .nil pass0 (pa_cons (pv 0) (pa_cons (pe_op op_sub (pv 1) pe_int) (pa_cons (pv 2) pa_nil)))))
    (pss_cons (ps_if (PW.pt (pw_and (pt_cmpR op_eq (pv 3) pe_int (nomark _)) (pw_and1 (pt_val (pv 2))))) (pss_one (ps_ret (pe_tup (pa_cons pe_str (pa_cons (pv 4) (pa_cons (pv 5) pa_nil)))))) pss_nil)
    (pss_cons (ps_if (pt_cmpR op_lt (pv 3) pe_int (nomark _)) (pss_one (ps_ret (pe_tup (pa_cons pe_str (pa_cons (pv 4) (pa_cons (pv 5) pa_nil)))))) pss_nil)
    (pss_cons (ps_set (i := 6) scKind.nd rfl (.inl rfl) (pe_tup (pa_cons pe_str pa_nil)))
    (pss_cons (ps_set (i := 7) scKind.nd rfl (.inl rfl) (pe_lst (pa_cons (pe_tup (pa_cons pe_str (pa_cons (pv 4) (pa_cons (pv 5) pa_nil)))) (pa_cons (pe_tup (pa_cons pe_str (pa_cons (pv 6) (pa_cons (pv 5) pa_nil)))) (pa_cons (pe_tup (pa_cons pe_str (pa_cons (pv 4) (pa_cons (pv 6) pa_nil)))) (pa_cons (pe_tup (pa_cons pe_str (pa_cons (pv 6) (pa_cons (pv 6) pa_nil)))) pa_nil))))))
    (pss_one (ps_ret (pe_call D.Pk h2 (by rfl) D.mP D.kP D.bP .nil pass0 (pa_cons (pv 0) (pa_cons (pv 7) pa_nil)))))))))))), ?_⟩
  have c0 : ∀ d : Nat, 2 ≤ ck d := fun d => by
    have z : (1 : Int) ≤ 2 ^ d := Int.one_le_two_pow_ d
    unfold ck
    omega
  have cS : ∀ d : Nat, ck (d + 1) = 1 + ck d + ck d + 1 := fun d => by
    unfold ck
    rw [Int.pow_succ]
    omega
  have cd := c0 d
  refine ⟨_, rfl, p, L, 8, m, rfl, by decide, by decide, by omega, hD, fun way H1 w0 w8 b1 hD1 => ?_⟩
  have leaf : ∀ t, H1 t = none → Q (.ref t) (upd H1 t (.tup [.str "number"])) := fun t nt => by
    have hD2 := hD1.same (same_new (o := .tup [.str "number"]) nt)
    exact q _ (.tuple [.str "number"]) _ (df1 (lS.but (b1.new nt) hD2) upd_same) (gd1 (by decide) (by decide +kernel)) (b1.new nt) (hD2.more (by omega))
  refine ⟨_, rfl, rfl, _, rfl, ?_⟩
  refine ite2 (fun c => ?_) (fun c => ?_)
  · exact iteT ⟨(by show 1 ≤ sizeLine; decide), leaf⟩
  refine ⟨_, rfl, _, _, rfl, rfl, _, rfl, ?_⟩
  refine ite2 (fun c2 => ?_) (fun c2 => ?_)
  · exact ⟨(by show 1 ≤ sizeLine; decide), leaf⟩
  obtain ⟨e, rfl⟩ : ∃ e, d = e + 1 := by
    cases d with
    | zero => exact (c (decide_eq_true rfl)).elim
    | succ e => exact ⟨e, rfl⟩
  have ce := c0 e
  have cs := cS e
  have down : (((e + 1 : Nat) : Int) - 1) = (e : Int) := by omega
  refine ⟨_, rfl, _, rfl, _, _, rfl, rfl, _, rfl, p, L, Z, e, m + 1, pS, lS.but b1 hD1, by show [V.ref p, V.int (((e + 1 : Nat) : Int) - 1), V.bl true] = _; rw [down], by omega, by omega, hD1, fun v1 t1 H2 k1 g1 b2 hD2 => ?_⟩
  refine ⟨_, rfl, _, rfl, _, _, rfl, rfl, _, rfl, p, L, Z, e, m + 1 + ck e, pS, lS.but (b1.trans b2) hD2, by show [V.ref p, V.int (((e + 1 : Nat) : Int) - 1), V.bl true] = _; rw [down], by omega, by omega, hD2, fun v2 t2 H3 k2 g2 b3 hD3 => ?_⟩
  have A1 : Df K Z H3 v1 t1 := k1.but pS b3
  have bb : But p H H3 := (b1.trans b2).trans b3
  have l3 := lS.but bb hD3
  have two_ : ∀ (z : Str), NmOk z ∧ z.length ≤ 8 → ∀ t, H3 t = none → Q (.ref t) (upd H3 t (.tup [.str z, v1, v2])) := fun z hz t nt => by
    have sn := same_new (o := .tup [.str z, v1, v2]) nt
    exact q _ (.tuple [.str z, t1, t2]) _ (df3 (l3.same sn) upd_same (A1.same sn) (k2.same sn)) (gd3 hz g1 g2) (bb.new nt) ((hD3.same sn).more (by omega))
  apply join (C := fun X => X = H3)
  · intro rest
    refine ⟨_, rfl, rfl, _, rfl, ?_⟩
    refine ite2 (fun _ => ⟨_, rfl, _, rfl, ?_⟩) (fun _ => iteF (rest _ rfl))
    exact iteT ⟨_, rfl, _, rfl, (by show 3 ≤ sizeLine; decide), two_ "from" (by decide +kernel)⟩
  · rintro X rfl
    refine ⟨_, rfl, _, _, rfl, rfl, _, rfl, ?_⟩
    refine ite2 (fun c4 => ?_) (fun c4 => ?_)
    · exact ⟨_, rfl, _, rfl, (by show 3 ≤ sizeLine; decide), two_ "pair" (by decide +kernel)⟩
    refine ⟨(by show 1 ≤ sizeLine; decide), fun tn nn => ?_⟩
    have s1 := same_new (o := .tup [.str "none"]) nn
    have f1 : upd X tn (.tup [.str "none"]) tn = _ := upd_same
    generalize upd X tn (.tup [.str "none"]) = X1 at s1 f1
    refine ⟨_, rfl, _, rfl, (by show 3 ≤ sizeLine; decide), fun q1 n1 => ?_⟩
    have s2 := same_new (o := .tup [.str "either", v1, v2]) n1
    have e1 : upd X1 q1 (.tup [.str "either", v1, v2]) q1 = _ := upd_same
    generalize upd X1 q1 (.tup [.str "either", v1, v2]) = X2 at s2 e1
    refine ⟨_, rfl, _, rfl, (by show 3 ≤ sizeLine; decide), fun q2 n2 => ?_⟩
    have s3 := same_new (o := .tup [.str "either", .ref tn, v2]) n2
    have e2 : upd X2 q2 (.tup [.str "either", .ref tn, v2]) q2 = _ := upd_same
    generalize upd X2 q2 (.tup [.str "either", .ref tn, v2]) = X3 at s3 e2
    refine ⟨_, rfl, _, rfl, (by show 3 ≤ sizeLine; decide), fun q3 n3 => ?_⟩
    have s4 := same_new (o := .tup [.str "either", v1, .ref tn]) n3
    have e3 : upd X3 q3 (.tup [.str "either", v1, .ref tn]) q3 = _ := upd_same
    generalize upd X3 q3 (.tup [.str "either", v1, .ref tn]) = X4 at s4 e3
    refine ⟨_, rfl, _, rfl, (by show 3 ≤ sizeLine; decide), fun q4 n4 => ?_⟩
    have s5 := same_new (o := .tup [.str "either", .ref tn, .ref tn]) n4
    have e4 : upd X4 q4 (.tup [.str "either", .ref tn, .ref tn]) q4 = _ := upd_same
    generalize upd X4 q4 (.tup [.str "either", .ref tn, .ref tn]) = X5 at s5 e4
    refine ⟨(by show 4 ≤ sizeLine; decide), fun l nl => ?_⟩
    have s6 := same_new (o := .lst [.ref q1, .ref q2, .ref q3, .ref q4]) nl
    have sAll : Same X (upd X5 l (.lst [.ref q1, .ref q2, .ref q3, .ref q4])) := s1.trans (s2.trans (s3.trans (s4.trans (s5.trans s6))))
    have hD4 := hD3.same sAll
    have el : upd X5 l (.lst [.ref q1, .ref q2, .ref q3, .ref q4]) l = _ := upd_same
    have nlp : l ≠ p := ((hD3.same (s1.trans (s2.trans (s3.trans (s4.trans s5)))))).ne nl
    have E1 := (s3.trans (s4.trans (s5.trans s6))) _ _ e1
    have E2 := (s4.trans (s5.trans s6)) _ _ e2
    have E3 := (s5.trans s6) _ _ e3
    have E4 := s6 _ _ e4
    have fin := l3.same sAll
    have B1 := A1.same sAll
    have B2 := k2.same sAll
    have En := (s2.trans (s3.trans (s4.trans (s5.trans s6)))) _ _ f1
    generalize upd X5 l (.lst [.ref q1, .ref q2, .ref q3, .ref q4]) = X6 at sAll hD4 el E1 E2 E3 E4 B1 B2 En fin
    have Bn : Df K Z X6 (.ref tn) (.tuple [.str "none"]) := df1 fin En
    have items : ∀ x ∈ ([.ref q1, .ref q2, .ref q3, .ref q4] : List V), ∃ t, Df K Z X6 x t ∧ Gd 3 (e + 1 + 1) t := by
      have hz : NmOk (Str.ofString "either") ∧ (Str.ofString "either").length ≤ 8 := by decide +kernel
      have gn : Gd 3 (e + 1) (.tuple [.str "none"]) := gd1 (by decide) (by decide +kernel)
      intro x hx
      rcases List.mem_cons.mp hx with rfl | hx
      · exact ⟨_, df3 fin E1 B1 B2, gd3 hz g1 g2⟩
      rcases List.mem_cons.mp hx with rfl | hx
      · exact ⟨_, df3 fin E2 Bn B2, gd3 hz gn g2⟩
      rcases List.mem_cons.mp hx with rfl | hx
      · exact ⟨_, df3 fin E3 B1 Bn, gd3 hz g1 gn⟩
      · rw [List.mem_singleton.mp hx]
        exact ⟨_, df3 fin E4 Bn Bn, gd3 hz gn gn⟩
    refine ⟨_, rfl, _, rfl, p, l, L, _, m + 1 + ck e + ck e, rfl, .inl (.inl el), nlp, (by show 0 < 4; decide), (by show 4 ≤ 1000; decide), by omega, hD4, fun x mem H' b hD' => ?_⟩
    obtain ⟨t, dt, gt⟩ := items x mem
    exact q x t H' (dt.but pS b) gt ((bb.trans (but_same sAll)).trans b) (hD'.more (by omega))
theorem ok_kinds {f fr fp : Addr} {fd dr dp : FuncData} (F : Fun K "_law_kind" "_law_kind" sKind f fd) (D : Draw P w K mg base fr fp dr dp) (bS : Binds K fd ["dice", "deep", "whole"] []) (mS : mg "_law_kind" = some (.ref f)) : ∀ n : Nat, FnOk P w K mg base CX0 (2 + n) f fd ["dice", "deep", "whole"] (spKind K n)
  | 0 => no_calls fun vs H Q E h => by
    obtain ⟨p, L, Z, d, m, _, _, _, dn, _⟩ := h
    omega
  | n + 1 => ok_kind F D (ok_kinds F D bS mS n) bS mS
end
end Kf
set_option Elab.async false
set_option linter.all false
set_option maxRecDepth 100000
set_option maxHeartbeats 4000000
set_option pp.maxSteps 1200
/-! How great data is, part by part. -/
namespace Kf
open PySem PySem.Spec PyProof.Rows L2 Sx
mutual
def us : PyData → Nat
  | .tuple ds => 9 + uss ds
  | .list ds => 9 + uss ds
  | .none => 90
  | .bool _ => 90
  | .int _ => 90
  | .str _ => 90
  | .dict _ => 90
def uss : List PyData → Nat
  | [] => 0
  | d :: ds => 3 + us d + uss ds
end
mutual
theorem psz_us : ∀ d : PyData, psz d ≤ us d
  | .tuple ds => by
    have z := pszs_uss ds
    show 1 + pszs ds ≤ 9 + uss ds
    omega
  | .list ds => by
    have z := pszs_uss ds
    show 1 + pszs ds ≤ 9 + uss ds
    omega
  | .none => by show 1 ≤ 90; decide
  | .bool _ => by show 1 ≤ 90; decide
  | .int _ => by show 1 ≤ 90; decide
  | .str _ => by show 1 ≤ 90; decide
  | .dict _ => by show 1 ≤ 90; decide
theorem pszs_uss : ∀ ds : List PyData, pszs ds ≤ uss ds
  | [] => Nat.le_refl _
  | d :: ds => by
    have z := pszs_uss ds
    have y := psz_us d
    show psz d + pszs ds ≤ 3 + us d + uss ds
    omega
end
theorem uss_app : ∀ xs ys : List PyData, uss (xs ++ ys) = uss xs + uss ys
  | [], ys => (Nat.zero_add _).symm
  | x :: xs, ys => by
    have z := uss_app xs ys
    show 3 + us x + uss (xs ++ ys) = 3 + us x + uss xs + uss ys
    omega
theorem uss_take (k : Nat) (xs : List PyData) : uss (xs.take k) ≤ uss xs := by
  have z := uss_app (xs.take k) (xs.drop k)
  rw [List.take_append_drop] at z
  omega
theorem uss_drop (k : Nat) (xs : List PyData) : uss (xs.drop k) ≤ uss xs := by
  have z := uss_app (xs.take k) (xs.drop k)
  rw [List.take_append_drop] at z
  omega
theorem uss_at : ∀ (k : Nat) (xs : List PyData) {x : PyData}, xs[k]? = some x → uss (xs.take k) + (3 + us x) + uss (xs.drop (k + 1)) = uss xs
  | 0, [], _, h => by simp at h
  | 0, y :: xs, x, h => by
    have e : y = x := by simpa using h
    subst e
    show 0 + (3 + us y) + uss xs = 3 + us y + uss xs
    omega
  | k + 1, [], _, h => by simp at h
  | k + 1, y :: xs, x, h => by
    have z := uss_at k xs (by simpa using h)
    show 3 + us y + uss (xs.take k) + (3 + us x) + uss (xs.drop (k + 1)) = 3 + us y + uss xs
    omega
theorem us_path {k : Nat} {ds : List PyData} {x : PyData} (h : ds[k]? = some x) (y : PyData) : us (.tuple ((ds.take k ++ [y]) ++ ds.drop (k + 1))) + us x = us (.tuple ds) + us y := by
  have z := uss_at k ds h
  show 9 + uss ((ds.take k ++ [y]) ++ ds.drop (k + 1)) + us x = 9 + uss ds + us y
  rw [uss_app, uss_app]
  have e : uss [y] = 3 + us y + 0 := rfl
  omega
theorem us_c {c d : PyData} (h : decide (us c ≤ 500) = true) : us c ≤ us d + 500 := Nat.le_trans (of_decide_eq_true h) (Nat.le_add_left 500 _)
theorem us_l (ds : List PyData) : us (.list ds) ≤ us (.tuple ds) + 500 := Nat.le_add_right _ _
theorem us_a {ds : List PyData} {x : PyData} (h : decide (us x ≤ 400) = true) : us (.tuple (ds ++ [x])) ≤ us (.tuple ds) + 500 := by
  have z := of_decide_eq_true h
  show 9 + uss (ds ++ [x]) ≤ 9 + uss ds + 500
  rw [uss_app]
  have e : uss [x] = 3 + us x + 0 := rfl
  omega
def UB (b : Nat) : Nat → Nat
  | 0 => 90
  | n + 1 => 99 + b * (3 + UB b n)
theorem UB_ge (b : Nat) : ∀ n, 90 ≤ UB b n
  | 0 => Nat.le_refl _
  | n + 1 => by show 90 ≤ 99 + _; omega
theorem us_atm {d : PyData} (h : Atm d) : us d = 90 := by
  cases d with
  | list _ => exact h.elim
  | tuple _ => exact h.elim
  | _ => rfl
theorem uss_all {m : Nat} : ∀ ds : List PyData, (∀ x ∈ ds, us x ≤ m) → uss ds ≤ ds.length * (3 + m)
  | [], _ => Nat.zero_le _
  | d :: ds, h => by
    have z := uss_all ds fun x hx => h x (List.mem_cons_of_mem _ hx)
    have y := h d List.mem_cons_self
    show 3 + us d + uss ds ≤ (ds.length + 1) * (3 + m)
    rw [Nat.succ_mul]
    omega
theorem us_gd {b : Nat} : ∀ {n : Nat} {d : PyData}, Gd b n d → us d ≤ UB b n
  | 0, d, h => Nat.le_of_eq (us_atm h)
  | n + 1, d, .inl h => by rw [us_atm h]; exact UB_ge b _
  | n + 1, d, .inr ⟨ds, e, len, all⟩ => by
    have z := uss_all ds fun x hx => us_gd (all x hx)
    have y : ds.length * (3 + UB b n) ≤ b * (3 + UB b n) := Nat.mul_le_mul_right _ len
    have e9 : UB b (n + 1) = 99 + b * (3 + UB b n) := rfl
    rcases e with e | e
    · subst e
      show 9 + uss ds ≤ _
      omega
    · subst e
      show 9 + uss ds ≤ _
      omega
theorem shown_all : ∀ ds : List PyData, (∀ x ∈ ds, x.shown.length ≤ us x) → ((PyData.shownAll ds).map (·.length)).sum + 3 * ds.length ≤ uss ds ∧ (PyData.shownAll ds).length = ds.length
  | [], _ => ⟨Nat.zero_le _, rfl⟩
  | d :: ds, h => by
    obtain ⟨a, b⟩ := shown_all ds fun x hx => h x (List.mem_cons_of_mem _ hx)
    have y := h d List.mem_cons_self
    refine ⟨?_, ?_⟩
    · show d.shown.length + ((PyData.shownAll ds).map (·.length)).sum + 3 * (ds.length + 1) ≤ 3 + us d + uss ds
      omega
    · show (PyData.shownAll ds).length + 1 = ds.length + 1
      rw [b]
theorem shown_us {b : Nat} : ∀ {n : Nat} {d : PyData}, Gd b n d → d.shown.length ≤ us d
  | 0, d, h => by rw [us_atm h]; exact (fit_atm h).len
  | n + 1, d, .inl h => by rw [us_atm h]; exact (fit_atm h).len
  | n + 1, d, .inr ⟨ds, e, len, all⟩ => by
    obtain ⟨a, c⟩ := shown_all ds fun x hx => shown_us (all x hx)
    have l1 := listText_len_le (PyData.shownAll ds)
    have l2 := tupleText_len_le (PyData.shownAll ds)
    rcases e with e | e
    · subst e
      show (tupleText (PyData.shownAll ds)).length ≤ 9 + uss ds
      omega
    · subst e
      show (listText (PyData.shownAll ds)).length ≤ 9 + uss ds
      omega
end Kf
set_option Elab.async false
set_option linter.all false
set_option maxRecDepth 100000
set_option maxHeartbeats 8000000
set_option pp.maxSteps 1200
/-! k20: a piece otherwise. -/
namespace Kf
open PySem PySem.Spec PyProof.Rows L2 Sx
abbrev sSpoilt : Stmt := top 12
theorem scSpoilt : FnScope ["dice", "thing", "k", "some"] ["dice", "thing"] (defScope sSpoilt) := ⟨rfl, rfl, rfl, by decide +kernel, rfl, by decide +kernel, by decide +kernel⟩
section
variable {P : Program} {w : World} {K : PySem.W.Frag} {mg : Str → Option Value} {base : Heap}
theorem cut_whole {xs : List V} {lo hi : Option Int} (h : HT.sIx xs.length 0 lo = 0 ∧ HT.sIx xs.length xs.length hi = xs.length) : cutV xs lo hi = xs := by
  unfold cutV
  rw [h.1, h.2]
  simp
theorem sl_out {x : V} {a : Addr} {xs : List V} {lo hi : Option Int} {H : Hp} {Q : VK} (ex : x = .ref a) (h : SqT K H a xs) (q : ∀ b H', Same H H' → SqT K H' b (cutV xs lo hi) → Q (.ref b) H') : rSlA K x lo hi H Q := by
  refine ⟨a, xs, ex, h, fun e => q a H (fun _ _ e => e) (by rw [cut_whole e]; exact h), fun _ b nb => q b _ (same_new nb) (.inl (.inl upd_same))⟩
theorem cat_out {a b : Addr} {xs ys : List V} {H : Hp} {Q : VK} (h : SqT K H a xs) (g : SqT K H b ys) (len : xs.length + ys.length ≤ sizeLine) (q : ∀ c H', Same H H' → SqT K H' c (xs ++ ys) → Q (.ref c) H') : rCatA K (.ref a) (.ref b) H Q := by
  refine ⟨a, b, xs, ys, rfl, rfl, h, g, len, fun e => ?_, fun _ e => ?_, fun _ _ c nc => q c _ (same_new nc) (.inl (.inl upd_same))⟩
  · subst e
    exact q b H (fun _ _ e => e) g
  · subst e
    exact q a H (fun _ _ e => e) (by rw [List.append_nil]; exact h)
def Its (K : PySem.W.Frag) (U : List Addr) (H : Hp) (b n u : Nat) (xs : List V) : Prop := ∀ x ∈ xs, ∃ d, Df K U H x d ∧ Gd b n d ∧ us d ≤ u
theorem Its.but {p : Addr} {U : List Addr} {H H' : Hp} {b n u : Nat} {xs : List V} (pS : p ∈ U) (c : But p H H') (h : Its K U H b n u xs) : Its K U H' b n u xs := fun x hx => by
  obtain ⟨d, a, g⟩ := h x hx
  exact ⟨d, a.but pS c, g⟩
theorem Its.cons {U : List Addr} {H : Hp} {b n u : Nat} {x : V} {xs : List V} {d : PyData} (a : Df K U H x d) (g : Gd b n d) (hu : us d ≤ u) (h : Its K U H b n u xs) : Its K U H b n u (x :: xs) := fun y hy => by
  rcases List.mem_cons.mp hy with rfl | hy
  · exact ⟨d, a, g, hu⟩
  · exact h y hy
theorem Its.nil {U : List Addr} {H : Hp} {b n u : Nat} : Its K U H b n u [] := fun x hx => (List.not_mem_nil hx).elim
theorem Its.app {U : List Addr} {H : Hp} {b n u : Nat} {xs ys : List V} (h : Its K U H b n u xs) (g : Its K U H b n u ys) : Its K U H b n u (xs ++ ys) := fun x hx => (List.mem_append.mp hx).elim (h x) (g x)
theorem cut_to {xs : List V} {k : Nat} : cutV xs none (some (k : Int)) = xs.take k := by
  unfold cutV
  rw [HT.sIx_none, HT.sIx_nat, List.drop_zero, Nat.sub_zero]
  rcases Nat.le_total k xs.length with h | h
  · rw [Nat.min_eq_left h]
  · rw [Nat.min_eq_right h, List.take_length, List.take_of_length_le h]
theorem cut_from {xs : List V} {k : Nat} : cutV xs (some (k : Int)) none = xs.drop k := by
  unfold cutV
  rw [HT.sIx_none, HT.sIx_nat]
  rcases Nat.le_total k xs.length with h | h
  · rw [Nat.min_eq_left h]
    exact List.take_of_length_le (by rw [List.length_drop]; exact Nat.le_refl _)
  · rw [Nat.min_eq_right h, Nat.sub_self, List.take_zero, List.drop_of_length_le h]
def cutD (xs : List PyData) (lo hi : Option Int) : List PyData := (xs.drop (HT.sIx xs.length 0 lo)).take (HT.sIx xs.length xs.length hi - HT.sIx xs.length 0 lo)
theorem us_k {ds : List PyData} {lo hi : Option Int} : us (.tuple (cutD ds lo hi)) ≤ us (.tuple ds) + 500 := by
  have z := uss_take (HT.sIx ds.length ds.length hi - HT.sIx ds.length 0 lo) (ds.drop (HT.sIx ds.length 0 lo))
  have y := uss_drop (HT.sIx ds.length 0 lo) ds
  show 9 + uss ((ds.drop (HT.sIx ds.length 0 lo)).take (HT.sIx ds.length ds.length hi - HT.sIx ds.length 0 lo)) ≤ 9 + uss ds + 500
  omega
theorem us_h {ds : List PyData} {x : PyData} {lo hi : Option Int} (h : decide (us x ≤ 400) = true) : us (.tuple ([x] ++ cutD ds lo hi)) ≤ us (.tuple ds) + 500 := by
  have z := of_decide_eq_true h
  have w := uss_take (HT.sIx ds.length ds.length hi - HT.sIx ds.length 0 lo) (ds.drop (HT.sIx ds.length 0 lo))
  have y := uss_drop (HT.sIx ds.length 0 lo) ds
  show 9 + uss ([x] ++ (ds.drop (HT.sIx ds.length 0 lo)).take (HT.sIx ds.length ds.length hi - HT.sIx ds.length 0 lo)) ≤ 9 + uss ds + 500
  rw [uss_app]
  have e : uss [x] = 3 + us x + 0 := rfl
  omega
theorem cutD_len (xs : List PyData) (lo hi : Option Int) : (cutD xs lo hi).length ≤ xs.length := by
  unfold cutD
  rw [List.length_take, List.length_drop]
  omega
theorem cutD_mem {xs : List PyData} {lo hi : Option Int} {x : PyData} (h : x ∈ cutD xs lo hi) : x ∈ xs := List.mem_of_mem_drop (List.mem_of_mem_take h)
theorem dps_cut {H : Hp} {xs : List V} {ds : List PyData} {lo hi : Option Int} (h : DpAll K H xs ds) : DpAll K H (cutV xs lo hi) (cutD ds lo hi) := by
  unfold cutV cutD
  rw [dps_len h]
  exact dps_take _ (dps_drop _ h)
theorem sqT_put {H : Hp} {a c : Addr} {xs l : List V} {o : HO} (h : SqT K H a xs) (e : H c = some (.lst l)) : SqT K (upd H c o) a xs := by
  rcases h with (h | ⟨o2, h⟩) | h
  · have n : a ≠ c := fun z => by
      rw [z, e] at h
      cases h
    exact .inl (.inl (by rw [upd_ne n]; exact h))
  · have n : a ≠ c := fun z => by
      rw [z, e] at h
      cases h
    exact .inl (.inr ⟨o2, by rw [upd_ne n]; exact h⟩)
  · exact .inr h
theorem few_len {n : Nat} (h : n ≤ 100) : n ≤ sizeLine := Nat.le_trans h (by decide)
theorem _root_.L2.SqT.but {p a L : Addr} {m : Int} {H H' : Hp} {xs : List V} (h : SqT K H a xs) (hD : DiceAt H p L m) (b : But p H H') : SqT K H' a xs := by
  obtain ⟨x, n, r, cs, e, _⟩ := hD
  rcases h with (h | ⟨o, h⟩) | h
  · exact .inl (.inl (b _ _ (fun z => by rw [z, e] at h; cases h) h))
  · exact .inl (.inr ⟨o, b _ _ (fun z => by rw [z, e] at h; cases h) h⟩)
  · exact .inr h
theorem gd_tup0 {b n : Nat} : Gd b (n + 1) (.tuple []) := .tup (Nat.zero_le _) fun x hx => (List.not_mem_nil hx).elim
theorem gd_lst0 {b n : Nat} : Gd b (n + 1) (.list []) := .lst (Nat.zero_le _) fun x hx => (List.not_mem_nil hx).elim
theorem gd_tup1 {b n : Nat} {x : PyData} (l : 1 ≤ b) (hx : Gd b n x) : Gd b (n + 1) (.tuple [x]) := .tup l fun z hz => by
  rw [List.mem_singleton.mp hz]
  exact hx
theorem gd_tup2 {b n : Nat} {x y : PyData} (l : 2 ≤ b) (hx : Gd b n x) (hy : Gd b n y) : Gd b (n + 1) (.tuple [x, y]) := .tup l fun z hz => by
  rcases List.mem_cons.mp hz with rfl | hz
  · exact hx
  · rw [List.mem_singleton.mp hz]
    exact hy
theorem gd_lst2 {b n : Nat} {x y : PyData} (l : 2 ≤ b) (hx : Gd b n x) (hy : Gd b n y) : Gd b (n + 1) (.list [x, y]) := .lst l fun z hz => by
  rcases List.mem_cons.mp hz with rfl | hz
  · exact hx
  · rw [List.mem_singleton.mp hz]
    exact hy
def cs (n : Nat) : Int := 3 * ((n : Int) + 1)
def spSp (K : PySem.W.Frag) (k : Nat) : Sp := fun vs H Q _ => ∃ (p L : Addr) (U : List Addr) (v : V) (d : PyData) (b n : Nat) (m : Int), p ∈ U ∧ LS H U ∧ vs = [.ref p, v] ∧ Df K U H v d ∧ Gd b n d ∧ 3 ≤ b ∧ b ≤ 10 ∧ n + 1 ≤ k ∧ n ≤ 60 ∧ m + cs n < 2 ^ 50 ∧ DiceAt H p L m ∧
  ∀ v' d' H', Df K U H' v' d' → Gd (b + 1) (n + 3) d' → us d' ≤ us d + 500 → But p H H' → DiceAt H' p L (m + cs n) → Q v' H'
theorem gd_lst1 {b n : Nat} {x : PyData} (l : 1 ≤ b) (hx : Gd b n x) : Gd b (n + 1) (.list [x]) := .lst l fun z hz => by
  rw [List.mem_singleton.mp hz]
  exact hx
theorem gd_tup3 {b n : Nat} {x y z : PyData} (l : 3 ≤ b) (hx : Gd b n x) (hy : Gd b n y) (hz : Gd b n z) : Gd b (n + 1) (.tuple [x, y, z]) := .tup l fun u hu => by
  rcases List.mem_cons.mp hu with rfl | hu
  · exact hx
  rcases List.mem_cons.mp hu with rfl | hu
  · exact hy
  · rw [List.mem_singleton.mp hu]
    exact hz
theorem ok_sp {f fr fp : Addr} {fd dr dp : FuncData} {k : Nat} (F : Fun K "_law_spoilt" "_law_spoilt" sSpoilt f fd) (D : Draw P w K mg base fr fp dr dp) (T : Blt mg) (zl : mg "list" = none) (S : FnOk P w K mg base CX0 (2 + k) f fd ["dice", "thing"] (spSp K k)) (bS : Binds K fd ["dice", "thing"] []) (mS : mg "_law_spoilt" = some (.ref f)) :
    FnOk P w K mg base CX0 (2 + k + 1) f fd ["dice", "thing"] (spSp K (k + 1)) := by
  refine F.ok scSpoilt (fun vs H Q E h => ?_) (fun cdv A outer s H vs Q E hr h => ?_)
  · obtain ⟨p, L, U, v, d, b, n, m, _, _, rfl, _⟩ := h
    rfl
  obtain ⟨p, L, U, v, d, b, n, m, pS, lS, rfl, hd, gd, b2, b10, nk, n60, mc, hD, q⟩ := h
  have h1 : Room 1 _ := hr.mono (by omega)
  have h2 : Room 2 _ := hr.mono (by omega)
  refine ⟨_, pss_cons (ps_if (PW.pt (pw_and (pt_val (pe_callB call_isi (by rfl) T.zIs (by decide +kernel) (pa_cons (pv 1) (pa_cons (pe_bltn (v := .ty "tuple") (by rfl) T.zTuple (by decide +kernel) rfl) pa_nil)))) (pw_and (pt_cmpR op_eq (pe_callB call_len_seq (by rfl) T.zLen PySem.boot_len (pa_cons (pv 1) pa_nil)) pe_int (nomark _)) (pw_and1 (pt_cmpR op_gt (pe_call D.R h1 (by rfl) D.mR D.kR D.bR .nil pass0 (pa_cons (pv 0) (pa_cons pe_int pa_nil))) pe_int (nomark _))))))
      (pss_cons (ps_set (i := 2) scSpoilt.nd rfl (.inl rfl) (pe_op op_add pe_int (pe_call D.R h1 (by rfl) D.mR D.kR D.bR .nil pass0 (pa_cons (pv 0) (pa_cons pe_int pa_nil)))))
      (pss_one (ps_ret (pe_op op_catA (pe_op op_catA (pe_slice sl_tupA (pv 1) po_none (po_some (pv 2))) (pe_tup (pa_cons (pe_call S hr (by rfl) mS F.kp bS .nil pass0 (pa_cons (pv 0) (pa_cons (pe_ix ix_tup (pv 1) (pv 2) (fun _ _ => rfl)) pa_nil))) pa_nil)))
        (pe_slice sl_tupA (pv 1) (po_some (pe_op op_add (pv 2) pe_int)) po_none))))) pss_nil)
    (pss_cons (ps_set (i := 3) scSpoilt.nd rfl (.inl rfl) (pe_lst (pa_cons (pe_tup (pa_cons pe_str pa_nil)) (pa_cons pe_non (pa_cons (pe_tup pa_nil) (pa_cons (pe_lst pa_nil) (pa_cons pe_str (pa_cons (pe_tup (pa_cons pe_str (pa_cons pe_int pa_nil))) (pa_cons (pe_tup (pa_cons pe_str (pa_cons (pe_tup (pa_cons pe_str pa_nil)) pa_nil))) (pa_cons (pe_tup (pa_cons pe_str pa_nil)) (pa_cons (pe_tup (pa_cons pe_str pa_nil)) (pa_cons pe_bl (pa_cons pe_int pa_nil)))))))))))))
    (pss_cons (ps_set (i := 3) scSpoilt.nd rfl (.inl rfl) (pe_op op_cat (pv 3) (pe_lst (pa_cons (pe_tup (pa_cons pe_str pa_nil)) (pa_cons (pe_lst (pa_cons pe_str pa_nil)) (pa_cons (pe_tup (pa_cons pe_str pa_nil)) (pa_cons (pe_tup (pa_cons (pe_tup (pa_cons pe_str pa_nil)) pa_nil)) (pa_cons (pe_tup (pa_cons pe_str (pa_cons (pe_tup (pa_cons pe_str pa_nil)) (pa_cons (pe_tup (pa_cons pe_str pa_nil)) pa_nil)))) (pa_cons (pe_tup (pa_cons pe_int pa_nil)) (pa_cons (pe_tup (pa_cons pe_non pa_nil)) pa_nil))))))))))
    (pss_cons (ps_if (pt_val (pe_callB call_isi (by rfl) T.zIs (by decide +kernel) (pa_cons (pv 1) (pa_cons (pe_bltn (v := .ty "tuple") (by rfl) T.zTuple (by decide +kernel) rfl) pa_nil))))
      (pss_cons (ps_set (i := 3) scSpoilt.nd rfl (.inl rfl) (pe_op op_cat (pv 3) (pe_lst (pa_cons (pe_callTy call_list_of (by rfl) zl (by decide +kernel) (pa_cons (pv 1) pa_nil)) (pa_cons (pe_op op_catA (pv 1) (pe_tup (pa_cons (pe_tup (pa_cons pe_str pa_nil)) pa_nil))) (pa_cons (pe_slice sl_tupA (pv 1) po_none (po_some (pe_un un_neg pe_int))) (pa_cons (pe_op op_catA (pe_tup (pa_cons pe_str pa_nil)) (pe_slice sl_tupA (pv 1) (po_some pe_int) po_none)) (pa_cons (pe_op op_catA (pe_tup (pa_cons pe_str pa_nil)) (pe_slice sl_tupA (pv 1) (po_some pe_int) po_none)) pa_nil))))))))
      (pss_cons (ps_set (i := 3) scSpoilt.nd rfl (.inl rfl) (pe_op op_cat (pv 3) (pe_lst (pa_cons (pe_op op_catA (pe_tup (pa_cons (pe_lst (pa_cons pe_str pa_nil)) pa_nil)) (pe_slice sl_tupA (pv 1) (po_some pe_int) po_none)) (pa_cons (pe_op op_catA (pe_tup (pa_cons (pe_lst pa_nil) pa_nil)) (pe_slice sl_tupA (pv 1) (po_some pe_int) po_none)) (pa_cons (pe_op op_catA (pe_tup (pa_cons (pe_tup (pa_cons pe_str pa_nil)) pa_nil)) (pe_slice sl_tupA (pv 1) (po_some pe_int) po_none)) pa_nil))))))
      (pss_one (ps_set (i := 3) scSpoilt.nd rfl (.inl rfl) (pe_op op_cat (pv 3) (pe_lst (pa_cons (pe_op op_catA (pe_tup (pa_cons pe_str pa_nil)) (pe_slice sl_tupA (pv 1) (po_some pe_int) po_none)) (pa_cons (pe_op op_catA (pe_tup (pa_cons pe_str pa_nil)) (pe_slice sl_tupA (pv 1) (po_some pe_int) po_none)) (pa_cons (pe_op op_catA (pe_tup (pa_cons pe_str pa_nil)) (pe_slice sl_tupA (pv 1) (po_some pe_int) po_none)) pa_nil))))))))) pss_nil)
    (pss_one (ps_ret (pe_call D.Pk h2 (by rfl) D.mP D.kP D.bP .nil pass0 (pa_cons (pv 0) (pa_cons (pv 3) pa_nil)))))))), ?_⟩
  refine ⟨_, rfl, _, _, _, _, isTu d, rfl, .ty "tuple", dp_ty hd.dp, kit_tu d, _, rfl, ?_⟩
  have n1_ : (cs n : Int) = 3 * ((n : Int) + 1) := rfl
  apply join (C := fun X => ∃ mm, But p H X ∧ DiceAt X p L mm ∧ mm ≤ m + 1)
  · intro rest
    cases ht : isTu d with
    | true =>
      obtain ⟨ds, ed⟩ : ∃ ds, d = .tuple ds := by
        cases d with
        | tuple ds => exact ⟨ds, rfl⟩
        | _ => cases ht
      obtain ⟨a, xs, ev, hs0, ha0⟩ : ∃ a xs, v = .ref a ∧ SqT K (del H U) a xs ∧ DpAll K (del H U) xs ds := by
        have hd2 : Dp K (del H U) v d := hd
        rw [ed] at hd2
        cases hd2 with
        | tup h1 h2 => exact ⟨_, _, rfl, h1, h2⟩
      have gd : Gd b n (.tuple ds) := by
        rw [ed] at gd
        exact gd
      have hs : SqT K H a xs := sqT_up del_same hs0
      obtain ⟨n', en, len, all⟩ := gd.untup
      have hl := dps_len ha0
      refine iteT ⟨_, rfl, a, xs, (by rw [ev]), .inr hs, rfl, _, rfl, ?_⟩
      refine ite2 (fun c3 => ?_) (fun c3 => iteF (rest H ⟨m, But.refl p H, hD, by omega⟩))
      · have l3 : xs.length = 3 := by
          have z := of_decide_eq_true c3
          injection z with z
          omega
        refine ⟨_, rfl, p, L, 4, m, rfl, by decide, by decide, by omega, hD, fun r H1 r0 r3 b1 hD1 => ⟨_, _, rfl, rfl, _, rfl, ?_⟩⟩
        have b01 : But p H H1 := b1
        refine ite2 (fun c => ?_) (fun c => rest H1 ⟨_, b01, hD1, Int.le_refl _⟩)
        refine ⟨_, rfl, p, L, 2, m + 1, rfl, by decide, by decide, by omega, hD1, fun kI H3 k0 k1 b3 hD3 => ⟨_, _, rfl, rfl, ?_⟩⟩
        have bb : But p H H3 := b01.trans b3
        obtain ⟨kz, rfl⟩ := Int.eq_ofNat_of_zero_le k0
        obtain ⟨kn, ekn⟩ : ∃ kn : Nat, kn = kz + 1 := ⟨_, rfl⟩
        have ek : (1 + (kz : Int)) = (kn : Int) := by omega
        have lt : kn < xs.length := by omega
        have gx : xs[kn]? = some xs[kn] := List.getElem?_eq_getElem lt
        obtain ⟨dx, edx, hdx⟩ := dps_get ha0 gx
        have gdx := all dx (List.mem_of_getElem? edx)
        refine ⟨_, rfl, _, rfl, 1 + (kz : Int), rfl, sl_out ev (hs.but hD bb) fun c1 X1 s1 t1 => ?_⟩
        have hX1 := hD3.same s1
        have bX1 : But p H X1 := bb.trans (but_same s1)
        rw [ek, cut_to] at t1
        refine ⟨_, rfl, _, rfl, _, rfl, a, xs, 1 + (kz : Int), _, ev, rfl, hs.but hD bX1, (by rw [ek]; exact atI_nat gx), p, L, U, _, dx, b, n', m + 1 + 1, pS, lS.but bX1 hX1, rfl, Df.but pS bX1 hdx, gdx, b2, b10, by omega, by omega, by have z : (cs n' : Int) = 3 * ((n' : Int) + 1) := rfl; omega, hX1, fun v' d' H4 hd' gd' ud' b4 hD4 => ?_⟩
        refine ⟨(by show 1 ≤ sizeLine; decide), fun tq nq => ?_⟩
        have s5 := same_new (o := .tup [v']) nq
        have hD5 := hD4.same s5
        have bX5 : But p H (upd H4 tq (.tup [v'])) := (bX1.trans b4).trans (but_same s5)
        have t5 : SqT K (upd H4 tq (.tup [v'])) c1 (xs.take kn) := sqT_up s5 (t1.but hX1 b4)
        have e5 : SqT K (upd H4 tq (.tup [v'])) tq [v'] := .inl (.inl upd_same)
        have d5 := hd'.same s5
        generalize upd H4 tq (.tup [v']) = X5 at s5 hD5 bX5 t5 e5 d5
        refine cat_out t5 e5 (few_len (by rw [List.length_take, List.length_singleton]; omega)) fun c2 X6 s6 t6 => ?_
        refine ⟨_, rfl, _, rfl, _, _, rfl, rfl, _, rfl, ?_⟩
        dsimp only [tNoPart]
        refine sl_out (lo := some (1 + (kz : Int) + 1)) (hi := none) ev (hs.but hD (bX5.trans (but_same s6))) fun c3 X7 s7 t7 => ?_
        have t7 : SqT K X7 c3 (cutV xs (some (1 + (kz : Int) + 1)) none) := t7
        rw [show (1 + (kz : Int) + 1) = ((kn + 1 : Nat) : Int) by omega, cut_from] at t7
        refine cat_out (sqT_up s7 t6) t7 (few_len (by rw [List.length_append, List.length_take, List.length_drop, List.length_singleton]; omega)) fun c4 X8 s8 t8 => ?_
        have s58 := s6.trans (s7.trans s8)
        have hD8 := hD5.same s58
        have b8 := bX5.trans (but_same s58)
        refine q _ (.tuple ((ds.take kn ++ [d']) ++ ds.drop (kn + 1))) _ (df_tup (lS.but b8 hD8) t8 (dps_app (dps_app (dps_take kn (DfAll.but pS b8 ha0)) (.cons (d5.same s58) .nil)) (dps_drop (kn + 1) (DfAll.but pS b8 ha0)))) (.tup ?_ (fun x hx => ?_)) ?_ b8 (hD8.more (by have z : (cs n' : Int) = 3 * ((n' : Int) + 1) := rfl; omega))
        · rw [List.length_append, List.length_append, List.length_take, List.length_drop, List.length_singleton]
          omega
        · rcases List.mem_append.mp hx with hx | hx
          · rcases List.mem_append.mp hx with hx | hx
            · exact (all x (List.mem_of_mem_take hx)).mono (by omega) (by omega)
            · rw [List.mem_singleton.mp hx]
              exact gd'.mono (Nat.le_refl _) (by omega)
          · exact (all x (List.mem_of_mem_drop hx)).mono (by omega) (by omega)
        · have z := us_path edx d'
          rw [ed]
          omega
    | false => exact iteF (iteF (rest H ⟨m, But.refl p H, hD, by omega⟩))
  · rintro X0 ⟨mm, bX0, hD0, lm⟩
    have lL0 := lS.but bX0 hD0
    refine ⟨(by show 1 ≤ sizeLine; decide), fun q1 n1 => ?_⟩
    have s1 := same_new (o := .tup [.str "none"]) n1
    have e1 : upd X0 q1 (.tup [.str "none"]) q1 = _ := upd_same
    have hD1 := hD0.same s1
    have ne1 := hD0.ne n1
    have lL1 := LS.same lL0 s1
    generalize upd X0 q1 (.tup [.str "none"]) = X1 at s1 e1 hD1 lL1
    refine ⟨(by show 0 ≤ sizeLine; decide), fun q2 n2 => ?_⟩
    have s2 := same_new (o := .tup []) n2
    have e2 : upd X1 q2 (.tup []) q2 = _ := upd_same
    have hD2 := hD1.same s2
    have ne2 := hD1.ne n2
    have lL2 := LS.same lL1 s2
    generalize upd X1 q2 (.tup []) = X2 at s2 e2 hD2 lL2
    refine ⟨(by show 0 ≤ sizeLine; decide), fun q3 n3 => ?_⟩
    have s3 := same_new (o := .lst []) n3
    have e3 : upd X2 q3 (.lst []) q3 = _ := upd_same
    have hD3 := hD2.same s3
    have ne3 := hD2.ne n3
    have lL3 := LS.same lL2 s3
    generalize upd X2 q3 (.lst []) = X3 at s3 e3 hD3 lL3
    refine ⟨(by show 2 ≤ sizeLine; decide), fun q4 n4 => ?_⟩
    have s4 := same_new (o := .tup [.str "number", .int 1]) n4
    have e4 : upd X3 q4 (.tup [.str "number", .int 1]) q4 = _ := upd_same
    have hD4 := hD3.same s4
    have ne4 := hD3.ne n4
    have lL4 := LS.same lL3 s4
    generalize upd X3 q4 (.tup [.str "number", .int 1]) = X4 at s4 e4 hD4 lL4
    refine ⟨(by show 1 ≤ sizeLine; decide), fun q5 n5 => ?_⟩
    have s5 := same_new (o := .tup [.str "number"]) n5
    have e5 : upd X4 q5 (.tup [.str "number"]) q5 = _ := upd_same
    have hD5 := hD4.same s5
    have ne5 := hD4.ne n5
    have lL5 := LS.same lL4 s5
    generalize upd X4 q5 (.tup [.str "number"]) = X5 at s5 e5 hD5 lL5
    refine ⟨(by show 2 ≤ sizeLine; decide), fun q6 n6 => ?_⟩
    have s6 := same_new (o := .tup [.str "pair", .ref q5]) n6
    have e6 : upd X5 q6 (.tup [.str "pair", .ref q5]) q6 = _ := upd_same
    have hD6 := hD5.same s6
    have ne6 := hD5.ne n6
    have lL6 := LS.same lL5 s6
    generalize upd X5 q6 (.tup [.str "pair", .ref q5]) = X6 at s6 e6 hD6 lL6
    refine ⟨(by show 1 ≤ sizeLine; decide), fun q7 n7 => ?_⟩
    have s7 := same_new (o := .tup [.str "either"]) n7
    have e7 : upd X6 q7 (.tup [.str "either"]) q7 = _ := upd_same
    have hD7 := hD6.same s7
    have ne7 := hD6.ne n7
    have lL7 := LS.same lL6 s7
    generalize upd X6 q7 (.tup [.str "either"]) = X7 at s7 e7 hD7 lL7
    refine ⟨(by show 1 ≤ sizeLine; decide), fun q8 n8 => ?_⟩
    have s8 := same_new (o := .tup [.str "None"]) n8
    have e8 : upd X7 q8 (.tup [.str "None"]) q8 = _ := upd_same
    have hD8 := hD7.same s8
    have ne8 := hD7.ne n8
    have lL8 := LS.same lL7 s8
    generalize upd X7 q8 (.tup [.str "None"]) = X8 at s8 e8 hD8 lL8
    refine ⟨(by show 11 ≤ sizeLine; decide), fun l1 n9 => ?_⟩
    have s9 := same_new (o := .lst [.ref q1, .non, .ref q2, .ref q3, .str "number", .ref q4, .ref q6, .ref q7, .ref q8, .bl true, .int 7]) n9
    have e9 : upd X8 l1 (.lst [.ref q1, .non, .ref q2, .ref q3, .str "number", .ref q4, .ref q6, .ref q7, .ref q8, .bl true, .int 7]) l1 = _ := upd_same
    have hD9 := hD8.same s9
    have ne9 := hD8.ne n9
    have lL9 := LS.same lL8 s9
    generalize upd X8 l1 (.lst [.ref q1, .non, .ref q2, .ref q3, .str "number", .ref q4, .ref q6, .ref q7, .ref q8, .bl true, .int 7]) = X9 at s9 e9 hD9 lL9
    refine ⟨_, rfl, (by show 1 ≤ sizeLine; decide), fun q9 n10 => ?_⟩
    have s10 := same_new (o := .tup [.str "number"]) n10
    have e10 : upd X9 q9 (.tup [.str "number"]) q9 = _ := upd_same
    have hD10 := hD9.same s10
    have ne10 := hD9.ne n10
    have lL10 := LS.same lL9 s10
    generalize upd X9 q9 (.tup [.str "number"]) = X10 at s10 e10 hD10 lL10
    refine ⟨(by show 1 ≤ sizeLine; decide), fun q10 n11 => ?_⟩
    have s11 := same_new (o := .lst [.str "number"]) n11
    have e11 : upd X10 q10 (.lst [.str "number"]) q10 = _ := upd_same
    have hD11 := hD10.same s11
    have ne11 := hD10.ne n11
    have lL11 := LS.same lL10 s11
    generalize upd X10 q10 (.lst [.str "number"]) = X11 at s11 e11 hD11 lL11
    refine ⟨(by show 1 ≤ sizeLine; decide), fun q11 n12 => ?_⟩
    have s12 := same_new (o := .tup [.str "num"]) n12
    have e12 : upd X11 q11 (.tup [.str "num"]) q11 = _ := upd_same
    have hD12 := hD11.same s12
    have ne12 := hD11.ne n12
    have lL12 := LS.same lL11 s12
    generalize upd X11 q11 (.tup [.str "num"]) = X12 at s12 e12 hD12 lL12
    refine ⟨(by show 1 ≤ sizeLine; decide), fun q12 n13 => ?_⟩
    have s13 := same_new (o := .tup [.str "number"]) n13
    have e13 : upd X12 q12 (.tup [.str "number"]) q12 = _ := upd_same
    have hD13 := hD12.same s13
    have ne13 := hD12.ne n13
    have lL13 := LS.same lL12 s13
    generalize upd X12 q12 (.tup [.str "number"]) = X13 at s13 e13 hD13 lL13
    refine ⟨(by show 1 ≤ sizeLine; decide), fun q13 n14 => ?_⟩
    have s14 := same_new (o := .tup [.ref q12]) n14
    have e14 : upd X13 q13 (.tup [.ref q12]) q13 = _ := upd_same
    have hD14 := hD13.same s14
    have ne14 := hD13.ne n14
    have lL14 := LS.same lL13 s14
    generalize upd X13 q13 (.tup [.ref q12]) = X14 at s14 e14 hD14 lL14
    refine ⟨(by show 1 ≤ sizeLine; decide), fun q14 n15 => ?_⟩
    have s15 := same_new (o := .tup [.str "number"]) n15
    have e15 : upd X14 q14 (.tup [.str "number"]) q14 = _ := upd_same
    have hD15 := hD14.same s15
    have ne15 := hD14.ne n15
    have lL15 := LS.same lL14 s15
    generalize upd X14 q14 (.tup [.str "number"]) = X15 at s15 e15 hD15 lL15
    refine ⟨(by show 1 ≤ sizeLine; decide), fun q15 n16 => ?_⟩
    have s16 := same_new (o := .tup [.str "none"]) n16
    have e16 : upd X15 q15 (.tup [.str "none"]) q15 = _ := upd_same
    have hD16 := hD15.same s16
    have ne16 := hD15.ne n16
    have lL16 := LS.same lL15 s16
    generalize upd X15 q15 (.tup [.str "none"]) = X16 at s16 e16 hD16 lL16
    refine ⟨(by show 3 ≤ sizeLine; decide), fun q16 n17 => ?_⟩
    have s17 := same_new (o := .tup [.str "from", .ref q14, .ref q15]) n17
    have e17 : upd X16 q16 (.tup [.str "from", .ref q14, .ref q15]) q16 = _ := upd_same
    have hD17 := hD16.same s17
    have ne17 := hD16.ne n17
    have lL17 := LS.same lL16 s17
    generalize upd X16 q16 (.tup [.str "from", .ref q14, .ref q15]) = X17 at s17 e17 hD17 lL17
    refine ⟨(by show 1 ≤ sizeLine; decide), fun q17 n18 => ?_⟩
    have s18 := same_new (o := .tup [.int 7]) n18
    have e18 : upd X17 q17 (.tup [.int 7]) q17 = _ := upd_same
    have hD18 := hD17.same s18
    have ne18 := hD17.ne n18
    have lL18 := LS.same lL17 s18
    generalize upd X17 q17 (.tup [.int 7]) = X18 at s18 e18 hD18 lL18
    refine ⟨(by show 1 ≤ sizeLine; decide), fun q18 n19 => ?_⟩
    have s19 := same_new (o := .tup [.non]) n19
    have e19 : upd X18 q18 (.tup [.non]) q18 = _ := upd_same
    have hD19 := hD18.same s19
    have ne19 := hD18.ne n19
    have lL19 := LS.same lL18 s19
    generalize upd X18 q18 (.tup [.non]) = X19 at s19 e19 hD19 lL19
    refine ⟨(by show 7 ≤ sizeLine; decide), fun l2 n20 => ?_⟩
    have s20 := same_new (o := .lst [.ref q9, .ref q10, .ref q11, .ref q13, .ref q16, .ref q17, .ref q18]) n20
    have e20 : upd X19 l2 (.lst [.ref q9, .ref q10, .ref q11, .ref q13, .ref q16, .ref q17, .ref q18]) l2 = _ := upd_same
    have hD20 := hD19.same s20
    have ne20 := hD19.ne n20
    have lL20 := LS.same lL19 s20
    generalize upd X19 l2 (.lst [.ref q9, .ref q10, .ref q11, .ref q13, .ref q16, .ref q17, .ref q18]) = X20 at s20 e20 hD20 lL20
    have c19 : Same X19 X20 := s20
    have c18 : Same X18 X20 := s19.trans c19
    have c17 : Same X17 X20 := s18.trans c18
    have c16 : Same X16 X20 := s17.trans c17
    have c15 : Same X15 X20 := s16.trans c16
    have c14 : Same X14 X20 := s15.trans c15
    have c13 : Same X13 X20 := s14.trans c14
    have c12 : Same X12 X20 := s13.trans c13
    have c11 : Same X11 X20 := s12.trans c12
    have c10 : Same X10 X20 := s11.trans c11
    have c9 : Same X9 X20 := s10.trans c10
    have c8 : Same X8 X20 := s9.trans c9
    have c7 : Same X7 X20 := s8.trans c8
    have c6 : Same X6 X20 := s7.trans c7
    have c5 : Same X5 X20 := s6.trans c6
    have c4 : Same X4 X20 := s5.trans c5
    have c3 : Same X3 X20 := s4.trans c4
    have c2 : Same X2 X20 := s3.trans c3
    have c1 : Same X1 X20 := s2.trans c2
    have c0 : Same X0 X20 := s1.trans c1
    have i1 : Its K U X20 (b + 1) (n + 3) (us d + 500) [.ref q1, .non, .ref q2, .ref q3, .str "number", .ref q4, .ref q6, .ref q7, .ref q8, .bl true, .int 7] := (.cons (Df.same c1 (df_tup lL1 (.inl (.inl e1)) (.cons (.str "none") .nil))) (gd_tup1 (b := b + 1) (n := n + 2) (by omega) (Gd.atm (d := .str "none") (by show NmOk _ ∧ _ ≤ 8; decide +kernel) _)) (us_c (by decide +kernel)) (.cons .non (Gd.atm (d := .none) trivial _) (us_c (by decide +kernel)) (.cons (Df.same c2 (df_tup lL2 (.inl (.inl e2)) .nil)) (gd_tup0 (b := b + 1) (n := n + 2)) (us_c (by decide +kernel)) (.cons (Df.same c3 (df_lst (LS.nin lL2 n3) e3 .nil)) (gd_lst0 (b := b + 1) (n := n + 2)) (us_c (by decide +kernel)) (.cons (.str "number") (Gd.atm (d := .str "number") (by show NmOk _ ∧ _ ≤ 8; decide +kernel) _) (us_c (by decide +kernel)) (.cons (Df.same c4 (df_tup lL4 (.inl (.inl e4)) (.cons (.str "number") (.cons (.int 1) .nil)))) (gd_tup2 (b := b + 1) (n := n + 2) (by omega) (Gd.atm (d := .str "number") (by show NmOk _ ∧ _ ≤ 8; decide +kernel) _) (Gd.atm (d := .int 1) (by show (1 : Int).natAbs < 10 ^ 62; decide) _)) (us_c (by decide +kernel)) (.cons (Df.same c6 (df_tup lL6 (.inl (.inl e6)) (.cons (.str "pair") (.cons (Df.same s6 (df_tup lL5 (.inl (.inl e5)) (.cons (.str "number") .nil))) .nil)))) (gd_tup2 (b := b + 1) (n := n + 2) (by omega) (Gd.atm (d := .str "pair") (by show NmOk _ ∧ _ ≤ 8; decide +kernel) _) (gd_tup1 (b := b + 1) (n := n + 1) (by omega) (Gd.atm (d := .str "number") (by show NmOk _ ∧ _ ≤ 8; decide +kernel) _))) (us_c (by decide +kernel)) (.cons (Df.same c7 (df_tup lL7 (.inl (.inl e7)) (.cons (.str "either") .nil))) (gd_tup1 (b := b + 1) (n := n + 2) (by omega) (Gd.atm (d := .str "either") (by show NmOk _ ∧ _ ≤ 8; decide +kernel) _)) (us_c (by decide +kernel)) (.cons (Df.same c8 (df_tup lL8 (.inl (.inl e8)) (.cons (.str "None") .nil))) (gd_tup1 (b := b + 1) (n := n + 2) (by omega) (Gd.atm (d := .str "None") (by show NmOk _ ∧ _ ≤ 8; decide +kernel) _)) (us_c (by decide +kernel)) (.cons (.bl true) (Gd.atm (d := .bool true) trivial _) (us_c (by decide +kernel)) (.cons (.int 7) (Gd.atm (d := .int 7) (by show (7 : Int).natAbs < 10 ^ 62; decide) _) (us_c (by decide +kernel)) Its.nil)))))))))))
    have i2 : Its K U X20 (b + 1) (n + 3) (us d + 500) [.ref q9, .ref q10, .ref q11, .ref q13, .ref q16, .ref q17, .ref q18] := (.cons (Df.same c10 (df_tup lL10 (.inl (.inl e10)) (.cons (.str "number") .nil))) (gd_tup1 (b := b + 1) (n := n + 2) (by omega) (Gd.atm (d := .str "number") (by show NmOk _ ∧ _ ≤ 8; decide +kernel) _)) (us_c (by decide +kernel)) (.cons (Df.same c11 (df_lst (LS.nin lL10 n11) e11 (.cons (.str "number") .nil))) (gd_lst1 (b := b + 1) (n := n + 2) (by omega) (Gd.atm (d := .str "number") (by show NmOk _ ∧ _ ≤ 8; decide +kernel) _)) (us_c (by decide +kernel)) (.cons (Df.same c12 (df_tup lL12 (.inl (.inl e12)) (.cons (.str "num") .nil))) (gd_tup1 (b := b + 1) (n := n + 2) (by omega) (Gd.atm (d := .str "num") (by show NmOk _ ∧ _ ≤ 8; decide +kernel) _)) (us_c (by decide +kernel)) (.cons (Df.same c14 (df_tup lL14 (.inl (.inl e14)) (.cons (Df.same s14 (df_tup lL13 (.inl (.inl e13)) (.cons (.str "number") .nil))) .nil))) (gd_tup1 (b := b + 1) (n := n + 2) (by omega) (gd_tup1 (b := b + 1) (n := n + 1) (by omega) (Gd.atm (d := .str "number") (by show NmOk _ ∧ _ ≤ 8; decide +kernel) _))) (us_c (by decide +kernel)) (.cons (Df.same c17 (df_tup lL17 (.inl (.inl e17)) (.cons (.str "from") (.cons (Df.same s17 (Df.same s16 (df_tup lL15 (.inl (.inl e15)) (.cons (.str "number") .nil)))) (.cons (Df.same s17 (df_tup lL16 (.inl (.inl e16)) (.cons (.str "none") .nil))) .nil))))) (gd_tup3 (b := b + 1) (n := n + 2) (by omega) (Gd.atm (d := .str "from") (by show NmOk _ ∧ _ ≤ 8; decide +kernel) _) (gd_tup1 (b := b + 1) (n := n + 1) (by omega) (Gd.atm (d := .str "number") (by show NmOk _ ∧ _ ≤ 8; decide +kernel) _)) (gd_tup1 (b := b + 1) (n := n + 1) (by omega) (Gd.atm (d := .str "none") (by show NmOk _ ∧ _ ≤ 8; decide +kernel) _))) (us_c (by decide +kernel)) (.cons (Df.same c18 (df_tup lL18 (.inl (.inl e18)) (.cons (.int 7) .nil))) (gd_tup1 (b := b + 1) (n := n + 2) (by omega) (Gd.atm (d := .int 7) (by show (7 : Int).natAbs < 10 ^ 62; decide) _)) (us_c (by decide +kernel)) (.cons (Df.same c19 (df_tup lL19 (.inl (.inl e19)) (.cons .non .nil))) (gd_tup1 (b := b + 1) (n := n + 2) (by omega) (Gd.atm (d := .none) trivial _)) (us_c (by decide +kernel)) Its.nil)))))))
    refine ⟨l1, l2, _, _, rfl, rfl, c9 _ _ e9, e20, (by show 11 + 7 ≤ sizeLine; decide), fun l3 nz => ?_⟩
    have iA := i1.app i2
    generalize hxs : ([.ref q1, .non, .ref q2, .ref q3, .str "number", .ref q4, .ref q6, .ref q7, .ref q8, .bl true, .int 7] ++ [.ref q9, .ref q10, .ref q11, .ref q13, .ref q16, .ref q17, .ref q18] : List V) = ls at iA
    have sz := same_new (o := .lst ls) nz
    have ez : upd X20 l3 (.lst ls) l3 = _ := upd_same
    have hDz := hD20.same sz
    have nez := hD20.ne nz
    have iB := iA.but pS (but_same sz)
    have bY : But p H (upd X20 l3 (.lst ls)) := bX0.trans (but_same (c0.trans sz))
    have ll : ls.length = 18 := by rw [← hxs]; rfl
    generalize upd X20 l3 (.lst ls) = Y at sz ez hDz iB bY
    have hdY : Df K U Y v d := hd.but pS bY
    refine ⟨_, rfl, _, _, _, _, isTu d, rfl, .ty "tuple", dp_ty hdY.dp, kit_tu d, _, rfl, ?_⟩
    apply joinS (C := fun σ Z => ∃ (l : Addr) (xs : List V), σ = [some (.ref p), some v, none, some (.ref l)] ∧ Z l = some (.lst xs) ∧ l ≠ p ∧ Its K U Z (b + 1) (n + 3) (us d + 500) xs ∧ 0 < xs.length ∧ xs.length ≤ 100 ∧ But p H Z ∧ DiceAt Z p L mm)
    · intro rest
      cases ht : isTu d with
      | false => exact iteF (rest _ _ ⟨l3, ls, rfl, ez, nez, iB, by omega, by omega, bY, hDz⟩)
      | true =>
        obtain ⟨ds, ed⟩ : ∃ ds, d = .tuple ds := by
          cases d with
          | tuple ds => exact ⟨ds, rfl⟩
          | _ => cases ht
        obtain ⟨a, xs, ev, hs0, ha0⟩ : ∃ a xs, v = .ref a ∧ SqT K (del H U) a xs ∧ DpAll K (del H U) xs ds := by
          have hd2 : Dp K (del H U) v d := hd
          rw [ed] at hd2
          cases hd2 with
          | tup h1 h2 => exact ⟨_, _, rfl, h1, h2⟩
        have gd : Gd b n (.tuple ds) := by
          rw [ed] at gd
          exact gd
        have hs : SqT K H a xs := sqT_up del_same hs0
        obtain ⟨n', en, len, all⟩ := gd.untup
        have hl := dps_len ha0
        have all2 : ∀ x ∈ ds, Gd (b + 1) (n + 2) x := fun x hx => (all x hx).mono (by omega) (by omega)
        have at_ : ∀ {Z : Hp}, But p H Z → SqT K Z a xs := fun c => hs.but hD c
        have ds_ : ∀ {Z : Hp}, But p H Z → DfAll K U Z xs ds := fun c => DfAll.but pS c ha0
        refine iteT ⟨_, rfl, _, rfl, a, xs, (by rw [ev]), .inr (at_ bY), fun w1 z1 => ?_⟩
        have t1 := same_new (o := .lst xs) z1
        have f1 : upd Y w1 (.lst xs) w1 = _ := upd_same
        have D1 := hDz.same t1
        have nw1 := (lS.but bY hDz).nin z1
        have np1 := hDz.ne z1
        have b1_ : But p H (upd Y w1 (.lst xs)) := bY.trans (but_same t1)
        generalize upd Y w1 (.lst xs) = Y1 at t1 f1 D1 b1_
        have J1 : Df K U Y1 (.ref w1) (.list ds) := df_lst nw1 f1 (ds_ b1_)
        refine ⟨_, rfl, (by show 1 ≤ sizeLine; decide), fun w2 z2 => ?_⟩
        have t2 := same_new (o := .tup [.str "number"]) z2
        have f2 : upd Y1 w2 (.tup [.str "number"]) w2 = _ := upd_same
        have D2 := D1.same t2
        have nw2 := (lS.but b1_ D1).nin z2
        have np2 := D1.ne z2
        have b2_ : But p H (upd Y1 w2 (.tup [.str "number"])) := b1_.trans (but_same t2)
        generalize upd Y1 w2 (.tup [.str "number"]) = Y2 at t2 f2 D2 b2_
        refine ⟨(by show 1 ≤ sizeLine; decide), fun w3 z3 => ?_⟩
        have t3 := same_new (o := .tup [.ref w2]) z3
        have f3 : upd Y2 w3 (.tup [.ref w2]) w3 = _ := upd_same
        have D3 := D2.same t3
        have nw3 := (lS.but b2_ D2).nin z3
        have np3 := D2.ne z3
        have b3_ : But p H (upd Y2 w3 (.tup [.ref w2])) := b2_.trans (but_same t3)
        generalize upd Y2 w3 (.tup [.ref w2]) = Y3 at t3 f3 D3 b3_
        rw [ev]
        refine cat_out (at_ b3_) (.inl (.inl f3)) (few_len (by rw [List.length_singleton]; omega)) fun w4 Y4 t4 u4 => ?_
        have D4 := D3.same t4
        have b4_ := b3_.trans (but_same t4)
        have J4 : Df K U Y4 (.ref w4) (.tuple (ds ++ [.tuple [.str "number"]])) := df_tup (lS.but b4_ D4) u4 (dps_app (ds_ b4_) (.cons (Df.same (t3.trans t4) (df_tup (lS.but b2_ D2) (.inl (.inl f2)) (.cons (.str "number") .nil))) .nil))
        refine ⟨_, rfl, ?_⟩
        dsimp only [tNoPart]
        refine ⟨1, rfl, -1, rfl, ?_⟩
        refine sl_out (lo := none) (hi := some (-1)) rfl (at_ b4_) fun w5 Y5 t5 u5 => ?_
        have D5 := D4.same t5
        have b5_ := b4_.trans (but_same t5)
        have J5 : Df K U Y5 (.ref w5) (.tuple (cutD ds none (some (-1)))) := df_tup (lS.but b5_ D5) u5 (dps_cut (ds_ b5_))
        have nl : ∀ z : PyData, ([z] ++ cutD ds (some 1) none).length ≤ b + 1 := fun z => by
          have z2 := cutD_len ds (some 1) none
          rw [List.length_append, List.length_singleton]
          omega
        have ns : ∀ z : PyData, Gd (b + 1) (n + 2) z → ∀ x ∈ [z] ++ cutD ds (some 1) none, Gd (b + 1) (n + 2) x := fun z hz x hx => by
          rcases List.mem_append.mp hx with hx | hx
          · rw [List.mem_singleton.mp hx]
            exact hz
          · exact all2 x (cutD_mem hx)
        have lc := cutV_length xs (some 1) none
        refine ⟨(by show 1 ≤ sizeLine; decide), fun h6 z6 => ?_⟩
        have t6 := same_new (o := .tup [.str "or"]) z6
        have f6 : upd Y5 h6 (.tup [.str "or"]) h6 = _ := upd_same
        have D6 := D5.same t6
        have nw6 := (lS.but b5_ D5).nin z6
        have np6 := D5.ne z6
        have b6_ : But p H (upd Y5 h6 (.tup [.str "or"])) := b5_.trans (but_same t6)
        generalize upd Y5 h6 (.tup [.str "or"]) = Y6 at t6 f6 D6 b6_
        refine ⟨_, rfl, 1, rfl, ?_⟩
        dsimp only [tNoPart]
        refine sl_out (lo := some 1) (hi := none) rfl (at_ b6_) fun h7 Y7 t7 u7 => ?_
        have D7 := D6.same t7
        have b7_ := b6_.trans (but_same t7)
        refine cat_out (.inl (.inl (t7 _ _ f6))) u7 (few_len (by rw [List.length_singleton]; omega)) fun h8 Y8 t8 u8 => ?_
        have D8 := D7.same t8
        have b8_ := b7_.trans (but_same t8)
        have J8 : Df K U Y8 (.ref h8) (.tuple ([(PyData.str "or")] ++ cutD ds (some 1) none)) := df_tup (lS.but b8_ D8) u8 (dps_app (.cons (.str "or") .nil) (dps_cut (ds_ b8_)))
        refine ⟨(by show 1 ≤ sizeLine; decide), fun h9 z9 => ?_⟩
        have t9 := same_new (o := .tup [.str "either"]) z9
        have f9 : upd Y8 h9 (.tup [.str "either"]) h9 = _ := upd_same
        have D9 := D8.same t9
        have nw9 := (lS.but b8_ D8).nin z9
        have np9 := D8.ne z9
        have b9_ : But p H (upd Y8 h9 (.tup [.str "either"])) := b8_.trans (but_same t9)
        generalize upd Y8 h9 (.tup [.str "either"]) = Y9 at t9 f9 D9 b9_
        refine ⟨_, rfl, 1, rfl, ?_⟩
        dsimp only [tNoPart]
        refine sl_out (lo := some 1) (hi := none) rfl (at_ b9_) fun h10 Y10 t10 u10 => ?_
        have D10 := D9.same t10
        have b10_ := b9_.trans (but_same t10)
        refine cat_out (.inl (.inl (t10 _ _ f9))) u10 (few_len (by rw [List.length_singleton]; omega)) fun h11 Y11 t11 u11 => ?_
        have D11 := D10.same t11
        have b11_ := b10_.trans (but_same t11)
        have J11 : Df K U Y11 (.ref h11) (.tuple ([(PyData.str "either")] ++ cutD ds (some 1) none)) := df_tup (lS.but b11_ D11) u11 (dps_app (.cons (.str "either") .nil) (dps_cut (ds_ b11_)))
        refine ⟨(by show 5 ≤ sizeLine; decide), fun g12 z12 => ?_⟩
        have t12 := same_new (o := .lst [V.ref w1, V.ref w4, V.ref w5, V.ref h8, V.ref h11]) z12
        have f12 : upd Y11 g12 (.lst [V.ref w1, V.ref w4, V.ref w5, V.ref h8, V.ref h11]) g12 = _ := upd_same
        have D12 := D11.same t12
        have nw12 := (lS.but b11_ D11).nin z12
        have np12 := D11.ne z12
        have b12_ : But p H (upd Y11 g12 (.lst [V.ref w1, V.ref w4, V.ref w5, V.ref h8, V.ref h11])) := b11_.trans (but_same t12)
        generalize upd Y11 g12 (.lst [V.ref w1, V.ref w4, V.ref w5, V.ref h8, V.ref h11]) = Y12 at t12 f12 D12 b12_
        have k12 : Its K U Y12 (b + 1) (n + 3) (us d + 500) [V.ref w1, V.ref w4, V.ref w5, V.ref h8, V.ref h11] := (.cons (J1.same (t2.trans (t3.trans (t4.trans (t5.trans (t6.trans (t7.trans (t8.trans (t9.trans (t10.trans (t11.trans t12))))))))))) (.lst (by omega) all2) (by rw [ed]; exact us_l ds) (.cons (J4.same (t5.trans (t6.trans (t7.trans (t8.trans (t9.trans (t10.trans (t11.trans t12)))))))) (.tup (by rw [List.length_append, List.length_singleton]; omega) (fun x hx => by
            rcases List.mem_append.mp hx with hx | hx
            · exact all2 x hx
            · rw [List.mem_singleton.mp hx]
              exact (gd_tup1 (b := b + 1) (n := n + 1) (by omega) (Gd.atm (d := .str "number") (by show NmOk _ ∧ _ ≤ 8; decide +kernel) _)))) (by rw [ed]; exact us_a (by decide +kernel)) (.cons (J5.same (t6.trans (t7.trans (t8.trans (t9.trans (t10.trans (t11.trans t12))))))) (.tup (Nat.le_trans (cutD_len ds none (some (-1))) (by omega)) (fun x hx => all2 x (cutD_mem hx))) (by rw [ed]; exact us_k) (.cons (J8.same (t9.trans (t10.trans (t11.trans t12)))) (.tup (nl _) (ns _ (Gd.atm (d := .str "or") (by show NmOk _ ∧ _ ≤ 8; decide +kernel) _))) (by rw [ed]; exact us_h (by decide +kernel)) (.cons (J11.same t12) (.tup (nl _) (ns _ (Gd.atm (d := .str "either") (by show NmOk _ ∧ _ ≤ 8; decide +kernel) _))) (by rw [ed]; exact us_h (by decide +kernel)) Its.nil)))))
        refine ⟨l3, g12, ls, _, rfl, rfl, (t1.trans (t2.trans (t3.trans (t4.trans (t5.trans (t6.trans (t7.trans (t8.trans (t9.trans (t10.trans (t11.trans t12))))))))))) _ _ ez, f12, few_len (by rw [ll]; show 18 + 5 ≤ 100; decide), fun m13 z13 => ?_⟩
        have kk13 := (iB.but pS (but_same (t1.trans (t2.trans (t3.trans (t4.trans (t5.trans (t6.trans (t7.trans (t8.trans (t9.trans (t10.trans (t11.trans t12))))))))))))).app k12
        have ll13 : (ls ++ [V.ref w1, V.ref w4, V.ref w5, V.ref h8, V.ref h11]).length = 23 := by rw [List.length_append, ll]; rfl
        generalize (ls ++ [V.ref w1, V.ref w4, V.ref w5, V.ref h8, V.ref h11] : List V) = ls13 at kk13 ll13 z13
        have t13 := same_new (o := .lst ls13) z13
        have f13 : upd Y12 m13 (.lst ls13) m13 = _ := upd_same
        have D13 := D12.same t13
        have nw13 := (lS.but b12_ D12).nin z13
        have np13 := D12.ne z13
        have b13_ : But p H (upd Y12 m13 (.lst ls13)) := b12_.trans (but_same t13)
        generalize upd Y12 m13 (.lst ls13) = Y13 at t13 f13 D13 b13_
        have iB13 := kk13.but pS (but_same t13)
        -- three more
        refine ⟨_, rfl, (by show 1 ≤ sizeLine; decide), fun h14 z14 => ?_⟩
        have t14 := same_new (o := .lst [.str "pair"]) z14
        have f14 : upd Y13 h14 (.lst [.str "pair"]) h14 = _ := upd_same
        have D14 := D13.same t14
        have nw14 := (lS.but b13_ D13).nin z14
        have np14 := D13.ne z14
        have b14_ : But p H (upd Y13 h14 (.lst [.str "pair"])) := b13_.trans (but_same t14)
        generalize upd Y13 h14 (.lst [.str "pair"]) = Y14 at t14 f14 D14 b14_
        refine ⟨(by show 1 ≤ sizeLine; decide), fun h15 z15 => ?_⟩
        have t15 := same_new (o := .tup [.ref h14]) z15
        have f15 : upd Y14 h15 (.tup [.ref h14]) h15 = _ := upd_same
        have D15 := D14.same t15
        have nw15 := (lS.but b14_ D14).nin z15
        have np15 := D14.ne z15
        have b15_ : But p H (upd Y14 h15 (.tup [.ref h14])) := b14_.trans (but_same t15)
        generalize upd Y14 h15 (.tup [.ref h14]) = Y15 at t15 f15 D15 b15_
        refine ⟨_, rfl, 1, rfl, ?_⟩
        dsimp only [tNoPart]
        refine sl_out (lo := some 1) (hi := none) rfl (at_ b15_) fun h16 Y16 t16 u16 => ?_
        have D16 := D15.same t16
        have b16_ := b15_.trans (but_same t16)
        refine cat_out (.inl (.inl (t16 _ _ f15))) u16 (few_len (by rw [List.length_singleton]; omega)) fun h17 Y17 t17 u17 => ?_
        have D17 := D16.same t17
        have b17_ := b16_.trans (but_same t17)
        have J17 : Df K U Y17 (.ref h17) (.tuple ([(PyData.list [.str "pair"])] ++ cutD ds (some 1) none)) := df_tup (lS.but b17_ D17) u17 (dps_app (.cons (Df.same (t15.trans (t16.trans t17)) (df_lst nw14 f14 (.cons (.str "pair") .nil))) .nil) (dps_cut (ds_ b17_)))
        refine ⟨(by show 0 ≤ sizeLine; decide), fun h18 z18 => ?_⟩
        have t18 := same_new (o := .lst []) z18
        have f18 : upd Y17 h18 (.lst []) h18 = _ := upd_same
        have D18 := D17.same t18
        have nw18 := (lS.but b17_ D17).nin z18
        have np18 := D17.ne z18
        have b18_ : But p H (upd Y17 h18 (.lst [])) := b17_.trans (but_same t18)
        generalize upd Y17 h18 (.lst []) = Y18 at t18 f18 D18 b18_
        refine ⟨(by show 1 ≤ sizeLine; decide), fun h19 z19 => ?_⟩
        have t19 := same_new (o := .tup [.ref h18]) z19
        have f19 : upd Y18 h19 (.tup [.ref h18]) h19 = _ := upd_same
        have D19 := D18.same t19
        have nw19 := (lS.but b18_ D18).nin z19
        have np19 := D18.ne z19
        have b19_ : But p H (upd Y18 h19 (.tup [.ref h18])) := b18_.trans (but_same t19)
        generalize upd Y18 h19 (.tup [.ref h18]) = Y19 at t19 f19 D19 b19_
        refine ⟨_, rfl, 1, rfl, ?_⟩
        dsimp only [tNoPart]
        refine sl_out (lo := some 1) (hi := none) rfl (at_ b19_) fun h20 Y20 t20 u20 => ?_
        have D20 := D19.same t20
        have b20_ := b19_.trans (but_same t20)
        refine cat_out (.inl (.inl (t20 _ _ f19))) u20 (few_len (by rw [List.length_singleton]; omega)) fun h21 Y21 t21 u21 => ?_
        have D21 := D20.same t21
        have b21_ := b20_.trans (but_same t21)
        have J21 : Df K U Y21 (.ref h21) (.tuple ([(PyData.list [])] ++ cutD ds (some 1) none)) := df_tup (lS.but b21_ D21) u21 (dps_app (.cons (Df.same (t19.trans (t20.trans t21)) (df_lst nw18 f18 .nil)) .nil) (dps_cut (ds_ b21_)))
        refine ⟨(by show 1 ≤ sizeLine; decide), fun h22 z22 => ?_⟩
        have t22 := same_new (o := .tup [.str "pair"]) z22
        have f22 : upd Y21 h22 (.tup [.str "pair"]) h22 = _ := upd_same
        have D22 := D21.same t22
        have nw22 := (lS.but b21_ D21).nin z22
        have np22 := D21.ne z22
        have b22_ : But p H (upd Y21 h22 (.tup [.str "pair"])) := b21_.trans (but_same t22)
        generalize upd Y21 h22 (.tup [.str "pair"]) = Y22 at t22 f22 D22 b22_
        refine ⟨(by show 1 ≤ sizeLine; decide), fun h23 z23 => ?_⟩
        have t23 := same_new (o := .tup [.ref h22]) z23
        have f23 : upd Y22 h23 (.tup [.ref h22]) h23 = _ := upd_same
        have D23 := D22.same t23
        have nw23 := (lS.but b22_ D22).nin z23
        have np23 := D22.ne z23
        have b23_ : But p H (upd Y22 h23 (.tup [.ref h22])) := b22_.trans (but_same t23)
        generalize upd Y22 h23 (.tup [.ref h22]) = Y23 at t23 f23 D23 b23_
        refine ⟨_, rfl, 1, rfl, ?_⟩
        dsimp only [tNoPart]
        refine sl_out (lo := some 1) (hi := none) rfl (at_ b23_) fun h24 Y24 t24 u24 => ?_
        have D24 := D23.same t24
        have b24_ := b23_.trans (but_same t24)
        refine cat_out (.inl (.inl (t24 _ _ f23))) u24 (few_len (by rw [List.length_singleton]; omega)) fun h25 Y25 t25 u25 => ?_
        have D25 := D24.same t25
        have b25_ := b24_.trans (but_same t25)
        have J25 : Df K U Y25 (.ref h25) (.tuple ([(PyData.tuple [.str "pair"])] ++ cutD ds (some 1) none)) := df_tup (lS.but b25_ D25) u25 (dps_app (.cons (Df.same (t23.trans (t24.trans t25)) (df_tup (lS.but b22_ D22) (.inl (.inl f22)) (.cons (.str "pair") .nil))) .nil) (dps_cut (ds_ b25_)))
        refine ⟨(by show 3 ≤ sizeLine; decide), fun g26 z26 => ?_⟩
        have t26 := same_new (o := .lst [V.ref h17, V.ref h21, V.ref h25]) z26
        have f26 : upd Y25 g26 (.lst [V.ref h17, V.ref h21, V.ref h25]) g26 = _ := upd_same
        have D26 := D25.same t26
        have nw26 := (lS.but b25_ D25).nin z26
        have np26 := D25.ne z26
        have b26_ : But p H (upd Y25 g26 (.lst [V.ref h17, V.ref h21, V.ref h25])) := b25_.trans (but_same t26)
        generalize upd Y25 g26 (.lst [V.ref h17, V.ref h21, V.ref h25]) = Y26 at t26 f26 D26 b26_
        have k26 : Its K U Y26 (b + 1) (n + 3) (us d + 500) [V.ref h17, V.ref h21, V.ref h25] := (.cons (J17.same (t18.trans (t19.trans (t20.trans (t21.trans (t22.trans (t23.trans (t24.trans (t25.trans t26))))))))) (.tup (nl _) (ns _ (gd_lst1 (b := b + 1) (n := n + 1) (by omega) (Gd.atm (d := .str "pair") (by show NmOk _ ∧ _ ≤ 8; decide +kernel) _)))) (by rw [ed]; exact us_h (by decide +kernel)) (.cons (J21.same (t22.trans (t23.trans (t24.trans (t25.trans t26))))) (.tup (nl _) (ns _ (gd_lst0 (b := b + 1) (n := n + 1)))) (by rw [ed]; exact us_h (by decide +kernel)) (.cons (J25.same t26) (.tup (nl _) (ns _ (gd_tup1 (b := b + 1) (n := n + 1) (by omega) (Gd.atm (d := .str "pair") (by show NmOk _ ∧ _ ≤ 8; decide +kernel) _)))) (by rw [ed]; exact us_h (by decide +kernel)) Its.nil)))
        refine ⟨m13, g26, ls13, _, rfl, rfl, (t14.trans (t15.trans (t16.trans (t17.trans (t18.trans (t19.trans (t20.trans (t21.trans (t22.trans (t23.trans (t24.trans (t25.trans t26)))))))))))) _ _ f13, f26, few_len (by rw [ll13]; show 23 + 3 ≤ 100; decide), fun m27 z27 => ?_⟩
        have kk27 := (iB13.but pS (but_same (t14.trans (t15.trans (t16.trans (t17.trans (t18.trans (t19.trans (t20.trans (t21.trans (t22.trans (t23.trans (t24.trans (t25.trans t26)))))))))))))).app k26
        have ll27 : (ls13 ++ [V.ref h17, V.ref h21, V.ref h25]).length = 26 := by rw [List.length_append, ll13]; rfl
        generalize (ls13 ++ [V.ref h17, V.ref h21, V.ref h25] : List V) = ls27 at kk27 ll27 z27
        have t27 := same_new (o := .lst ls27) z27
        have f27 : upd Y26 m27 (.lst ls27) m27 = _ := upd_same
        have D27 := D26.same t27
        have nw27 := (lS.but b26_ D26).nin z27
        have np27 := D26.ne z27
        have b27_ : But p H (upd Y26 m27 (.lst ls27)) := b26_.trans (but_same t27)
        generalize upd Y26 m27 (.lst ls27) = Y27 at t27 f27 D27 b27_
        have iB27 := kk27.but pS (but_same t27)
        refine ⟨_, rfl, (by show 1 ≤ sizeLine; decide), fun h28 z28 => ?_⟩
        have t28 := same_new (o := .tup [.str "pair"]) z28
        have f28 : upd Y27 h28 (.tup [.str "pair"]) h28 = _ := upd_same
        have D28 := D27.same t28
        have nw28 := (lS.but b27_ D27).nin z28
        have np28 := D27.ne z28
        have b28_ : But p H (upd Y27 h28 (.tup [.str "pair"])) := b27_.trans (but_same t28)
        generalize upd Y27 h28 (.tup [.str "pair"]) = Y28 at t28 f28 D28 b28_
        refine ⟨_, rfl, 1, rfl, ?_⟩
        dsimp only [tNoPart]
        refine sl_out (lo := some 1) (hi := none) rfl (at_ b28_) fun h29 Y29 t29 u29 => ?_
        have D29 := D28.same t29
        have b29_ := b28_.trans (but_same t29)
        refine cat_out (.inl (.inl (t29 _ _ f28))) u29 (few_len (by rw [List.length_singleton]; omega)) fun h30 Y30 t30 u30 => ?_
        have D30 := D29.same t30
        have b30_ := b29_.trans (but_same t30)
        have J30 : Df K U Y30 (.ref h30) (.tuple ([(PyData.str "pair")] ++ cutD ds (some 1) none)) := df_tup (lS.but b30_ D30) u30 (dps_app (.cons (.str "pair") .nil) (dps_cut (ds_ b30_)))
        refine ⟨(by show 1 ≤ sizeLine; decide), fun h31 z31 => ?_⟩
        have t31 := same_new (o := .tup [.str "from"]) z31
        have f31 : upd Y30 h31 (.tup [.str "from"]) h31 = _ := upd_same
        have D31 := D30.same t31
        have nw31 := (lS.but b30_ D30).nin z31
        have np31 := D30.ne z31
        have b31_ : But p H (upd Y30 h31 (.tup [.str "from"])) := b30_.trans (but_same t31)
        generalize upd Y30 h31 (.tup [.str "from"]) = Y31 at t31 f31 D31 b31_
        refine ⟨_, rfl, 1, rfl, ?_⟩
        dsimp only [tNoPart]
        refine sl_out (lo := some 1) (hi := none) rfl (at_ b31_) fun h32 Y32 t32 u32 => ?_
        have D32 := D31.same t32
        have b32_ := b31_.trans (but_same t32)
        refine cat_out (.inl (.inl (t32 _ _ f31))) u32 (few_len (by rw [List.length_singleton]; omega)) fun h33 Y33 t33 u33 => ?_
        have D33 := D32.same t33
        have b33_ := b32_.trans (but_same t33)
        have J33 : Df K U Y33 (.ref h33) (.tuple ([(PyData.str "from")] ++ cutD ds (some 1) none)) := df_tup (lS.but b33_ D33) u33 (dps_app (.cons (.str "from") .nil) (dps_cut (ds_ b33_)))
        refine ⟨(by show 1 ≤ sizeLine; decide), fun h34 z34 => ?_⟩
        have t34 := same_new (o := .tup [.str "Pair"]) z34
        have f34 : upd Y33 h34 (.tup [.str "Pair"]) h34 = _ := upd_same
        have D34 := D33.same t34
        have nw34 := (lS.but b33_ D33).nin z34
        have np34 := D33.ne z34
        have b34_ : But p H (upd Y33 h34 (.tup [.str "Pair"])) := b33_.trans (but_same t34)
        generalize upd Y33 h34 (.tup [.str "Pair"]) = Y34 at t34 f34 D34 b34_
        refine ⟨_, rfl, 1, rfl, ?_⟩
        dsimp only [tNoPart]
        refine sl_out (lo := some 1) (hi := none) rfl (at_ b34_) fun h35 Y35 t35 u35 => ?_
        have D35 := D34.same t35
        have b35_ := b34_.trans (but_same t35)
        refine cat_out (.inl (.inl (t35 _ _ f34))) u35 (few_len (by rw [List.length_singleton]; omega)) fun h36 Y36 t36 u36 => ?_
        have D36 := D35.same t36
        have b36_ := b35_.trans (but_same t36)
        have J36 : Df K U Y36 (.ref h36) (.tuple ([(PyData.str "Pair")] ++ cutD ds (some 1) none)) := df_tup (lS.but b36_ D36) u36 (dps_app (.cons (.str "Pair") .nil) (dps_cut (ds_ b36_)))
        refine ⟨(by show 3 ≤ sizeLine; decide), fun g37 z37 => ?_⟩
        have t37 := same_new (o := .lst [V.ref h30, V.ref h33, V.ref h36]) z37
        have f37 : upd Y36 g37 (.lst [V.ref h30, V.ref h33, V.ref h36]) g37 = _ := upd_same
        have D37 := D36.same t37
        have nw37 := (lS.but b36_ D36).nin z37
        have np37 := D36.ne z37
        have b37_ : But p H (upd Y36 g37 (.lst [V.ref h30, V.ref h33, V.ref h36])) := b36_.trans (but_same t37)
        generalize upd Y36 g37 (.lst [V.ref h30, V.ref h33, V.ref h36]) = Y37 at t37 f37 D37 b37_
        have k37 : Its K U Y37 (b + 1) (n + 3) (us d + 500) [V.ref h30, V.ref h33, V.ref h36] := (.cons (J30.same (t31.trans (t32.trans (t33.trans (t34.trans (t35.trans (t36.trans t37))))))) (.tup (nl _) (ns _ (Gd.atm (d := .str "pair") (by show NmOk _ ∧ _ ≤ 8; decide +kernel) _))) (by rw [ed]; exact us_h (by decide +kernel)) (.cons (J33.same (t34.trans (t35.trans (t36.trans t37)))) (.tup (nl _) (ns _ (Gd.atm (d := .str "from") (by show NmOk _ ∧ _ ≤ 8; decide +kernel) _))) (by rw [ed]; exact us_h (by decide +kernel)) (.cons (J36.same t37) (.tup (nl _) (ns _ (Gd.atm (d := .str "Pair") (by show NmOk _ ∧ _ ≤ 8; decide +kernel) _))) (by rw [ed]; exact us_h (by decide +kernel)) Its.nil)))
        refine ⟨m27, g37, ls27, _, rfl, rfl, (t28.trans (t29.trans (t30.trans (t31.trans (t32.trans (t33.trans (t34.trans (t35.trans (t36.trans t37))))))))) _ _ f27, f37, few_len (by rw [ll27]; show 26 + 3 ≤ 100; decide), fun m38 z38 => ?_⟩
        have kk38 := (iB27.but pS (but_same (t28.trans (t29.trans (t30.trans (t31.trans (t32.trans (t33.trans (t34.trans (t35.trans (t36.trans t37))))))))))).app k37
        have ll38 : (ls27 ++ [V.ref h30, V.ref h33, V.ref h36]).length = 29 := by rw [List.length_append, ll27]; rfl
        generalize (ls27 ++ [V.ref h30, V.ref h33, V.ref h36] : List V) = ls38 at kk38 ll38 z38
        have t38 := same_new (o := .lst ls38) z38
        have f38 : upd Y37 m38 (.lst ls38) m38 = _ := upd_same
        have D38 := D37.same t38
        have nw38 := (lS.but b37_ D37).nin z38
        have np38 := D37.ne z38
        have b38_ : But p H (upd Y37 m38 (.lst ls38)) := b37_.trans (but_same t38)
        generalize upd Y37 m38 (.lst ls38) = Y38 at t38 f38 D38 b38_
        have iB38 := kk38.but pS (but_same t38)
        exact rest _ _ ⟨m38, ls38, (by rw [ev]; rfl), f38, np38, iB38, by omega, by omega, b38_, D38⟩
    · rintro σ Z ⟨l, xs, rfl, el, nl, iz, x0, x1, bZ, hDZ⟩
      refine ⟨_, rfl, _, rfl, p, l, L, xs, mm, rfl, .inl (.inl el), nl, x0, by omega, by omega, hDZ, fun x mem H' bH hDH => ?_⟩
      obtain ⟨dx, hx, gx, ux⟩ := iz x mem
      exact q x dx H' (hx.but pS bH) gx ux (bZ.trans bH) (hDH.more (by omega))
theorem ok_sps {f fr fp : Addr} {fd dr dp : FuncData} (F : Fun K "_law_spoilt" "_law_spoilt" sSpoilt f fd) (D : Draw P w K mg base fr fp dr dp) (T : Blt mg) (zl : mg "list" = none) (bS : Binds K fd ["dice", "thing"] []) (mS : mg "_law_spoilt" = some (.ref f)) : ∀ k : Nat, FnOk P w K mg base CX0 (2 + k) f fd ["dice", "thing"] (spSp K k)
  | 0 => no_calls fun vs H Q E h => by
    obtain ⟨p, L, U, v, d, b, n, m, _, _, _, _, _, _, _, nk, _⟩ := h
    omega
  | k + 1 => ok_sp F D T zl (ok_sps F D T zl bS mS k) bS mS
end
end Kf
set_option Elab.async false
set_option linter.all false
set_option maxRecDepth 100000
set_option maxHeartbeats 8000000
set_option pp.maxSteps 1200
/-! k20: chains. -/
namespace Kf
open PySem PySem.Spec PyProof.Rows L2 Sx
abbrev sChain : Stmt := top 13
abbrev chN : List Str := ["dice", "many", "kind", "turn", "word", "some"]
theorem scChain : FnScope chN ["dice", "many"] (defScope sChain) := ⟨rfl, rfl, rfl, by decide +kernel, rfl, by decide +kernel, by decide +kernel⟩
theorem fit3 {w a b : PyData} {na nb ma mb : Nat} (hw : Fit w 0 90) (ha : Fit a na ma) (hb : Fit b nb mb) : Fit (.tuple [w, a, b]) (max na nb + 1) (ma + mb + 99) := by
  refine ⟨?_, ?_, ?_, ?_, ?_⟩
  · show (w.canLay0 && (a.canLay0 && (b.canLay0 && true))) = true
    rw [hw.lay, ha.lay, hb.lay]
    rfl
  · show (w.showable && (a.showable && (b.showable && true))) = true
    rw [hw.show_, ha.show_, hb.show_]
    rfl
  · show (w.hasDict || (a.hasDict || (b.hasDict || false))) = false
    rw [hw.dict, ha.dict, hb.dict]
    rfl
  · show max w.depth (max a.depth (max b.depth 0)) + 1 ≤ _
    have := hw.deep
    have := ha.deep
    have := hb.deep
    omega
  · have z := tupleText_len_le (PyData.shownAll [w, a, b])
    have e : ((PyData.shownAll [w, a, b]).map (·.length)).sum = w.shown.length + (a.shown.length + (b.shown.length + 0)) := rfl
    have e2 : (PyData.shownAll [w, a, b]).length = 3 := rfl
    have l1 := hw.len
    have l2 := ha.len
    have l3 := hb.len
    show (tupleText (PyData.shownAll [w, a, b])).length ≤ _
    omega
theorem fit1 {z : Str} (h : NmOk z ∧ z.length ≤ 8) : Fit (.tuple [.str z]) 1 200 := (fit_gd (b := 1) (n := 1) (gd1 (by decide) h)).mono (Nat.le_refl _) (by decide)
/-- how great a chain is -/
def Cz (n : Nat) (d : PyData) : Prop := Fit d (n + 2) (700 + 300 * n) ∧ psz d ≤ 20 + 10 * n
theorem cz3 {z y : Str} {n : Nat} {d : PyData} (hz : NmOk z ∧ z.length ≤ 8) (hy : NmOk y ∧ y.length ≤ 8) (h : Cz n d) : Cz (n + 1) (.tuple [.str z, d, .tuple [.str y]]) ∧ Cz (n + 1) (.tuple [.str z, .tuple [.str y], d]) := by
  have w := fit_atm (d := .str z) hz
  refine ⟨⟨(fit3 w h.1 (fit1 hy)).mono (by omega) (by omega), ?_⟩, ⟨(fit3 w (fit1 hy) h.1).mono (by omega) (by omega), ?_⟩⟩
  · have e : psz (.tuple [.str z, d, .tuple [.str y]]) = 1 + (1 + (psz d + ((1 + (1 + 0)) + 0))) := rfl
    have := h.2
    omega
  · have e : psz (.tuple [.str z, .tuple [.str y], d]) = 1 + (1 + ((1 + (1 + 0)) + (psz d + 0))) := rfl
    have := h.2
    omega
section
variable {P : Program} {w : World} {K : PySem.W.Frag} {mg : Str → Option Value} {base : Heap}
def spChain (K : PySem.W.Frag) : Sp := fun vs H Q _ => ∃ (p L : Addr) (Z : List Addr) (k : Nat) (m : Int), p ∈ Z ∧ LS H Z ∧ vs = [.ref p, .int (k : Int)] ∧ k ≤ 90 ∧ m < 2 ^ 45 ∧ DiceAt H p L m ∧ ∀ v d H', Df K Z H' v d → Cz k d → But p H H' → DiceAt H' p L (m + 200) → Q v H'
theorem ok_chain {f fr fp : Addr} {fd dr dp : FuncData} (F : Fun K "_law_chain" "_law_chain" sChain f fd) (D : Draw P w K mg base fr fp dr dp) (zR : mg "range" = none) : FnOk P w K mg base CX0 3 f fd ["dice", "many"] (spChain K) := by
  refine F.ok scChain (fun vs H Q E h => ?_) (fun cdv A outer s H vs Q E hr h => ?_)
  · obtain ⟨p, L, Z, k, m, _, _, rfl, _⟩ := h
    rfl
  obtain ⟨p, L, Z, k, m, pS, lS, rfl, k90, mb, hD, q⟩ := h
  have h2 : Room 2 _ := hr.mono (by decide)
  refine ⟨_, pss_cons (ps_set (i := 2) scChain.nd rfl (.inl rfl) (pe_call D.Pk h2 (by rfl) D.mP D.kP D.bP .nil pass0 (pa_cons (pv 0) (pa_cons (pe_lst (pa_cons (pe_tup (pa_cons pe_str pa_nil)) (pa_cons (pe_tup (pa_cons pe_str pa_nil)) (pa_cons (pe_tup (pa_cons pe_str (pa_cons (pe_tup (pa_cons pe_str pa_nil)) (pa_cons (pe_tup (pa_cons pe_str pa_nil)) pa_nil)))) (pa_cons (pe_tup (pa_cons pe_str pa_nil)) pa_nil))))) pa_nil))))
    (pss_cons (ps_for PassesOwn.never rfl (pi_range1 (by rfl) zR (pa_cons (pv 1) pa_nil)) (pg_name (i := 3) scChain.nd rfl (.inl rfl))
      (pss_cons (ps_set (i := 4) scChain.nd rfl (.inl rfl) (pe_call D.Pk h2 (by rfl) D.mP D.kP D.bP .nil pass0 (pa_cons (pv 0) (pa_cons (pe_lst (pa_cons pe_str (pa_cons pe_str (pa_cons pe_str pa_nil)))) pa_nil))))
      (pss_cons (ps_set (i := 5) scChain.nd rfl (.inl rfl) (pe_lst (pa_cons (pe_tup (pa_cons (pv 4) (pa_cons (pv 2) (pa_cons (pe_tup (pa_cons pe_str pa_nil)) pa_nil)))) (pa_cons (pe_tup (pa_cons (pv 4) (pa_cons (pe_tup (pa_cons pe_str pa_nil)) (pa_cons (pv 2) pa_nil)))) (pa_cons (pe_tup (pa_cons pe_str (pa_cons (pe_tup (pa_cons pe_str pa_nil)) (pa_cons (pv 2) pa_nil)))) pa_nil)))))
      (pss_one (ps_set (i := 2) scChain.nd rfl (.inl rfl) (pe_call D.Pk h2 (by rfl) D.mP D.kP D.bP .nil pass0 (pa_cons (pv 0) (pa_cons (pv 5) pa_nil))))))))
    (pss_one (ps_ret (pv 2)))), ?_⟩
  have hN : NmOk (Str.ofString "number") ∧ (Str.ofString "number").length ≤ 8 := by decide +kernel
  have hO : NmOk (Str.ofString "none") ∧ (Str.ofString "none").length ≤ 8 := by decide +kernel
  have hE : NmOk (Str.ofString "either") ∧ (Str.ofString "either").length ≤ 8 := by decide +kernel
  have cz1 : ∀ z : Str, NmOk z ∧ z.length ≤ 8 → Cz 0 (.tuple [.str z]) := fun z hz => ⟨(fit1 hz).mono (by decide) (by decide), (by show 1 + (1 + 0) ≤ 20 + 0; decide)⟩
  -- the first
  refine ⟨_, rfl, (by show 1 ≤ sizeLine; decide), fun q1 n1 => ?_⟩
  have s1 := same_new (o := .tup [.str "number"]) n1
  have e1 : upd H q1 (.tup [.str "number"]) q1 = _ := upd_same
  have D1 := hD.same s1
  generalize upd H q1 (.tup [.str "number"]) = X1 at s1 e1 D1
  refine ⟨(by show 1 ≤ sizeLine; decide), fun q2 n2 => ?_⟩
  have s2 := same_new (o := .tup [.str "number"]) n2
  have e2 : upd X1 q2 (.tup [.str "number"]) q2 = _ := upd_same
  have D2 := D1.same s2
  generalize upd X1 q2 (.tup [.str "number"]) = X2 at s2 e2 D2
  refine ⟨(by show 1 ≤ sizeLine; decide), fun q3 n3 => ?_⟩
  have s3 := same_new (o := .tup [.str "none"]) n3
  have e3 : upd X2 q3 (.tup [.str "none"]) q3 = _ := upd_same
  have D3 := D2.same s3
  generalize upd X2 q3 (.tup [.str "none"]) = X3 at s3 e3 D3
  refine ⟨(by show 1 ≤ sizeLine; decide), fun q4 n4 => ?_⟩
  have s4 := same_new (o := .tup [.str "number"]) n4
  have e4 : upd X3 q4 (.tup [.str "number"]) q4 = _ := upd_same
  have D4 := D3.same s4
  generalize upd X3 q4 (.tup [.str "number"]) = X4 at s4 e4 D4
  refine ⟨(by show 3 ≤ sizeLine; decide), fun q5 n5 => ?_⟩
  have s5 := same_new (o := .tup [.str "either", .ref q3, .ref q4]) n5
  have e5 : upd X4 q5 (.tup [.str "either", .ref q3, .ref q4]) q5 = _ := upd_same
  have D5 := D4.same s5
  generalize upd X4 q5 (.tup [.str "either", .ref q3, .ref q4]) = X5 at s5 e5 D5
  refine ⟨(by show 1 ≤ sizeLine; decide), fun q6 n6 => ?_⟩
  have s6 := same_new (o := .tup [.str "none"]) n6
  have e6 : upd X5 q6 (.tup [.str "none"]) q6 = _ := upd_same
  have D6 := D5.same s6
  generalize upd X5 q6 (.tup [.str "none"]) = X6 at s6 e6 D6
  refine ⟨(by show 4 ≤ sizeLine; decide), fun l nl => ?_⟩
  have s7 := same_new (o := .lst [.ref q1, .ref q2, .ref q5, .ref q6]) nl
  have e7 : upd X6 l (.lst [.ref q1, .ref q2, .ref q5, .ref q6]) l = _ := upd_same
  have D7 := D6.same s7
  have nlp := D6.ne nl
  generalize upd X6 l (.lst [.ref q1, .ref q2, .ref q5, .ref q6]) = X7 at s7 e7 D7
  have k6 := s7
  have k5 := s6.trans k6
  have k4 := s5.trans k5
  have k3 := s4.trans k4
  have k2 := s3.trans k3
  have k1 := s2.trans k2
  have k0 := s1.trans k1
  have l7 := lS.same k0
  refine ⟨p, l, L, _, m, rfl, .inl (.inl e7), nlp, (by show 0 < 4; decide), (by show 4 ≤ 1000; decide), by omega, D7, fun x mem X8 b8 D8 => ?_⟩
  have st : ∃ d, Df K Z X7 x d ∧ Cz 0 d := by
    rcases List.mem_cons.mp mem with rfl | mem
    · exact ⟨_, df1 l7 (k1 _ _ e1), cz1 _ hN⟩
    rcases List.mem_cons.mp mem with rfl | mem
    · exact ⟨_, df1 l7 (k2 _ _ e2), cz1 _ hN⟩
    rcases List.mem_cons.mp mem with rfl | mem
    · exact ⟨_, df3 l7 (k5 _ _ e5) (df1 l7 (k3 _ _ e3)) (df1 l7 (k4 _ _ e4)), (fit3 (fit_atm (d := .str "either") hE) (fit1 hO) (fit1 hN)).mono (by decide) (by decide), (by show 1 + (1 + ((1 + (1 + 0)) + ((1 + (1 + 0)) + 0))) ≤ 20; decide)⟩
    · rw [List.mem_singleton.mp mem]
      exact ⟨_, df1 l7 (k6 _ _ e6), cz1 _ hO⟩
  obtain ⟨d0, hd0, cz0⟩ := st
  have b08 : But p H X8 := (but_same k0).trans b8
  refine ⟨_, rfl, _, rfl, Int.le_trans (by decide) (Int.natCast_nonneg k), Int.lt_of_le_of_lt (show (k : Int) ≤ 1000 by omega) (by decide), ?_⟩
  refine for_range (lo := 0) (n := ((k : Int)).toNat) (fun i σ H' => ∃ (y3 y4 y5 : Option V) (vk : V) (dk : PyData), σ = [some (.ref p), some (.int (k : Int)), some vk, y3, y4, y5] ∧ Df K Z H' vk dk ∧ Cz i dk ∧ But p H H' ∧ DiceAt H' p L (m + 1 + 2 * (i : Int)))
    ⟨_, _, _, x, d0, rfl, hd0.but pS b8, cz0, b08, D8.more (by omega)⟩ ?_ ?_
  · rintro i σ Y0 hi ⟨y3, y4, y5, vk, dk, rfl, hk, ck_, bY, hY⟩
    have i90 : i < 90 := by
      have z : ((k : Int)).toNat = k := Int.toNat_natCast k
      omega
    refine ⟨_, rfl, (by show 3 ≤ sizeLine; decide), fun g0 m0 => ?_⟩
    have t0 := same_new (o := .lst [.str "pair", .str "from", .str "either"]) m0
    have f0 : upd Y0 g0 (.lst [.str "pair", .str "from", .str "either"]) g0 = _ := upd_same
    have E0_ := hY.same t0
    have ng0 := hY.ne m0
    generalize upd Y0 g0 (.lst [.str "pair", .str "from", .str "either"]) = Y1 at t0 f0 E0_
    refine ⟨p, g0, L, _, m + 1 + 2 * (i : Int), rfl, .inl (.inl f0), ng0, (by show 0 < 3; decide), (by show 3 ≤ 1000; decide), by omega, E0_, fun wd memw Y2 bY2 hY2 => ?_⟩
    have ww : ∃ z : Str, wd = .str z ∧ NmOk z ∧ z.length ≤ 8 := by
      rcases List.mem_cons.mp memw with rfl | memw
      · exact ⟨_, rfl, by decide +kernel⟩
      rcases List.mem_cons.mp memw with rfl | memw
      · exact ⟨_, rfl, by decide +kernel⟩
      · exact ⟨_, List.mem_singleton.mp memw, by decide +kernel⟩
    obtain ⟨z, rfl, hz⟩ := ww
    have b02 : But p H Y2 := (bY.trans (but_same t0)).trans bY2
    have l2 := lS.but b02 hY2
    have hk2 : Df K Z Y2 vk dk := (hk.same t0).but pS bY2
    refine ⟨_, rfl, _, rfl, (by show 1 ≤ sizeLine; decide), fun g1 m1 => ?_⟩
    have t1 := same_new (o := .tup [.str "number"]) m1
    have f1 : upd Y2 g1 (.tup [.str "number"]) g1 = _ := upd_same
    generalize upd Y2 g1 (.tup [.str "number"]) = Y3 at t1 f1
    refine ⟨(by show 3 ≤ sizeLine; decide), fun g2 m2 => ?_⟩
    have t2 := same_new (o := .tup [.str z, vk, .ref g1]) m2
    have f2 : upd Y3 g2 (.tup [.str z, vk, .ref g1]) g2 = _ := upd_same
    generalize upd Y3 g2 (.tup [.str z, vk, .ref g1]) = Y4 at t2 f2
    refine ⟨_, rfl, (by show 1 ≤ sizeLine; decide), fun g3 m3 => ?_⟩
    have t3 := same_new (o := .tup [.str "number"]) m3
    have f3 : upd Y4 g3 (.tup [.str "number"]) g3 = _ := upd_same
    generalize upd Y4 g3 (.tup [.str "number"]) = Y5 at t3 f3
    refine ⟨_, rfl, (by show 3 ≤ sizeLine; decide), fun g4 m4 => ?_⟩
    have t4 := same_new (o := .tup [.str z, .ref g3, vk]) m4
    have f4 : upd Y5 g4 (.tup [.str z, .ref g3, vk]) g4 = _ := upd_same
    generalize upd Y5 g4 (.tup [.str z, .ref g3, vk]) = Y6 at t4 f4
    refine ⟨(by show 1 ≤ sizeLine; decide), fun g5 m5 => ?_⟩
    have t5 := same_new (o := .tup [.str "none"]) m5
    have f5 : upd Y6 g5 (.tup [.str "none"]) g5 = _ := upd_same
    generalize upd Y6 g5 (.tup [.str "none"]) = Y7 at t5 f5
    refine ⟨_, rfl, (by show 3 ≤ sizeLine; decide), fun g6 m6 => ?_⟩
    have t6 := same_new (o := .tup [.str "either", .ref g5, vk]) m6
    have f6 : upd Y7 g6 (.tup [.str "either", .ref g5, vk]) g6 = _ := upd_same
    generalize upd Y7 g6 (.tup [.str "either", .ref g5, vk]) = Y8 at t6 f6
    have T26 := t1.trans (t2.trans (t3.trans (t4.trans (t5.trans t6))))
    have hY8 := hY2.same T26
    refine ⟨(by show 3 ≤ sizeLine; decide), fun l2_ nl2 => ?_⟩
    have t7 := same_new (o := .lst [.ref g2, .ref g4, .ref g6]) nl2
    have f7 : upd Y8 l2_ (.lst [.ref g2, .ref g4, .ref g6]) l2_ = _ := upd_same
    have nl2p := hY8.ne nl2
    have hY9 := hY8.same t7
    generalize upd Y8 l2_ (.lst [.ref g2, .ref g4, .ref g6]) = Y9 at t7 f7 hY9
    have u6 := t7
    have u5 := t6.trans u6
    have u4 := t5.trans u5
    have u3 := t4.trans u4
    have u2 := t3.trans u3
    have u1 := t2.trans u2
    have u0 := t1.trans u1
    have l9 := l2.same u0
    have hk9 := hk2.same u0
    refine ⟨_, rfl, _, rfl, p, l2_, L, _, m + 1 + 2 * (i : Int) + 1, rfl, .inl (.inl f7), nl2p, (by show 0 < 3; decide), (by show 3 ≤ 1000; decide), by omega, hY9, fun x2 mem2 Ya ba hYa => ?_⟩
    have nx : ∃ d, Df K Z Y9 x2 d ∧ Cz (i + 1) d := by
      rcases List.mem_cons.mp mem2 with rfl | mem2
      · exact ⟨_, df3 l9 (u2 _ _ f2) hk9 (df1 l9 (u1 _ _ f1)), (cz3 hz hN ck_).1⟩
      rcases List.mem_cons.mp mem2 with rfl | mem2
      · exact ⟨_, df3 l9 (u4 _ _ f4) (df1 l9 (u3 _ _ f3)) hk9, (cz3 hz hN ck_).2⟩
      · rw [List.mem_singleton.mp mem2]
        exact ⟨_, df3 l9 (u6 _ _ f6) (df1 l9 (u5 _ _ f5)) hk9, (cz3 hE hO ck_).2⟩
    obtain ⟨d2, hd2, cz2⟩ := nx
    exact ⟨_, _, _, x2, d2, rfl, hd2.but pS ba, cz2, (b02.trans (but_same u0)).trans ba, hYa.more (by omega)⟩
  · rintro σ Y0 ⟨y3, y4, y5, vk, dk, rfl, hk, ck_, bY, hY⟩
    have z : ((k : Int)).toNat = k := Int.toNat_natCast k
    rw [z] at ck_ hY
    exact ⟨_, rfl, q vk dk Y0 hk ck_ bY (hY.more (by omega))⟩
end
end Kf
set_option Elab.async false
set_option linter.all false
set_option maxRecDepth 100000
set_option maxHeartbeats 8000000
set_option pp.maxSteps 1200
/-! k20: the law. -/
namespace Kf
open PySem PySem.Spec PyProof.Rows L2 Sx LamX LmY _root_.Gd
abbrev sLaw : Stmt := top 14
abbrev lawN : List Str := ["script", "dice", "turn", "kind", "things", "thing", "kept", "found", "k"]
theorem scLaw : FnScope lawN ["script"] (defScope sLaw) := ⟨rfl, rfl, rfl, by decide +kernel, rfl, by decide +kernel, by decide +kernel⟩
theorem cr_reprE {X : Cx} (gu : X.A.guards = some []) (un : X.A.units + 130 < cLine) : CallR X (.builtin "repr") (fun xs H Q => ∃ (a : Addr) (d : PyData), xs = [.ref a] ∧ Dp X.K H (.ref a) d ∧ d.showable = true ∧ d.hasDict = false ∧ d.depth ≤ 120 ∧ d.shown.length ≤ sizeLine ∧ Q (.str d.shown) H) := by
  intro pins s σ H xs us Q I rel ⟨a, d, ex, dp, sh, nd, dd, fits, q⟩
  subst ex
  rw [Vals.ref1 rel]
  obtain ⟨as, rd⟩ := Dp.reads I d (.ref a) (.ref a) dp rfl
  exact repr_of_reads' rd sh (fun e => by rw [nd] at e; cases e) gu (by omega) (fun _ _ e => e) (fun h' u tk kp => ⟨.str d.shown, H, I.kept kp, ⟨u, rfl⟩, q⟩) fits
theorem cr_reprX {X : Cx} (gu : X.A.guards = some []) (un : X.A.units + 130 < cLine) : CallR X (.builtin "repr") (fun xs H Q => ∃ (v : V) (d : PyData), xs = [v] ∧ Dp X.K H v d ∧ d.showable = true ∧ d.hasDict = false ∧ d.depth ≤ 120 ∧ d.shown.length ≤ sizeLine ∧ Q (.str d.shown) H) := by
  intro pins s σ H xs us Q I rel ⟨v, d, ex, dp, sh, nd, dd, fits, q⟩
  subst ex
  cases dp with
  | lst h g => exact cr_reprE gu un pins s σ H _ us Q I rel ⟨_, _, rfl, .lst h g, sh, nd, dd, fits, q⟩
  | tup h g => exact cr_reprE gu un pins s σ H _ us Q I rel ⟨_, _, rfl, .tup h g, sh, nd, dd, fits, q⟩
  | non =>
    cases rel with
    | cons r rr =>
      cases rr
      cases r
      exact P.repr_of_none ⟨.str (PyData.shown .none), H, I.tok _, ⟨_, rfl⟩, q⟩
  | bl b =>
    cases rel with
    | cons r rr =>
      cases rr
      cases r
      cases b with
      | false => exact P.repr_of_bool (b := false) ⟨.str (PyData.shown (.bool false)), H, I.tok _, ⟨_, rfl⟩, q⟩
      | true => exact P.repr_of_bool (b := true) ⟨.str (PyData.shown (.bool true)), H, I.tok _, ⟨_, rfl⟩, q⟩
  | int i =>
    cases rel with
    | cons r rr =>
      cases rr
      obtain ⟨t, rfl⟩ := r
      exact P.repr_of_int (of_decide_eq_true sh) ⟨.str (PyData.shown (.int i)), H, I.tok _, ⟨_, rfl⟩, q⟩
  | str x =>
    cases rel with
    | cons r rr =>
      cases rr
      obtain ⟨t, rfl⟩ := r
      exact P.repr_of_str ⟨.str (PyData.shown (.str x)), H, I.tok _, ⟨_, rfl⟩, q⟩ fits
theorem DiceAt.neL {H : Hp} {p L q : Addr} {m : Int} (h : DiceAt H p L m) (e : H q = none) : q ≠ L := fun z => by
  obtain ⟨x, n, r, cs, _, _, e2, _⟩ := h
  rw [z, e2] at e
  cases e
theorem DiceAt.put {H : Hp} {p L D : Addr} {m : Int} {o : HO} (h : DiceAt H p L m) (n1 : D ≠ p) (n2 : D ≠ L) : DiceAt (upd H D o) p L m := by
  obtain ⟨x, n, r, cs, e, nl, e2, q⟩ := h
  exact ⟨x, n, r, cs, by rw [upd_ne n1.symm]; exact e, nl, by rw [upd_ne n2.symm]; exact e2, q⟩
section
variable {K : PySem.W.Frag} {H : Hp} {S : List Addr} {D : Addr} {o : HO} {v : V} {d : PyData}
theorem Df.more (h : Df K S H v d) (n : H D = none) : Df K (D :: S) (upd H D o) v d := dp_up (fun c u e => by
  have e2 := del_same _ _ e
  have nc : c ∉ S := fun z => by
    rw [show del H S c = none from if_pos z] at e
    cases e
  have nd : c ≠ D := ne_of_none e2 n
  rw [del_ne (List.not_mem_cons_of_ne_of_not_mem nd nc), upd_ne nd]
  exact e2) _ _ h
theorem Df.less (h : Df K (D :: S) H v d) : Df K S H v d := dp_up (fun c u e => by
  have e2 := del_same _ _ e
  have nc : c ∉ D :: S := fun z => by
    rw [show del H (D :: S) c = none from if_pos z] at e
    cases e
  rw [del_ne (fun z => nc (List.mem_cons_of_mem _ z))]
  exact e2) _ _ h
theorem ls1 {p L : Addr} {m : Int} (h : DiceAt H p L m) : LS H [p] := fun a ha => by
  obtain ⟨x, n, r, cs, e, _⟩ := h
  rw [List.mem_singleton.mp ha]
  exact ⟨_, e⟩
theorem ls2 {p L : Addr} {m : Int} {xs : List V} (h : DiceAt H p L m) (e : H D = some (.lst xs)) : LS H [D, p] := fun a ha => by
  rcases List.mem_cons.mp ha with rfl | ha
  · exact ⟨_, e⟩
  · exact ls1 h a ha
end
/-- what the calls of the look want of a thing -/
structure Wll (d : PyData) : Prop where
  lay : d.canLay0 = true
  show_ : d.showable = true
  dict : d.hasDict = false
  deep : d.depth ≤ 100
  len : d.shown.length ≤ sizeLine
  sz : psz d ≤ 1000000
theorem wll_gd {b n : Nat} {d : PyData} (g : Gd b n d) (hn : n ≤ 60) (hu : us d ≤ 200000) : Wll d := by
  have f := fit_gd g
  have z := psz_us d
  have y := shown_us g
  have w : (200000 : Nat) ≤ sizeLine := by decide
  exact ⟨f.lay, f.show_, f.dict, Nat.le_trans f.deep (by omega), by omega, by omega⟩
theorem wll_cz {k : Nat} {d : PyData} (g : Cz k d) (hk : k ≤ 90) : Wll d := by
  obtain ⟨f, z⟩ := g
  have y := f.len
  have w : (200000 : Nat) ≤ sizeLine := by decide
  exact ⟨f.lay, f.show_, f.dict, Nat.le_trans f.deep (by omega), by omega, by omega⟩
def spLaw (K : PySem.W.Frag) : Sp := fun vs H Q _ => ∃ (a : Addr) (ns : List Int), vs = [.ref a] ∧ SqL K H a (ns.map V.int) ∧ ns.length ≤ 63 ∧ (∀ z ∈ ns, Builtin.Int.intBits z ≤ 1048576) ∧ ∀ H', Q (.bl true) H'
section
variable {P : Program} {w : World} {K : PySem.W.Frag} {mg : Str → Option Value} {base : Heap}
structure Calls (P : Program) (w : World) (K : PySem.W.Frag) (mg : Str → Option Value) (base : Heap) (fr fp fk fc fd fs fi : Addr) (dr dp dk dc dd ds di : FuncData) : Prop where
  D : Draw P w K mg base fr fp dr dp
  Kd : ∀ n, FnOk P w K mg base CX0 (2 + n) fk dk ["dice", "deep", "whole"] (spKind K n)
  bK : Binds K dk ["dice", "deep", "whole"] []
  kK : PySem.W.keepIn K (.ref fk) = true
  mK : mg "_law_kind" = some (.ref fk)
  C : FnOk P w K mg base CX0 3 fc dc ["dice", "many"] (spChain K)
  bC : Binds K dc ["dice", "many"] []
  kC : PySem.W.keepIn K (.ref fc) = true
  mC : mg "_law_chain" = some (.ref fc)
  U : ∀ n, FnOk P w K mg base CX0 n fd dd ["thing"] (spDue K n)
  bU : Binds K dd ["thing"] []
  kU : PySem.W.keepIn K (.ref fd) = true
  mU : mg "_law_due" = some (.ref fd)
  S : ∀ n, FnOk P w K mg base CX0 (2 + n) fs ds ["dice", "thing"] (spSp K n)
  bS : Binds K ds ["dice", "thing"] []
  kS : PySem.W.keepIn K (.ref fs) = true
  mS : mg "_law_spoilt" = some (.ref fs)
  I : FnOk P w K mg base CX0 2 fi di ["thing"] (spIsKind K)
  bI : Binds K di ["thing"] []
  kI : PySem.W.keepIn K (.ref fi) = true
  mI : mg "is_kind" = some (.ref fi)
  T : Blt mg
  zBool : mg "bool" = none
  zRange : mg "range" = none
  zList : mg "list" = none
  zRepr : mg "repr" = none
theorem ok_law {f fr fp fk fc fu fs fi : Addr} {fd dr dp dk dc dd ds di : FuncData} (F : Fun K "law" "law" sLaw f fd) (C : Calls P w K mg base fr fp fk fc fu fs fi dr dp dk dc dd ds di) : FnG P w K mg base 112 f fd ["script"] (spLaw K) := by
  refine okG F scLaw (fun vs H Q E h => ?_) (fun cdv A outer s H vs Q gu hr h => ?_)
  · obtain ⟨a, ns, rfl, _⟩ := h
    rfl
  obtain ⟨a, ns, rfl, hS, hlen, hb, q⟩ := h
  have h1 : Room 1 _ := hr.mono (by decide)
  have h2 : Room 2 _ := hr.mono (by decide)
  have h3 : Room 3 _ := hr.mono (by decide)
  have h8 : Room (2 + 6) _ := hr.mono (by decide)
  have h9 : Room (2 + 7) _ := hr.mono (by decide)
  have h12 : Room (2 + 10) _ := hr.mono (by decide)
  have hu : Room 101 _ := hr.mono (by decide)
  have u1 : (A.deeper (envOfC "law" (defScope sLaw) s.heap.objs.size f cdv)).units + 130 < cLine := by
    have := hr.un
    omega
  refine ⟨_, pss_cons (ps_set (i := 1) scLaw.nd rfl (.inr rfl) (pe_lst (pa_cons (pe_callTy call_list_of (by rfl) C.zList (by decide +kernel) (pa_cons (pe_slice sl_list (pv 0) po_none (po_some pe_int)) pa_nil)) (pa_cons pe_int (pa_cons pe_int (pa_cons pe_int pa_nil))))))
    (pss_cons (ps_for PassesOwn.never rfl (pi_range1 (by rfl) C.zRange (pa_cons pe_int pa_nil)) (pg_name (i := 2) scLaw.nd rfl (.inl rfl))
      (pss_cons (ps_set (i := 3) scLaw.nd rfl (.inr rfl) (pe_call (C.Kd 6) h8 (by rfl) C.mK C.kK C.bK .nil pass0 (pa_cons (pv 1) (pa_cons pe_int (pa_cons pe_bl pa_nil)))))
      (pss_cons (ps_set (i := 4) scLaw.nd rfl (.inl rfl) (pe_op op_cat (pe_lst (pa_cons (pv 3) (pa_cons (pe_tup (pa_cons pe_str pa_nil)) pa_nil)))
        (pe_lc (own := [("k", 8)]) (g := gName 8) (tt := tYes) rfl scLaw.nd (pi_range1 (by rfl) C.zRange (pa_cons pe_int pa_nil))
          (blkOk_by (N := lawN) (sc := defScope sLaw) (by decide +kernel)) (fun _ _ _ _ _ => pg_name (i := 8) scLaw.nd rfl (Or.inl rfl)) (fun _ _ _ _ _ => pts_nil)
          (fun _ _ _ _ _ => pe_call (C.S 7) h9 (by rfl) C.mS C.kS C.bS .nil pass0 (pa_cons (pv 1) (pa_cons (pv 3) pa_nil))))))
      (pss_cons (ps_set (i := 4) scLaw.nd rfl (.inl rfl) (pe_op op_cat (pv 4) (pe_lc (own := [("thing", 5)]) (g := gName 5) (tt := tYes) rfl scLaw.nd (pi_list (pe_slice sl_list (pv 4) (po_some pe_int) po_none))
          (blkOk_by (N := lawN) (sc := defScope sLaw) (by decide +kernel)) (fun _ _ _ _ _ => pg_name (i := 5) scLaw.nd rfl (Or.inl rfl)) (fun _ _ _ _ _ => pts_nil)
          (fun _ _ _ _ _ => pe_call (C.S 10) h12 (by rfl) C.mS C.kS C.bS .nil pass0 (pa_cons (pv 1) (pa_cons (pv 5) pa_nil))))))
      (pss_one (ps_for PassesOwn.never rfl (pi_list (pe_op op_cat (pv 4) (pe_lst (pa_cons (pe_call C.C h3 (by rfl) C.mC C.kC C.bC .nil pass0 (pa_cons (pv 1) (pa_cons (pe_call C.D.R h1 (by rfl) C.D.mR C.D.kR C.D.bR .nil pass0 (pa_cons (pv 1) (pa_cons pe_int pa_nil))) pa_nil))) pa_nil)))) (pg_name (i := 5) scLaw.nd rfl (.inl rfl))
        (pss_cons (ps_set (i := 6) scLaw.nd rfl (.inl rfl) (pe_callB (cr_reprX gu u1) (by rfl) C.zRepr (by decide +kernel) (pa_cons (pv 5) pa_nil)))
        (pss_cons (ps_set (i := 7) scLaw.nd rfl (.inl rfl) (pe_call C.I h2 (by rfl) C.mI C.kI C.bI .nil pass0 (pa_cons (pv 5) pa_nil)))
        (pss_one (ps_if (PW.pt (pw_or (pt_not (pt_val (pe_callB call_isi (by rfl) C.T.zIs (by decide +kernel) (pa_cons (pv 7) (pa_cons (pe_bltn (v := .ty "bool") (by rfl) C.zBool (by decide +kernel) rfl) pa_nil)))))
          (pw_or (pt_cmpR op_ne (pv 7) (pe_call (C.U 101) hu (by rfl) C.mU C.kU C.bU .nil pass0 (pa_cons (pv 5) pa_nil)) (nomark _))
          (pw_or1 (pt_cmpR op_ne (pe_callB (cr_reprX gu u1) (by rfl) C.zRepr (by decide +kernel) (pa_cons (pv 5) pa_nil)) (pv 6) (nomark _)))))) (pss_one (ps_ret pe_bl)) pss_nil))))))))))
    (pss_one (ps_ret pe_bl))), ?_⟩
  refine ⟨_, rfl, 63, rfl, a, _, rfl, hS, fun l0 nl0 => ?_⟩
  have c63 : cutV (ns.map V.int) none (some 63) = ns.map V.int := by
    have z := cut_to (xs := ns.map V.int) (k := 63)
    rw [show (((63 : Nat) : Int)) = 63 from rfl] at z
    rw [z]
    exact List.take_of_length_le (by rw [List.length_map]; exact hlen)
  rw [c63]
  have e0 : upd H l0 (.lst (ns.map V.int)) l0 = _ := upd_same
  generalize upd H l0 (.lst (ns.map V.int)) = H0 at e0
  refine ⟨l0, _, rfl, .inl (.inl (.inl e0)), fun L nL => ?_⟩
  have e1 : upd H0 L (.lst (ns.map V.int)) L = _ := upd_same
  generalize upd H0 L (.lst (ns.map V.int)) = H1 at e1
  refine ⟨(by show 4 ≤ sizeLine; decide), fun p np => ?_⟩
  have nLp : L ≠ p := fun z => by
    rw [← z, e1] at np
    cases np
  have hD0 : DiceAt (upd H1 p (.lst [.ref L, .int 0, .int 0, .int 0])) p L 0 := ⟨0, 0, 0, ns, upd_same, nLp, by rw [upd_ne nLp]; exact e1, hlen, Int.le_refl _, Int.le_refl _⟩
  generalize upd H1 p (.lst [.ref L, .int 0, .int 0, .int 0]) = H2 at hD0
  have c5 : ck 5 = 126 := by decide
  have s6 : cs 6 = 21 := by decide
  have s9 : cs 9 = 30 := by decide
  have ub : UB 3 6 = 104922 := by decide
  refine ⟨_, rfl, by decide, by decide, ?_⟩
  refine for_range (lo := 0) (n := 6) (fun i σ H' => ∃ y2 y3 y4 y5 y6 y7 y8 : Option V, σ = [some (.ref a), some (.ref p), y2, y3, y4, y5, y6, y7, y8] ∧ DiceAt H' p L (1000 * (i : Int)))
    ⟨_, _, _, _, _, _, _, rfl, hD0.more (by omega)⟩ ?_ ?_
  · rintro i σ X0 hi ⟨y2, y3, y4, y5, y6, y7, y8, rfl, hD⟩
    generalize hm : (1000 * (i : Int)) = m at hD
    have mb : m < 2 ^ 40 := by
      have z : (i : Int) < 6 := by omega
      omega
    -- the kind
    refine ⟨_, rfl, p, L, [p], 5, m, List.mem_singleton.mpr rfl, ls1 hD, rfl, by decide, by omega, hD, fun v d X6 g6 gd6 b6 hD6 => ?_⟩
    have gd6' : Gd 3 6 d := gd6
    have hus : us d ≤ 104922 := by
      have z := us_gd gd6'
      omega
    generalize hm6 : m + ck 5 = m6 at hD6
    have mb6 : m6 < 2 ^ 41 := by omega
    refine ⟨_, rfl, (by show 1 ≤ sizeLine; decide), fun qn nn => ?_⟩
    have z7 := same_new (o := .tup [.str "none"]) nn
    have hD7 := hD6.same z7
    have en : upd X6 qn (.tup [.str "none"]) qn = _ := upd_same
    have g7 := g6.same z7
    generalize upd X6 qn (.tup [.str "none"]) = X7 at z7 hD7 en g7
    have g7n : Df K [p] X7 (.ref qn) (.tuple [.str "none"]) := df1 (ls1 hD7) en
    have gdn : Gd 3 6 (.tuple [.str "none"]) := gd1 (by decide) (by decide +kernel)
    have usn : us (.tuple [.str "none"]) ≤ 104922 := by decide +kernel
    refine ⟨(by show 2 ≤ sizeLine; decide), fun l2 nl2 => ?_⟩
    have z9 := same_new (o := .lst [v, .ref qn]) nl2
    have hD9 := hD7.same z9
    have el2 : upd X7 l2 (.lst [v, .ref qn]) l2 = _ := upd_same
    have nl2p := hD7.ne nl2
    have g9 := g7.same z9
    have g9' := Df.same z9 g7n
    generalize upd X7 l2 (.lst [v, .ref qn]) = X9 at z9 hD9 el2 g9 g9'
    -- five of them spoilt
    refine ⟨_, rfl, by decide, by decide, fun D nD => ?_⟩
    have nDp := hD9.ne nD
    have nDL := hD9.neL nD
    have gv : Df K [D, p] (upd X9 D (.lst [])) v d := g9.more nD
    have gv2 : Df K [D, p] (upd X9 D (.lst [])) (.ref qn) (.tuple [.str "none"]) := g9'.more nD
    have pU : p ∈ [D, p] := List.mem_cons_of_mem _ (List.mem_singleton.mpr rfl)
    have DU : D ∈ [D, p] := List.mem_cons_self
    have hDa := hD9.same (same_new (o := .lst []) nD)
    have sDa := same_new (o := .lst []) nD
    have eDa : upd X9 D (.lst []) D = _ := upd_same
    refine lc_range (lo := 0) (n := 5) (fun j H' => ∃ xs : List V, H' D = some (.lst xs) ∧ xs.length = j ∧ Its K [D, p] H' 4 9 105422 xs ∧ Df K [D, p] H' v d ∧ Df K [D, p] H' (.ref qn) (.tuple [.str "none"]) ∧ But p X9 H' ∧ DiceAt H' p L (m6 + 21 * (j : Int)))
      ⟨[], eDa, rfl, Its.nil, gv, gv2, but_same sDa, hDa.more (by omega)⟩ ?_ ?_
    · rintro j Y hj ⟨xs, eD, lx, ix, iv, iv2, bY, hDY⟩
      refine ⟨rfl, ?_⟩
      refine ⟨_, rfl, _, rfl, p, L, [D, p], v, d, 3, 6, m6 + 21 * (j : Int), pU, ls2 hDY eD, rfl, iv, gd6', by decide, by decide, by decide, by decide, by omega, hDY, fun v' d' Y2 h' gd' ud' bY2 hDY2 => ?_⟩
      have eD2 := bY2 _ _ nDp eD
      have bF : But D Y2 (upd Y2 D (.lst (xs ++ [v']))) := (But.refl D Y2).own
      refine ⟨xs, eD2, Nat.lt_of_lt_of_le (by omega) (show 100 ≤ sizeLine by decide), xs ++ [v'], upd_same, by rw [List.length_append, lx]; rfl, ((ix.but pU bY2).but DU bF).app (.cons (h'.but DU bF) gd' (by omega) .nil), (iv.but pU bY2).but DU bF, (iv2.but pU bY2).but DU bF, fun b o n e => ?_, (hDY2.put nDp nDL).more (by omega)⟩
      rw [upd_ne (ne_of_none e nD)]
      exact bY2 _ _ n (bY _ _ n e)
    · rintro Y ⟨xs, eD, lx, ix, iv, iv2, bY, hDY⟩
      have el2Y := bY _ _ nl2p el2
      refine ⟨l2, D, _, xs, rfl, rfl, el2Y, eD, Nat.le_trans (show 2 + xs.length ≤ 100 by omega) (by decide), fun l3 nl3 => ?_⟩
      have z11 := same_new (o := .lst ([v, .ref qn] ++ xs)) nl3
      have hDb := hDY.same z11
      have nl3p := hDY.ne nl3
      have el3 : upd Y l3 (.lst ([v, .ref qn] ++ xs)) l3 = _ := upd_same
      have ixb : Its K [p] (upd Y l3 (.lst ([v, .ref qn] ++ xs))) 4 9 105422 xs := fun x hx => by
        obtain ⟨d2, a2, g2⟩ := ix x hx
        exact ⟨d2, (Df.less a2).same z11, g2⟩
      have ivb := (Df.less iv).same z11
      have iv2b := (Df.less iv2).same z11
      generalize upd Y l3 (.lst ([v, .ref qn] ++ xs)) = Xb at z11 hDb el3 ixb ivb iv2b
      generalize hmb : m6 + 21 * ((5 : Nat) : Int) = mb' at hDb
      have mbb : mb' < 2 ^ 43 := by omega
      -- these spoilt again
      refine ⟨_, rfl, _, rfl, 2, rfl, l3, _, rfl, .inl (.inl el3), fun l4 nl4 => ?_⟩
      have c2' : cutV ([v, .ref qn] ++ xs) (some 2) none = xs := cut_from (xs := [v, .ref qn] ++ xs) (k := 2)
      rw [c2']
      have z12 := same_new (o := .lst xs) nl4
      have hDc := hDb.same z12
      have nl4p := hDb.ne nl4
      have el4 : upd Xb l4 (.lst xs) l4 = _ := upd_same
      have el3c := z12 _ _ el3
      have ixc := ixb.but (List.mem_singleton.mpr rfl) (but_same z12)
      have ivc := ivb.same z12
      have iv2c := iv2b.same z12
      generalize upd Xb l4 (.lst xs) = Xc at z12 hDc el4 el3c ixc ivc iv2c
      refine ⟨l4, rfl, ⟨_, .inl (.inl el4)⟩, fun D2 nD2 => ?_⟩
      have nDp2 := hDc.ne nD2
      have nDL2 := hDc.neL nD2
      have pU2 : p ∈ [D2, p] := List.mem_cons_of_mem _ (List.mem_singleton.mpr rfl)
      have DU2 : D2 ∈ [D2, p] := List.mem_cons_self
      have ixd : Its K [D2, p] (upd Xc D2 (.lst [])) 4 9 105422 xs := fun x hx => by
        obtain ⟨d2, a2, g2⟩ := ixc x hx
        exact ⟨d2, a2.more nD2, g2⟩
      have ivd : Df K [D2, p] (upd Xc D2 (.lst [])) v d := ivc.more nD2
      have iv2d : Df K [D2, p] (upd Xc D2 (.lst [])) (.ref qn) (.tuple [.str "none"]) := iv2c.more nD2
      have sDd := same_new (o := .lst []) nD2
      have hDd := hDc.same sDd
      have eDd : upd Xc D2 (.lst []) D2 = _ := upd_same
      refine lc_list (K := K) (a := l4) (xs := xs) (fun j H' => ∃ ys : List V, H' D2 = some (.lst ys) ∧ ys.length = j ∧ Its K [D2, p] H' 5 12 105922 ys ∧ Its K [D2, p] H' 4 9 105422 xs ∧ Df K [D2, p] H' v d ∧ Df K [D2, p] H' (.ref qn) (.tuple [.str "none"]) ∧ But p Xc H' ∧ DiceAt H' p L (mb' + 30 * (j : Int)))
        ⟨[], eDd, rfl, Its.nil, ixd, ivd, iv2d, but_same sDd, hDd.more (by omega)⟩ (fun j H' _ ⟨_, _, _, _, _, _, _, b, _⟩ => .inl (.inl (b _ _ nl4p el4))) ?_ ?_
      · rintro j x Y hx ⟨ys, eD, lyy, iy, ix, iv, iv2, bY, hDY⟩
        have jl : j < xs.length := (List.getElem?_eq_some_iff.mp hx).1
        obtain ⟨dx, hdx, gdx, udx⟩ := ix x (List.mem_of_getElem? hx)
        refine ⟨rfl, ?_⟩
        refine ⟨_, rfl, _, rfl, p, L, [D2, p], x, dx, 4, 9, mb' + 30 * (j : Int), pU2, ls2 hDY eD, rfl, hdx, gdx, by decide, by decide, by decide, by decide, by omega, hDY, fun v' d' Y2 h' gd' ud' bY2 hDY2 => ?_⟩
        have eD2 := bY2 _ _ nDp2 eD
        have bF : But D2 Y2 (upd Y2 D2 (.lst (ys ++ [v']))) := (But.refl D2 Y2).own
        refine ⟨ys, eD2, Nat.lt_of_lt_of_le (by omega) (show 100 ≤ sizeLine by decide), ys ++ [v'], upd_same, by rw [List.length_append, lyy]; rfl, ((iy.but pU2 bY2).but DU2 bF).app (.cons (h'.but DU2 bF) gd' (by omega) .nil), (ix.but pU2 bY2).but DU2 bF, (iv.but pU2 bY2).but DU2 bF, (iv2.but pU2 bY2).but DU2 bF, fun b o n e => ?_, (hDY2.put nDp2 nDL2).more (by omega)⟩
        rw [upd_ne (ne_of_none e nD2)]
        exact bY2 _ _ n (bY _ _ n e)
      · rintro Y ⟨ys, eD, lyy, iy, ix, iv, iv2, bY, hDY⟩
        have el3Y := bY _ _ nl3p el3c
        refine ⟨l3, D2, _, ys, rfl, rfl, el3Y, eD, Nat.le_trans (show ([v, .ref qn] ++ xs).length + ys.length ≤ 100 by rw [List.length_append]; show 2 + xs.length + ys.length ≤ 100; omega) (by decide), fun l5 nl5 => ?_⟩
        have z14 := same_new (o := .lst ([v, .ref qn] ++ xs ++ ys)) nl5
        have el5 : upd Y l5 (.lst ([v, .ref qn] ++ xs ++ ys)) l5 = _ := upd_same
        have hDe := hDY.same z14
        have nl5p := hDY.ne nl5
        have all : ∀ x ∈ [v, .ref qn] ++ xs ++ ys, ∃ d, Df K [p] (upd Y l5 (.lst ([v, .ref qn] ++ xs ++ ys))) x d ∧ Wll d := fun x hx => by
          rcases List.mem_append.mp hx with hx | hx
          · rcases List.mem_append.mp hx with hx | hx
            · rcases List.mem_cons.mp hx with rfl | hx
              · exact ⟨d, (Df.less iv).same z14, wll_gd gd6' (by decide) (by omega)⟩
              · rw [List.mem_singleton.mp hx]
                exact ⟨_, (Df.less iv2).same z14, wll_gd gdn (by decide) (by omega)⟩
            · obtain ⟨d2, a2, g2, u2⟩ := ix x hx
              exact ⟨d2, (Df.less a2).same z14, wll_gd g2 (by decide) (by omega)⟩
          · obtain ⟨d2, a2, g2, u2⟩ := iy x hx
            exact ⟨d2, (Df.less a2).same z14, wll_gd g2 (by decide) (by omega)⟩
        have lw : ([v, .ref qn] ++ xs ++ ys).length ≤ 12 := by
          rw [List.length_append, List.length_append]
          show 2 + xs.length + ys.length ≤ 12
          omega
        generalize hls : [v, .ref qn] ++ xs ++ ys = ws at z14 el5 hDe all lw
        generalize upd Y l5 (.lst ws) = Xe at z14 el5 hDe all
        have dlen : mb' + 30 * ((xs.length : Nat) : Int) ≤ mb' + 150 := by omega
        have hDe := hDe.more dlen
        -- the chain
        refine ⟨_, rfl, _, rfl, _, rfl, p, L, 90, mb' + 150, rfl, by decide, by decide, by omega, hDe, fun r Xf r0 r90 bf hDf => ?_⟩
        obtain ⟨rn, rfl⟩ := Int.eq_ofNat_of_zero_le r0
        refine ⟨p, L, [p], rn, mb' + 150 + 1, List.mem_singleton.mpr rfl, ls1 hDf, rfl, by omega, by omega, hDf, fun vc dc Xg gc cz bg hDg => ?_⟩
        refine ⟨(by show 1 ≤ sizeLine; decide), fun l6 nl6 => ?_⟩
        have z15 := same_new (o := .lst [vc]) nl6
        have el6 : upd Xg l6 (.lst [vc]) l6 = _ := upd_same
        have hDh := hDg.same z15
        have gc' := gc.same z15
        have b15 : But p Xe (upd Xg l6 (.lst [vc])) := (bf.trans bg).trans (but_same z15)
        generalize upd Xg l6 (.lst [vc]) = Xh at z15 el6 hDh gc' b15
        have el5h := b15 _ _ nl5p el5
        refine ⟨l5, l6, ws, [vc], rfl, rfl, el5h, el6, Nat.le_trans (show ws.length + 1 ≤ 100 by omega) (by decide), fun l7 nl7 => ?_⟩
        have z16 := same_new (o := .lst (ws ++ [vc])) nl7
        have el7 : upd Xh l7 (.lst (ws ++ [vc])) l7 = _ := upd_same
        have hDi := hDh.same z16
        have all2 : ∀ x ∈ ws ++ [vc], ∃ d, Dp K (upd Xh l7 (.lst (ws ++ [vc]))) x d ∧ Wll d := fun x hx => by
          rcases List.mem_append.mp hx with hx | hx
          · obtain ⟨d2, a2, g2⟩ := all x hx
            exact ⟨d2, ((a2.but (List.mem_singleton.mpr rfl) b15).same z16).dp, g2⟩
          · rw [List.mem_singleton.mp hx]
            exact ⟨dc, (gc'.same z16).dp, wll_cz cz (by omega)⟩
        generalize ws ++ [vc] = ts at z16 el7 hDi all2
        generalize upd Xh l7 (.lst ts) = Xi at z16 el7 hDi all2
        refine ⟨l7, rfl, ⟨_, .inl (.inl el7)⟩, for_list (K := K) (a := l7) (xs := ts) (fun j σ H' => ∃ y5 y6 y7 y8 : Option V, σ = [some (.ref a), some (.ref p), some (.int (0 + (i : Int))), some v, some (.ref l5), y5, y6, y7, y8] ∧ Same Xi H')
          ⟨_, _, _, _, rfl, fun _ _ e => e⟩ (fun j σ H' _ ⟨_, _, _, _, _, sm⟩ => .inl (.inl (sm _ _ el7))) ?_ ?_⟩
        · rintro j x σ H8 hx ⟨y5, y6, y7, y8, rfl, sm⟩
          obtain ⟨dx, hdx0, W⟩ := all2 x (List.mem_of_getElem? hx)
          have hdx := dp_up sm _ _ hdx0
          have d120 : dx.depth ≤ 120 := Nat.le_trans W.deep (by decide)
          have d110 : dx.depth ≤ 110 := Nat.le_trans W.deep (by decide)
          have d101 : dx.depth < 101 := Nat.lt_succ_of_le W.deep
          refine ⟨_, rfl, x, dx, rfl, hdx, W.show_, W.dict, d120, W.len, ?_⟩
          refine ⟨_, rfl, x, dx, rfl, hdx, W.lay, W.deep, W.sz, fun H9 s9 => ?_⟩
          refine ⟨_, rfl, _, _, _, _, true, rfl, .ty "bool", .base (.bl _), kit_ty (by decide +kernel), _, rfl, ?_⟩
          refine iteF ⟨_, rfl, _, rfl, x, dx, rfl, dp_up s9 _ _ hdx, W.lay, d101, d110, fun Ha sa => ?_⟩
          refine ⟨rfl, _, rfl, iteNS rfl ?_⟩
          refine ⟨_, rfl, x, dx, rfl, dp_up (s9.trans sa) _ _ hdx, W.show_, W.dict, d120, W.len, _, rfl, rfl, _, rfl, iteNS rfl ?_⟩
          exact ⟨_, _, _, _, rfl, sm.trans (s9.trans sa)⟩
        · rintro σ H8 ⟨y5, y6, y7, y8, rfl, sm⟩
          exact ⟨_, _, _, _, _, _, _, rfl, (hDi.same sm).more (by omega)⟩
  · rintro σ X0 ⟨y2, y3, y4, y5, y6, y7, y8, rfl, hD⟩
    exact q _
end
end Kf
set_option Elab.async false
set_option linter.all false
set_option maxRecDepth 100000
/-! The top, the end. -/
namespace Kf
open PySem PySem.Spec PyProof.Rows L2 Sx _root_.Gd
theorem all_mk {l : PySem.W.OpenLaw} {w : World} {K : PySem.W.Frag} {h : Heap} {mg : Str → Option Value} {fa f1 f2 f3 f4 f5 f6 f7 f8 f9 : Addr} (X : K.In h) (G : h.Ns mainGlobals mg) (hfa : mg "law" = some (.ref fa))
    {od1 an1 od2 an2 od3 an3 od4 an4 od5 an5 od6 an6 od7 an7 od8 an8 od9 an9 : Option Addr} {sl1 sl2 sl3 sl4 sl5 sl6 sl7 sl8 sl9 : Array (Option Value)} {oc1 kV1 dc1 pm1 cd1 ct1 oc2 kV2 dc2 pm2 cd2 ct2 oc3 kV3 dc3 pm3 cd3 ct3 oc4 kV4 dc4 pm4 cd4 ct4 oc5 kV5 dc5 pm5 cd5 ct5 oc6 kV6 dc6 pm6 cd6 ct6 oc7 kV7 dc7 pm7 cd7 ct7 oc8 kV8 dc8 pm8 cd8 ct8 oc9 kV9 dc9 pm9 cd9 ct9 : Value}
    (a1 : PySem.W.nsIn K mainGlobals "has_form" = some (some (.ref f1))) (l1 : K.lookup f1 = some ⟨oc1, od1, .func (PySem.W.fnOf "has_form" "has_form" (defArgs sForm) (defBody sForm) (defScope sForm) .none kV1 dc1 pm1 an1 cd1 ct1), sl1⟩) (c1 : PySem.W.codeIn K cd1 "has_form" = true) (k1 : PySem.W.keepIn K (.ref f1) = true)
    (a2 : PySem.W.nsIn K mainGlobals "is_kind" = some (some (.ref f2))) (l2 : K.lookup f2 = some ⟨oc2, od2, .func (PySem.W.fnOf "is_kind" "is_kind" (defArgs sIsKind) (defBody sIsKind) (defScope sIsKind) .none kV2 dc2 pm2 an2 cd2 ct2), sl2⟩) (c2 : PySem.W.codeIn K cd2 "is_kind" = true) (k2 : PySem.W.keepIn K (.ref f2) = true)
    (a3 : PySem.W.nsIn K mainGlobals "_law_roll" = some (some (.ref f3))) (l3 : K.lookup f3 = some ⟨oc3, od3, .func (PySem.W.fnOf "_law_roll" "_law_roll" (defArgs sRoll) (defBody sRoll) (defScope sRoll) .none kV3 dc3 pm3 an3 cd3 ct3), sl3⟩) (c3 : PySem.W.codeIn K cd3 "_law_roll" = true) (k3 : PySem.W.keepIn K (.ref f3) = true)
    (a4 : PySem.W.nsIn K mainGlobals "_law_pick" = some (some (.ref f4))) (l4 : K.lookup f4 = some ⟨oc4, od4, .func (PySem.W.fnOf "_law_pick" "_law_pick" (defArgs sPick) (defBody sPick) (defScope sPick) .none kV4 dc4 pm4 an4 cd4 ct4), sl4⟩) (c4 : PySem.W.codeIn K cd4 "_law_pick" = true) (k4 : PySem.W.keepIn K (.ref f4) = true)
    (a5 : PySem.W.nsIn K mainGlobals "_law_kind" = some (some (.ref f5))) (l5 : K.lookup f5 = some ⟨oc5, od5, .func (PySem.W.fnOf "_law_kind" "_law_kind" (defArgs sKind) (defBody sKind) (defScope sKind) .none kV5 dc5 pm5 an5 cd5 ct5), sl5⟩) (c5 : PySem.W.codeIn K cd5 "_law_kind" = true) (k5 : PySem.W.keepIn K (.ref f5) = true)
    (a6 : PySem.W.nsIn K mainGlobals "_law_due" = some (some (.ref f6))) (l6 : K.lookup f6 = some ⟨oc6, od6, .func (PySem.W.fnOf "_law_due" "_law_due" (defArgs sDue) (defBody sDue) (defScope sDue) .none kV6 dc6 pm6 an6 cd6 ct6), sl6⟩) (c6 : PySem.W.codeIn K cd6 "_law_due" = true) (k6 : PySem.W.keepIn K (.ref f6) = true)
    (a7 : PySem.W.nsIn K mainGlobals "_law_spoilt" = some (some (.ref f7))) (l7 : K.lookup f7 = some ⟨oc7, od7, .func (PySem.W.fnOf "_law_spoilt" "_law_spoilt" (defArgs sSpoilt) (defBody sSpoilt) (defScope sSpoilt) .none kV7 dc7 pm7 an7 cd7 ct7), sl7⟩) (c7 : PySem.W.codeIn K cd7 "_law_spoilt" = true) (k7 : PySem.W.keepIn K (.ref f7) = true)
    (a8 : PySem.W.nsIn K mainGlobals "_law_chain" = some (some (.ref f8))) (l8 : K.lookup f8 = some ⟨oc8, od8, .func (PySem.W.fnOf "_law_chain" "_law_chain" (defArgs sChain) (defBody sChain) (defScope sChain) .none kV8 dc8 pm8 an8 cd8 ct8), sl8⟩) (c8 : PySem.W.codeIn K cd8 "_law_chain" = true) (k8 : PySem.W.keepIn K (.ref f8) = true)
    (a9 : PySem.W.nsIn K mainGlobals "law" = some (some (.ref f9))) (l9 : K.lookup f9 = some ⟨oc9, od9, .func (PySem.W.fnOf "law" "law" (defArgs sLaw) (defBody sLaw) (defScope sLaw) .none kV9 dc9 pm9 an9 cd9 ct9), sl9⟩) (c9 : PySem.W.codeIn K cd9 "law" = true) (k9 : PySem.W.keepIn K (.ref f9) = true)
    (zrange : PySem.W.nsIn K mainGlobals "range" = some none)
    (zlen : PySem.W.nsIn K mainGlobals "len" = some none)
    (zlist : PySem.W.nsIn K mainGlobals "list" = some none)
    (zisinstance : PySem.W.nsIn K mainGlobals "isinstance" = some none)
    (zbool : PySem.W.nsIn K mainGlobals "bool" = some none)
    (zstr : PySem.W.nsIn K mainGlobals "str" = some none)
    (ztuple : PySem.W.nsIn K mainGlobals "tuple" = some none)
    (zrepr : PySem.W.nsIn K mainGlobals "repr" = some none)
    {NO : Addr} {dNO : Option Addr} {sNO : Array (Option Value)} {nNO : Nat} {tNO0 : Tok} (aNO : PySem.W.nsIn K mainGlobals "NONE" = some (some (.ref NO))) (pNO : K.lookup NO = some ⟨.type "tuple", dNO, .seq #[.str "none" tNO0] nNO, sNO⟩)
    {NU : Addr} {dNU : Option Addr} {sNU : Array (Option Value)} {nNU : Nat} {tNU0 : Tok} (aNU : PySem.W.nsIn K mainGlobals "NUMBER" = some (some (.ref NU))) (pNU : K.lookup NU = some ⟨.type "tuple", dNU, .seq #[.str "number" tNU0] nNU, sNU⟩)
    {PA : Addr} {dPA : Option Addr} {sPA : Array (Option Value)} {nPA : Nat} {tPA0 tPA1 tPA2 : Tok} (aPA : PySem.W.nsIn K mainGlobals "PAIRED" = some (some (.ref PA))) (pPA : K.lookup PA = some ⟨.type "tuple", dPA, .seq #[.str "pair" tPA0, .str "from" tPA1, .str "either" tPA2] nPA, sPA⟩)
    {tM : Tok} {gM : Int} (aM : PySem.W.nsIn K mainGlobals "MOST_WITHIN" = some (some (.int gM tM))) (eM : gM = 100) :
    LawG l w K 112 63 "script" mg fa h := by
  have e := hfa.symm.trans (PySem.W.mg_of X G a9)
  cases e
  have F1 := fun_mk (st := sForm) l1 c1 k1
  have b1 := F1.binds (ps := ["piece"]) fun _ _ _ _ _ _ us hl => match us, hl with | [_], _ => rfl
  have m1 := PySem.W.mg_of X G a1
  have F2 := fun_mk (st := sIsKind) l2 c2 k2
  have b2 := F2.binds (ps := ["thing"]) fun _ _ _ _ _ _ us hl => match us, hl with | [_], _ => rfl
  have m2 := PySem.W.mg_of X G a2
  have F3 := fun_mk (st := sRoll) l3 c3 k3
  have b3 := F3.binds (ps := ["dice", "size"]) fun _ _ _ _ _ _ us hl => match us, hl with | [_, _], _ => rfl
  have m3 := PySem.W.mg_of X G a3
  have F4 := fun_mk (st := sPick) l4 c4 k4
  have b4 := F4.binds (ps := ["dice", "some"]) fun _ _ _ _ _ _ us hl => match us, hl with | [_, _], _ => rfl
  have m4 := PySem.W.mg_of X G a4
  have F5 := fun_mk (st := sKind) l5 c5 k5
  have b5 := F5.binds (ps := ["dice", "deep", "whole"]) fun _ _ _ _ _ _ us hl => match us, hl with | [_, _, _], _ => rfl
  have m5 := PySem.W.mg_of X G a5
  have F6 := fun_mk (st := sDue) l6 c6 k6
  have b6 := F6.binds (ps := ["thing"]) fun _ _ _ _ _ _ us hl => match us, hl with | [_], _ => rfl
  have m6 := PySem.W.mg_of X G a6
  have F7 := fun_mk (st := sSpoilt) l7 c7 k7
  have b7 := F7.binds (ps := ["dice", "thing"]) fun _ _ _ _ _ _ us hl => match us, hl with | [_, _], _ => rfl
  have m7 := PySem.W.mg_of X G a7
  have F8 := fun_mk (st := sChain) l8 c8 k8
  have b8 := F8.binds (ps := ["dice", "many"]) fun _ _ _ _ _ _ us hl => match us, hl with | [_, _], _ => rfl
  have m8 := PySem.W.mg_of X G a8
  have F9 := fun_mk (st := sLaw) l9 c9 k9
  have m9 := PySem.W.mg_of X G a9
  have grange := PySem.W.mg_none_of X G zrange
  have glen := PySem.W.mg_none_of X G zlen
  have glist := PySem.W.mg_none_of X G zlist
  have gisinstance := PySem.W.mg_none_of X G zisinstance
  have gbool := PySem.W.mg_none_of X G zbool
  have gstr := PySem.W.mg_none_of X G zstr
  have gtuple := PySem.W.mg_none_of X G ztuple
  have grepr := PySem.W.mg_none_of X G zrepr
  refine ⟨PySem.W.fnOf "law" "law" (defArgs sLaw) (defBody sLaw) (defScope sLaw) .none kV9 dc9 pm9 an9 cd9 ct9, [], spLaw K, fun p hp => (List.not_mem_nil hp).elim, fun p hp => (List.not_mem_nil hp).elim, fun p hp => (List.not_mem_nil hp).elim, fun s v => .of_eq rfl,
    fun H a ns hl hb _ hS => ⟨a, ns, rfl, hS, hl, hb, fun _ => rfl⟩, fun base _ _ _ => ?_⟩

  have T : Blt mg := ⟨gisinstance, gstr, gtuple, glen⟩
  have X1 : Tx K mg NO NU PA := ⟨PySem.W.mg_of X G aNO, PySem.W.mg_of X G aNU, PySem.W.mg_of X G aPA, fun H => .inr ⟨_, _, _, pNO, rfl, rfl, (by show 1 ≤ sizeLine; decide), (.cons ⟨_, rfl⟩ .nil)⟩, fun H => .inr ⟨_, _, _, pNU, rfl, rfl, (by show 1 ≤ sizeLine; decide), (.cons ⟨_, rfl⟩ .nil)⟩, fun H => .inr ⟨_, _, _, pPA, rfl, rfl, (by show 3 ≤ sizeLine; decide), (.cons ⟨_, rfl⟩ (.cons ⟨_, rfl⟩ (.cons ⟨_, rfl⟩ .nil)))⟩, gisinstance, gtuple, glen⟩
  have mM : mg "MOST_WITHIN" = some (.int 100 tM) := by
    rw [← eM]
    exact PySem.W.mg_of X G aM
  have gRoll := ok_roll (P := l.prog) (w := w) (base := base) (j := 0) F3 glen
  have D : Draw l.prog w K mg base f3 f4 _ _ := ⟨gRoll, b3, k3, m3, ok_pick F4 gRoll b3 k3 m3 glen, b4, k4, m4⟩
  have gFo := ok_form (P := l.prog) (w := w) (base := base) (j := 0) F1 X1
  have gIs := ok_iskind F2 X1 mM gFo b1 k1 m1
  have gKd := ok_kinds F5 D b5 m5
  have gDu := ok_dues (P := l.prog) (w := w) (base := base) F6 T b6 m6
  have gSp := ok_sps F7 D T glist b7 m7
  have gCh := ok_chain F8 D grange
  exact ok_law F9 ⟨D, gKd, b5, k5, m5, gCh, b8, k8, m8, gDu, b6, k6, m6, gSp, b7, k7, m7, gIs, b2, k2, m2, T, gbool, grange, glist, grepr⟩
theorem walk {l : PySem.W.OpenLaw} {q : Program} {loose : List Str} {XP : (Str → Option Value) → Heap → Prop} {YP : World → Heap → Prop} {d : DefRec} {K : Params → PySem.W.Frag} (hn : l.most = some 63) (hdf : d.params.defaults = [])
    (hY : ∀ (w : World) (h : Heap), YP w h → (K w.params).In h)
    (F : ∀ (w : World) (mg : Str → Option Value) (fa : Addr) (h : Heap), (K w.params).In h → h.Ns mainGlobals mg → mg d.name = some (.ref fa) → LawG l w (K w.params) 112 63 "script" mg fa h) :
    PySem.W.WalkO q loose XP YP l.row.toRowW d [] (fun f vs => PySem.call f vs) :=
  walk_guard [] hn (by decide) hdf ⟨rfl, by decide, by decide⟩ (fun nm h => (List.not_mem_nil h).elim) hY (fun w mg fa h _ KX G hm _ => F w mg fa h KX G hm)
end Kf
open PySem PySem.W PyProof.Rows in
set_option maxRecDepth 100000 in
set_option maxHeartbeats 0 in
theorem PySem.Challenge.cw_prooffruit_k20_kinds_or_not_holds : PySem.Challenge.rw_prooffruit_k20_kinds_or_not.Holds := by
  w_on; o_law; k_head; (case hw => w_witness2)
  k_fill
  refine Kf.walk (l := PySem.Challenge.rw_prooffruit_k20_kinds_or_not) rfl rfl (fun w h Y => PySem.W.kIn_of Y) ?F
  case F =>
    intro w mg fa h KX G hmg
    refine' Kf.all_mk KX G hmg ?a1 ?l1 ?c1 ?k1 ?a2 ?l2 ?c2 ?k2 ?a3 ?l3 ?c3 ?k3 ?a4 ?l4 ?c4 ?k4 ?a5 ?l5 ?c5 ?k5 ?a6 ?l6 ?c6 ?k6 ?a7 ?l7 ?c7 ?k7 ?a8 ?l8 ?c8 ?k8 ?a9 ?l9 ?c9 ?k9 ?zrange ?zlen ?zlist ?zisinstance ?zbool ?zstr ?ztuple ?zrepr ?aNO ?pNO ?aNU ?pNU ?aPA ?pPA ?aM ?eM
    (case a1 => first | k_is | rfl)
    (case l1 => first | k_is | rfl)
    (case c1 => first | k_is | rfl)
    (case k1 => first | k_is | rfl)
    (case a2 => first | k_is | rfl)
    (case l2 => first | k_is | rfl)
    (case c2 => first | k_is | rfl)
    (case k2 => first | k_is | rfl)
    (case a3 => first | k_is | rfl)
    (case l3 => first | k_is | rfl)
    (case c3 => first | k_is | rfl)
    (case k3 => first | k_is | rfl)
    (case a4 => first | k_is | rfl)
    (case l4 => first | k_is | rfl)
    (case c4 => first | k_is | rfl)
    (case k4 => first | k_is | rfl)
    (case a5 => first | k_is | rfl)
    (case l5 => first | k_is | rfl)
    (case c5 => first | k_is | rfl)
    (case k5 => first | k_is | rfl)
    (case a6 => first | k_is | rfl)
    (case l6 => first | k_is | rfl)
    (case c6 => first | k_is | rfl)
    (case k6 => first | k_is | rfl)
    (case a7 => first | k_is | rfl)
    (case l7 => first | k_is | rfl)
    (case c7 => first | k_is | rfl)
    (case k7 => first | k_is | rfl)
    (case a8 => first | k_is | rfl)
    (case l8 => first | k_is | rfl)
    (case c8 => first | k_is | rfl)
    (case k8 => first | k_is | rfl)
    (case a9 => first | k_is | rfl)
    (case l9 => first | k_is | rfl)
    (case c9 => first | k_is | rfl)
    (case k9 => first | k_is | rfl)
    (case zrange => first | k_is | rfl)
    (case zlen => first | k_is | rfl)
    (case zlist => first | k_is | rfl)
    (case zisinstance => first | k_is | rfl)
    (case zbool => first | k_is | rfl)
    (case zstr => first | k_is | rfl)
    (case ztuple => first | k_is | rfl)
    (case zrepr => first | k_is | rfl)
    (case aNO => first | k_is | rfl)
    (case pNO => first | k_is | rfl)
    (case aNU => first | k_is | rfl)
    (case pNU => first | k_is | rfl)
    (case aPA => first | k_is | rfl)
    (case pPA => first | k_is | rfl)
    (case aM => first | k_is | rfl)
    (case eM => first | rfl | decide +kernel)
