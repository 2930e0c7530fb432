import PyProof.Rows.All
import Wide.All
import OpenK.AllK
import Wide.FinOn
import HandS.ForMost
import HandS.SetKeys
import HandS.SetFor
import HandS.Strs
import HandS.More
import HandS.Wide
import HandS.IsInst
import HandS.TupAny
import HandS.EndBits
import HandS.WideBits
import HandS.Deep
import HandS.DeepEq
import HandS.AnyAll
import PyProof.ReprLen
import HandS.Zip
import HandS.Walk
import HandS.Lambda
import HandS.Nested
import HandS.Star
import HandS.Flow
import HandS.EndTab
import PyProof.ReprRoads
import HandS.EndOwn
import HandS.TupLe
import PySem.Challenge.RW_prooffruit_k02_what_is_a_saying
set_option Elab.async false
set_option linter.all false
set_option maxRecDepth 100000
set_option maxHeartbeats 4000000
/-! Sets of texts, whatever the world's order of them is: set(), set(a list), add, sorted. -/
namespace Sx
open PySem PySem.Spec PyProof.Rows L2
/-- the text of an entry -/
def tx (e : Int × Value) : Str := match e.2 with
  | .str k _ => k
  | _ => Str.empty
def Ent (w : World) (e : Int × Value) : Prop := ∃ k tk, e = (hashStr w k, Value.str k tk)
/-- one text more -/
def ins (k : Str) (ks : List Str) : List Str := if k ∈ ks then ks else k :: ks
theorem ins_mem {k j : Str} {ks : List Str} : j ∈ ins k ks ↔ j = k ∨ j ∈ ks := by
  unfold ins
  split
  · rename_i h
    exact ⟨.inr, fun q => q.elim (fun e => e ▸ h) (fun q => q)⟩
  · exact List.mem_cons
theorem ins_nodup {k : Str} {ks : List Str} (h : ks.Nodup) : (ins k ks).Nodup := by
  unfold ins
  split
  · exact h
  · rename_i q
    exact List.nodup_cons.mpr ⟨q, h⟩
theorem ins_len {k : Str} {ks : List Str} : (ins k ks).length ≤ ks.length + 1 := by
  unfold ins
  split
  · omega
  · exact Nat.le_refl _
/-- the set's table: its rows are the texts ks, it can be walked -/
structure Rows (w : World) (es : Array (Int × Value)) (t : SetTable) (ks : List Str) : Prop where
  ent : ∀ e ∈ es.toList, Ent w e
  perm : (es.toList.map tx).Perm ks
  nd : ks.Nodup
  few : es.size < scanBound
  fit : t.fits es.size = true
  ris : Ris t.place.toList
  led : w.params.followText "set-order" = true ∨ t.led = true
def SetS (w : World) (h : Heap) (a : Addr) (ks : List Str) : Prop := ∃ o es ep t, h.get? a = some o ∧ o.ExactSet ∧ o.data = .set es ep t ∧ Rows w es t ks
section
variable {P : Program} {w : World} {h h' : Heap} {a : Addr} {ks : List Str} {es : Array (Int × Value)} {t : SetTable}
theorem SetS.stay (R : SetS w h a ks) (k : ∀ o, h.get? a = some o → h'.get? a = some o) : SetS w h' a ks := by
  obtain ⟨o, es, ep, t, ho, z⟩ := R
  exact ⟨o, es, ep, t, k o ho, z⟩
theorem Rows.size (r : Rows w es t ks) : es.size = ks.length := by
  have q := r.perm.length_eq
  rw [List.length_map, Array.length_toList] at q
  exact q
theorem ent_is {e : Int × Value} (g : Ent w e) (k : Str) : (PySem.strKind P w).is k e.2 = true ↔ tx e = k := by
  obtain ⟨j, tk, rfl⟩ := g
  show (j == k) = true ↔ j = k
  exact beq_iff_eq
theorem Rows.elems (r : Rows w es t ks) : ElemsOf (PySem.strKind P w) es.toList := by
  intro e he
  obtain ⟨k, tk, rfl⟩ := r.ent e he
  exact ⟨⟨k, strKind_is P w k tk, rfl⟩, rfl⟩
theorem Rows.mem (r : Rows w es t ks) (k : Str) : k ∈ ks ↔ ∃ e ∈ es.toList, (PySem.strKind P w).is k e.2 = true := by
  rw [← r.perm.mem_iff, List.mem_map]
  exact ⟨fun ⟨e, he, q⟩ => ⟨e, he, (ent_is (r.ent e he) k).2 q⟩, fun ⟨e, he, q⟩ => ⟨e, he, (ent_is (r.ent e he) k).1 q⟩⟩
theorem SetS.of (R : SetS w h a ks) : h.SetOf (PySem.strKind P w) a (fun k => decide (k ∈ ks)) ks.length := by
  obtain ⟨o, es, ep, t, ho, hx, hd, r⟩ := R
  exact ⟨o, es, ep, t, ho, hx, hd, r.elems, fun k => by rw [decide_eq_true_iff]; exact r.mem k, r.few, r.fit, r.size⟩
theorem rows_new (w : World) : Rows w #[] (.fresh 0 0 (!w.params.followText "set-order")) [] where
  ent := fun e he => by simp at he
  perm := List.Perm.refl _
  nd := List.nodup_nil
  few := by decide
  fit := rfl
  ris := List.Pairwise.nil
  led := by
    show _ ∨ (!w.params.followText "set-order") = true
    cases w.params.followText "set-order" with
    | true => exact .inl rfl
    | false => exact .inr rfl
end
section
variable {P : Program} {w : World} {A : Around} {E : Value → Shared → Prop} {s : Shared} {a : Addr} {ks : List Str}
/-- the table is stored, and laid anew where it is too full -/
theorem stored {gave : Bool → Sem Unit} (hg : ∀ (b : Bool) (z : Shared) (Y : Unit → Shared → Prop), Y () z → wpAny (model P w) A (gave b) Y E z)
    {o : Obj} {es0 es : Array (Int × Value)} {ep : Nat} {t0 t : SetTable} (ho : s.heap.get? a = some o) (hx : o.ExactSet) (hd : o.data = .set es0 ep t0) (r : Rows w es t ks) {dummy : Bool} {Z : Option Bool → Shared → Prop}
    (hZ : ∀ h', Heap.SameBut a s.heap h' → SetS w h' a ks → Z (some true) { s with heap := h' }) :
    wpAny (model P w) A (do
        storeSet a es t
        if (!dummy && t.tooFull) = true then do
            gave (relayAll t es (SetTable.grown es.size)).2.2
            storeSet a (relayAll t es (SetTable.grown es.size)).1 (relayAll t es (SetTable.grown es.size)).2.1
            pure (some true)
          else pure (some true)) Z E s := by
  have first := Heap.SameBut.update s.heap a (Obj.putSet es t)
  have o1 := store_at (es' := es) (t' := t) ho hd
  refine wpAny_bind (wpAny_storeSet_of ho hd ?_ (fits_of_scanBound r.few))
  by_cases full : (!dummy && t.tooFull) = true
  · rw [if_pos full]
    have r2 : Rows w (relayAll t es (SetTable.grown es.size)).1 (relayAll t es (SetTable.grown es.size)).2.1 ks := by
      have pm := relayAll_perm t es (SetTable.grown es.size)
      have sz : (relayAll t es (SetTable.grown es.size)).1.size = es.size := by
        have q := pm.length_eq
        rw [Array.length_toList, Array.length_toList] at q
        exact q
      exact ⟨fun e he => r.ent e (pm.mem_iff.mp he), (pm.map tx).trans r.perm, r.nd, Nat.lt_of_le_of_lt (Nat.le_of_eq sz) r.few, relayAll_fits _ _ _, relayAll_ris _ _ _, r.led.imp (fun z => z) fun z => (relayAll_led _ _ _).trans z⟩
    refine wpAny_bind (hg _ _ _ (wpAny_bind (wpAny_storeSet_of o1 rfl ?_ (fits_of_scanBound r2.few))))
    exact wpAny_pure (hZ _ (first.trans (Heap.SameBut.update _ a _)) ⟨_, _, _, _, store_at o1 rfl, hx, rfl, r2⟩)
  · rw [if_neg full]
    exact wpAny_pure (hZ _ first ⟨_, _, _, _, o1, hx, rfl, r⟩)
theorem plain_off {w : World} {es : Array (Int × Value)} {t : SetTable} {ks : List Str} (r : Rows w es t ks) : Rows w es { t with plain := false } ks :=
  ⟨r.ent, r.perm, r.nd, r.few, SetTable.fits_plain_off r.fit, r.ris, r.led⟩
/-- a text whose hash is known is added -/
theorem add_at {k : Str} {tk : Tok} {Z : Bool → Shared → Prop} (R : SetS w s.heap a ks) (room : ks.length + 1 < scanBound)
    (hZ : ∀ b h', Heap.SameBut a s.heap h' → SetS w h' a (ins k ks) → Z b { s with heap := h' }) : wpAny (model P w) A (setAddHashed a (.str k tk) (hashStr w k)) Z E s := by
  obtain ⟨o, es, ep, t, ho, hx, hd, r⟩ := R
  have hel : ElemsOf (PySem.strKind P w) es.toList := r.elems
  have hscan : byScan (Value.str k tk) es = true := byScan_of rfl r.few hel
  unfold setAddHashed setAddHashedIn
  refine wpAny_holding (wpAny_bind (wpAny_setState_of ho hd r.fit ?_))
  dsimp only
  rw [hscan]
  simp only [↓reduceIte]
  unfold setAddByScan
  refine wpAny_bind (wpAny_bind (wpAny_rule (wpAny_bind (wpAny_setScan_of (knd := PySem.strKind P w) (k := k) (strKind_is P w k tk) ho hd r.fit hel ?_))))
  cases found : List.findIdx? (fun e => (PySem.strKind P w).is k e.2) es.toList with
  | some j =>
    obtain ⟨lt, hit, _⟩ := List.findIdx?_eq_some_iff_getElem.mp found
    have there : k ∈ ks := (r.mem (P := P) k).2 ⟨_, List.getElem_mem lt, hit⟩
    refine wpAny_pure (wpAny_pure (hZ _ s.heap (Heap.SameBut.refl a s.heap) ⟨o, es, ep, t, ho, hx, hd, ?_⟩))
    unfold ins
    rw [if_pos there]
    exact r
  | none =>
    have away : k ∉ ks := fun z => by
      obtain ⟨e, he, hit⟩ := (r.mem (P := P) k).1 z
      have no := List.findIdx?_eq_none_iff.mp found e he
      rw [hit] at no
      cases no
    have pm0 := layNew_perm t es (hashStr w k) (.str k tk)
    rw [Array.toList_push] at pm0
    have pm := pm0.trans (List.perm_append_singleton (hashStr w k, Value.str k tk) es.toList)
    have r1 : Rows w (layNew t es (hashStr w k) (.str k tk)).1 (layNew t es (hashStr w k) (.str k tk)).2.1 (ins k ks) := by
      have sz : (layNew t es (hashStr w k) (.str k tk)).1.size = ks.length + 1 := by
        have q := pm.length_eq
        rw [Array.length_toList, List.length_cons, Array.length_toList, r.size] at q
        exact q
      refine ⟨fun e he => ?_, ?_, ins_nodup r.nd, Nat.lt_of_le_of_lt (Nat.le_of_eq sz) room, layNew_fits _ _ _ _, layNew_ris _ _ _ _ r.ris, r.led.imp (fun z => z) fun z => (layNew_led _ _ _ _).trans z⟩
      · rcases List.mem_cons.mp (pm.mem_iff.mp he) with z | z
        · exact ⟨k, tk, z⟩
        · exact r.ent e z
      · unfold ins
        rw [if_neg away]
        exact (pm.map tx).trans (List.Perm.cons k r.perm)
    have gw : ∀ (b : Bool) (z : Shared) (Y : Unit → Shared → Prop), Y () z → wpAny (model P w) A (match b with | true => rule "set.scan.the-table-gave-way" | false => pure ()) Y E z := by
      intro b z Y q
      cases b with
      | true => exact wpAny_rule q
      | false => exact wpAny_pure q
    have goal2 : ∀ h', Heap.SameBut a s.heap h' → SetS w h' a (ins k ks) → Z true { s with heap := h' } := fun h' sb r' => hZ true h' sb r'
    dsimp only
    change wpAny _ _ _ _ _ _
    generalize layNew t es (hashStr w k) (.str k tk) = L at r1 ⊢
    obtain ⟨es1, t1, dummy, gave⟩ := L
    dsimp only at r1 ⊢
    refine wpAny_bind (gw _ _ _ ?_)
    by_cases pl : t1.plain = true
    · rw [if_pos pl]
      refine wpAny_bind ?_
      rw [hashByValue_scannable 8 (show (Value.str k tk).scannable = true from rfl)]
      refine wpAny_pure ?_
      refine stored gw ho hx hd (ks := ins k ks) ?_ fun h' sb r' => wpAny_pure (goal2 h' sb r')
      split
      · exact r1
      · exact plain_off r1
    · rw [if_neg pl]
      refine wpAny_bind (wpAny_pure ?_)
      simp only [↓reduceIte]
      exact stored gw ho hx hd (ks := ins k ks) r1 fun h' sb r' => wpAny_pure (goal2 h' sb r')
end
/-- the texts of the first i are put in, one by one -/
def insAll (ks : List Str) : List Str → List Str
  | [] => ks
  | x :: r => insAll (ins x ks) r
theorem insAll_mem {j : Str} : ∀ (xs ks : List Str), j ∈ insAll ks xs ↔ j ∈ xs ∨ j ∈ ks
  | [], ks => by simp [insAll]
  | x :: r, ks => by
    rw [insAll, insAll_mem r, ins_mem, List.mem_cons]
    constructor
    · rintro (h | h | h)
      · exact .inl (.inr h)
      · exact .inl (.inl h)
      · exact .inr h
    · rintro ((h | h) | h)
      · exact .inr (.inl h)
      · exact .inl h
      · exact .inr (.inr h)
theorem insAll_len : ∀ (xs ks : List Str), (insAll ks xs).length ≤ ks.length + xs.length
  | [], ks => Nat.le_refl _
  | x :: r, ks => by
    have h1 := insAll_len r (ins x ks)
    have h2 := ins_len (k := x) (ks := ks)
    rw [insAll, List.length_cons]
    omega
section
variable {P : Program} {w : World} {A : Around} {E : Value → Shared → Prop} {s : Shared}
/-- set.update's own loop over a walk that yields texts -/
theorem feed_loop {I : Addr} {fp wr : List Addr} {G : Array GenState → Array GenState → Prop} {n : Nat} {Y : Nat → Value → Prop} {St : Nat → Shared → Prop} {Z : Result → Shared → Prop}
    (W : WalksS P w A.in1 I fp wr G n Y St) (S : Addr) (out : S ∉ fp) (texts : List Str) (hn : texts.length = n) (hb : n + 1 < scanBound) (hY : ∀ i v, Y i v → ∃ k tk, texts[i]? = some k ∧ v = .str k tk) :
    ∀ (left : Nat) (i : Nat) (ks : List Str) (s : Shared), i + left = n → St i s → SetS w s.heap S ks → ks.length ≤ i →
      (∀ s', Moved (S :: wr) G s s' → SetS w s'.heap S (insAll ks (texts.drop i)) → Z (.ok (.ret .none)) s') → codeAny (model P w) A (.builtin "set.update.loop" ⟨[.ref S, .ref I], []⟩) Z s := by
  have quietS : S ∉ wr := fun z => out (W.sub _ z)
  have more : ∀ b ∈ wr, b ∈ S :: wr := fun b hb => List.mem_cons_of_mem _ hb
  intro left
  induction left with
  | zero =>
    intro i ks s hi hst hS _ hZ
    have e0 : texts.drop i = [] := List.drop_eq_nil_of_le (by omega)
    rw [e0] at hZ
    have e1 : i = n := by omega
    rw [e1] at hst
    refine codeAny_builtin F.entry_set_update_loop ?_
    rw [Around.under_plainId F.plain_set_update_loop _]
    show wpAny _ A.in1 (pyNext (.ref I) >>= _) _ _ s
    refine wpAny_bind (W.done s _ _ hst fun s' mv => wpAny_pure (hZ s' (mv.mono more) (hS.stay fun o e => mv.heap S o quietS e)))
  | succ left ih =>
    intro i ks s hi hst hS hk hZ
    have lt : i < n := by omega
    refine codeAny_builtin F.entry_set_update_loop ?_
    rw [Around.under_plainId F.plain_set_update_loop _]
    show wpAny _ A.in1 (pyNext (.ref I) >>= _) _ _ s
    refine wpAny_bind (W.item i s _ _ lt hst fun v s1 hv hst1 mv => ?_)
    obtain ⟨k, tk, hk1, rfl⟩ := hY i v hv
    have hS1 : SetS w s1.heap S ks := hS.stay fun o e => mv.heap S o quietS e
    have ed : texts.drop i = k :: texts.drop (i + 1) := by
      obtain ⟨lt2, e2⟩ := List.getElem?_eq_some_iff.mp hk1
      rw [← e2]
      exact List.drop_eq_getElem_cons lt2
    rw [ed] at hZ
    show wpAny _ A.in1 (holding [Value.str k tk] (setAdd S (.str k tk)) >>= _) _ _ s1
    unfold setAdd
    refine wpAny_bind (wpAny_holding (wpAny_holding (wpAny_bind ((PySem.strKind P w).pyHash (k := k) (strKind_is P w k tk) ?_))))
    refine add_at (s := { s1 with toks := s1.toks + 1 }) hS1 (by omega) fun b h' sb hS2 => ?_
    refine wpAny_pure ⟨plainId_quiet F.plain_set_update_loop _, ih (i + 1) (ins k ks) _ (by omega) (W.frame _ s1 _ _ hst1 (Nat.le_succ _) fun c hc o e => ?_) hS2 ?_ fun s2 mv2 hS3 => ?_⟩
    · have away : c ≠ S := fun z => out (z ▸ hc)
      rw [sb.2 c away]
      exact e
    · have := ins_len (k := k) (ks := ks)
      omega
    · refine hZ s2 (Moved.trans W.gtrans ((mv.mono more).then_heap (Nat.le_succ _) fun c o hc e => ?_) mv2) hS3
      have away : c ≠ S := fun z => hc (z ▸ List.mem_cons_self)
      rw [sb.2 c away]
      exact e
/-- the empty set, as it is made -/
abbrev bare (w : World) : Obj := { cls := .type "set", dict := none, data := .set #[] 0 (.fresh 0 0 (!w.params.followText "set-order")) }
theorem bare_holds {h : Heap} {a : Addr} (ho : h.get? a = some (bare w)) : SetS w h a [] := ⟨_, _, _, _, ho, ⟨rfl, rfl, rfl⟩, rfl, rows_new w⟩
set_option maxHeartbeats 8000000 in
theorem set_of_list {l : Addr} {items : Array Value} (texts : List Str) {Z : Value → Shared → Prop} (hh : A.handled = none) (hl : s.heap.IsList l items) (ht : StrsAre items.toList texts) (hb : texts.length + 1 < scanBound)
    (hZ : ∀ (h' : Heap) (tk : Nat), SetS w h' s.heap.objs.size (insAll [] texts) → (∀ b o, s.heap.get? b = some o → h'.get? b = some o) → Z (.ref s.heap.objs.size) { s with heap := h', toks := tk }) :
    wpAny (model P w) A (call (.type "set") [.ref l]) Z E s := by
  have count : texts.length = items.size := by
    have q := StrsAre.len_eq ht
    rw [Array.length_toList] at q
    exact q.symm
  obtain ⟨c, tl, hmro⟩ := F.called_set.mro
  have made := F.called_set.made
  have sub := F.called_set.sub
  have noType := F.called_set.notType
  have can := F.called_set.canCreate
  have tcall := F.typeCall_set_1 (.ref l)
  refine wpAny_call (codeAny_of_tree ?_)
  show wpAny _ _ (callAny (.type "set") _) _ _ _
  refine wpAny_pure ⟨Code.quiet_builtin _ (by decide +kernel), codeAny_builtin F.entry_type_call ?_⟩
  rw [Around.under_plain (weight_type_call_type "set" [.ref l] []) rfl]
  repeat (any_goals (first | assumption | wp_step))
  refine codeAny_mono (code_set_led1 (.ref l) (E := E) (Q₁ := fun v z => v = .ref s.heap.objs.size ∧ z = { s with heap := s.heap.push (bare w) }) ⟨rfl, rfl⟩) fun r z hr => ?_
  match r, hr with
  | .error _, hr => exact hr
  | .ok .next, hr => exact hr.elim
  | .ok .brk, hr => exact hr.elim
  | .ok .cont, hr => exact hr.elim
  | .ok (.ret _), hr =>
    obtain ⟨rfl, rfl⟩ := hr
    have hS : (s.heap.push (bare w)).get? s.heap.objs.size = some (bare w) := Heap.get?_push_size _ rfl
    have isSet : Shared.TypeIs { s with heap := s.heap.push (bare w) } (.ref s.heap.objs.size) "set" := ⟨_, hS, rfl⟩
    have initL := F.called_set.init.lookup
    have initB := F.called_set.init.bind (.ref s.heap.objs.size)
    repeat (any_goals (first | assumption | wp_step))
    refine codeAny_mono (codeAny_call_builtin (R := wants (fun v z => v = .none ∧ ∃ h' tk, z = { s with heap := h', toks := tk } ∧ SetS w h' s.heap.objs.size (insAll [] texts) ∧ ∀ b o, s.heap.get? b = some o → h'.get? b = some o) E)
      F.called_set.init.plain F.entry_set_init (check_set_init_1 isSet ?_)) fun r z hr => ?_
    · have hl1 : (s.heap.push (bare w)).IsList l items := hl.push _
      obtain ⟨⟨_, dd, _, sl⟩, hol, rfl, nl, rfl⟩ := id hl
      have hol1 : (s.heap.push (bare w)).get? l = some ⟨.type "list", dd, .seq items nl, sl⟩ := Heap.get?_push_of_some _ hol
      have sub1 := F.sub_list_set
      have sub2 := F.sub_list_frozenset
      have unlike : (Value.type "list" == Value.type "dict") = false := by decide
      unfold Builtin.«set.__init__» noKeywords Builtin.Frozenset.updateFrom
      generalize hPI : pyIter = PI
      wp_walk
      subst hPI
      refine wpAny_pyIter_list hl1 (wpAny_bind (wpAny_runValue ?_))
      have old : l < s.heap.objs.size := Heap.lt_size hol
      have sz1 : (s.heap.push (bare w)).objs.size = s.heap.objs.size + 1 := Heap.size_push ..
      have apart : l ≠ (s.heap.push (bare w)).objs.size := by
        rw [sz1]
        exact Nat.ne_of_lt (Nat.lt_succ_of_lt old)
      have out : s.heap.objs.size ∉ [(s.heap.push (bare w)).objs.size, l] := by
        intro z
        rcases List.mem_cons.mp z with z | z
        · rw [sz1] at z
          omega
        · exact absurd old (by rw [← List.mem_singleton.mp z]; exact Nat.lt_irrefl _)
      have texty : ∀ (i : Nat) (v : Value), items[i]? = some v → ∃ k tk, texts[i]? = some k ∧ v = .str k tk := fun i v hv => by
        have hi : i < texts.length := by
          rw [count]
          exact (Array.getElem?_eq_some_iff.mp hv).1
        obtain ⟨tk, e⟩ := SS.strs_at ht i v (by rw [Array.getElem?_toList]; exact hv)
        refine ⟨texts[i], tk, List.getElem?_eq_getElem hi, ?_⟩
        rw [e, List.getD_eq_getElem?_getD, List.getElem?_eq_getElem hi]
        rfl
      have hh3 : A.in1.in1.in1.handled = none := by simp [hh]
      refine feed_loop ((Walks.list hh3 _ l apart items).toS) s.heap.objs.size out texts count (by rw [← count]; exact hb) texty items.size 0 [] _ (Nat.zero_add _) ⟨⟨_, Heap.get?_push_size _ rfl, rfl, rfl⟩, hl1.push _⟩
        (bare_holds (Heap.get?_push_of_some _ hS)) (Nat.le_refl _) fun s' mv hS' => ?_
      obtain ⟨h', g', d', tk', os'⟩ := s'
      have eg : g' = s.gens := mv.gens
      have ed : d' = s.drawn := mv.drawn
      have eo : os' = s.os := mv.os
      subst eg ed eo
      show wpAny _ _ _ _ _ _
      refine wpAny_pure ?_
      show wpAny _ _ (ret Value.none) _ _ _
      refine wpAny_pure ⟨rfl, h', tk', rfl, hS', fun b o e => ?_⟩
      have lt := Heap.lt_size e
      refine mv.heap b o (fun z => ?_) (Heap.get?_push_of_some _ (Heap.get?_push_of_some _ e))
      rcases List.mem_cons.mp z with z | z
      · rw [z] at lt
        exact Nat.lt_irrefl _ lt
      · have z2 := List.mem_singleton.mp z
        have lt2 : b < (s.heap.push (bare w)).objs.size := by
          rw [sz1]
          exact Nat.lt_succ_of_lt lt
        rw [z2] at lt2
        exact Nat.lt_irrefl _ lt2
    · match r, hr with
      | .error _, hr => exact hr
      | .ok .next, hr => exact hr.elim
      | .ok .brk, hr => exact hr.elim
      | .ok .cont, hr => exact hr.elim
      | .ok (.ret _), hr =>
        obtain ⟨rfl, h', tk, rfl, hS', keep⟩ := hr
        repeat (any_goals (first | assumption | wp_step))
        exact hZ _ _ hS' keep
/-- the texts of values that are texts -/
theorem texts_of : ∀ (vs : List Value), (∀ v ∈ vs, ∃ k tk, v = Value.str k tk) → ∃ ks, StrsAre vs ks ∧ ks = vs.map fun v => tx (0, v)
  | [], _ => ⟨[], .nil, rfl⟩
  | v :: vs, h => by
    obtain ⟨k, tk, rfl⟩ := h v List.mem_cons_self
    obtain ⟨ks, h1, h2⟩ := texts_of vs fun u hu => h u (List.mem_cons_of_mem _ hu)
    exact ⟨k :: ks, .cons k tk h1, by rw [h2]; rfl⟩
theorem sorted_of_set {a : Addr} {ks : List Str} {Z : Value → Shared → Prop} (R : SetS w s.heap a ks) (hh : A.handled = none) (few : ks.length < 64)
    (hZ : ∀ s' p (out : Array Value) (c : Nat) (ys : List Str), (∀ b o, s.heap.get? b = some o → s'.heap.get? b = some o) → s'.gens = s.gens → s'.os = s.os → s.heap.objs.size ≤ p →
      s'.heap.get? p = some (seqObj "list" out c) → StrsAre out.toList ys → ys.Perm ks → sortedS ys = true → Z (.ref p) s') :
    wpAny (model P w) A (call (.builtin "sorted") [.ref a]) Z E s := by
  obtain ⟨o, es, ep, t, ho, hx, hd, r⟩ := R
  refine Calls.call_function_entry kind_sorted plain_sorted entry_sorted (args_sorted1 _) ?_
  unfold Builtin.«sorted»
  refine wpAny_bind (m := checkCount "sorted" 1 1 _) (wpAny_pure ?_)
  refine wpAny_bind (collect_set (A := A.in1) hh ⟨o, ho, hx.1, hd⟩ r.fit r.few r.ris r.led fun s1 vs keep more g1 o1 pm => ?_)
  obtain ⟨texts, isT, eT⟩ := texts_of vs fun v hv => by
    obtain ⟨e, he, q⟩ := List.mem_map.mp (pm.mem_iff.mp hv)
    obtain ⟨k, tk, ee⟩ := r.ent e he
    exact ⟨k, tk, by rw [← q, ee]⟩
  have pT : texts.Perm ks := by
    refine List.Perm.trans ?_ r.perm
    rw [eT]
    have q := pm.map fun v => tx (0, v)
    rw [List.map_map] at q
    exact q
  have len : vs.length = ks.length := by
    rw [StrsAre.len_eq isT]
    exact pT.length_eq
  have line : vs.length ≤ sizeLine := by
    rw [len, sizeLine_eq]
    omega
  have hL : (s1.heap.push (seqObj "list" vs.toArray 0)).get? s1.heap.objs.size = some (seqObj "list" vs.toArray 0) := Heap.get?_push_size _ rfl
  refine wpAny_bind (wpAny_newList ?_ line)
  refine wpAny_bind (wpAny_holding (wpAny_call_entry slot_list_sort ⟨_, hL, rfl⟩ entry_list_sort (list_sort_treeK strKind_oneLt hL isT.keysOf (fun v₁ v₂ rest e => keyKind_strs (by rw [← e]; exact isT)) (by rw [len]; exact few) fun st hp hs => ?_) (args_list_sort _)))
  obtain ⟨ys, y1, y2, y3⟩ := sorted_out_str isT hp hs
  obtain ⟨c, hc⟩ := sortedHeap_at (vs := vs) (out := (arrOf st).map (·.2)) hL
  refine ⟨_, rfl, wpAny_pure ⟨_, rfl, hZ _ s1.heap.objs.size _ c ys (fun b u e => ?_) g1 o1 more hc y1 (y2.trans pT) y3⟩⟩
  have q := keep b u e
  have lt := Heap.lt_size q
  show (sortedHeap (s1.heap.push (seqObj "list" vs.toArray 0)) s1.heap.objs.size vs _).get? b = some u
  rw [sortedHeap_old (Nat.ne_of_lt lt) (by rw [Heap.size_push]; exact Nat.lt_succ_of_lt lt)]
  exact Heap.get?_push_of_some _ q
end
end Sx
set_option Elab.async false
set_option linter.all false
set_option maxRecDepth 100000
set_option maxHeartbeats 4000000
/-! The rules over sets of texts. -/
namespace Sx
open PySem PySem.Spec PyProof.Rows L2
/-- a set of the texts ks stands at a -/
def SetX (w : World) (a : Addr) (ks : List Str) : HO := .ext fun h => SetS w h a ks
section
variable {X : Cx}
theorem setX_new {w : World} {P : Program} {H : Hp} {h : Heap} {a : Addr} {ks : List Str} (R : SetS w h a ks) : ObjOk P w H h a (SetX w a ks) := by
  have ⟨o, _, _, _, ho, _⟩ := R
  exact ⟨R, ⟨o, ho⟩, fun _ _ r k => SetS.stay r k⟩
theorem setX_get {pins : List (Addr × Obj)} {σ : L2.St} {H : Hp} {s : Shared} {a : Addr} {ks : List Str} (I : Inv X pins σ H s) (e : H a = some (SetX X.w a ks)) : SetS X.w s.heap a ks := (I.hok a _ e).1
/-- set() -/
def rNewX (w : World) : List V → Hp → VK → Prop := fun xs H Q => xs = [] ∧ ∀ p, H p = none → Q (.ref p) (upd H p (SetX w p []))
theorem cr_newX : CallR X (.type "set") (rNewX X.w) := by
  intro pins s σ H xs us Q I r ⟨e, q⟩
  subst e
  cases r
  refine setR_new fun _ => ⟨.ref _, upd H s.heap.objs.size (SetX X.w s.heap.objs.size []), ?_, rfl, q _ (I.hok.fresh (Nat.le_refl _))⟩
  exact I.laid (t' := s.toks) (fun b u e => Heap.get?_push_of_some _ e) (Nat.le_refl _) (setX_new (bare_holds (Heap.get?_push_size _ rfl)))
/-- set(a list of texts) -/
def rOfX (K : PySem.W.Frag) (w : World) : List V → Hp → VK → Prop := fun xs H Q => ∃ (l : Addr) (texts : List Str), xs = [.ref l] ∧ SqL K H l (texts.map V.str) ∧ texts.length + 1 < scanBound ∧
  ∀ p, H p = none → Q (.ref p) (upd H p (SetX w p (insAll [] texts)))
theorem cr_ofX (hc : X.calm = true) : CallR X (.type "set") (rOfX X.K X.w) := by
  intro pins s σ H xs us Q I r ⟨l, texts, e, hq, few, q⟩
  subst e
  rw [Vals.ref1 r]
  obtain ⟨its, rv, pl, _⟩ := I.list hq
  refine set_of_list texts (I.ok.hd hc) pl.isList (by simpa using strsAre_of rv) few fun h' tk hS keep => ?_
  exact ⟨.ref _, upd H s.heap.objs.size (SetX X.w s.heap.objs.size (insAll [] texts)), I.laid (t' := tk) keep (Nat.le_refl _) (setX_new hS), rfl, q _ (I.hok.fresh (Nat.le_refl _))⟩
/-- found.add(text) -/
def rAddX (w : World) : V → List V → Hp → VK → Prop := fun x xs H Q => ∃ (a : Addr) (k : Str) (ks : List Str), x = V.ref a ∧ xs = [V.str k] ∧ H a = some (SetX w a ks) ∧ ks.length + 1 < scanBound ∧ Q .non (upd H a (SetX w a (ins k ks)))
theorem mt_addX : MtR X "set.add" (rAddX X.w) := by
  intro pins s σ H x xs v us Q I rx rxs ⟨a, k, ks, e1, e2, ha, room, q⟩
  subst e1 e2
  cases rx
  obtain ⟨u, rfl, tk, rfl⟩ := vals1 rxs
  have R := setX_get I ha
  refine wpAny_call_entry F.slot_set_add (R.of (P := X.prog)).typeIs F.entry_set_add ?_ (F.args_set_add_2 _ _)
  unfold Builtin.«set.add» Builtin.Frozenset.oneOther
  simp only [List.isEmpty_nil, bind_assoc]
  unfold Builtin.Frozenset.addrOf setAdd
  refine wpAny_bind (wpAny_pure ?_)
  try dsimp only
  refine wpAny_bind (wpAny_pure ?_)
  try dsimp only
  refine wpAny_bind (wpAny_holding (wpAny_bind ((PySem.strKind X.prog X.w).pyHash (strKind_is X.prog X.w k tk) ?_)))
  refine add_at (s := { s with toks := s.toks + 1 }) R room fun b h' sb new => ?_
  show wpAny _ _ (ret Value.none) _ _ _
  have there : ∃ u, h'.get? a = some u := by
    obtain ⟨o, _, _, _, ho, _⟩ := new
    exact ⟨o, ho⟩
  exact wpAny_pure ⟨_, rfl, .non, upd H a (SetX X.w a (ins k ks)), I.write (e := a) (t' := s.toks + 1) (by rw [ha]; trivial) (.inl rfl) (fun c u hc hu => (sb.2 c hc).trans hu) there (setX_new new), rfl, q⟩
def tAddX (w : World) (to : TE) (t : TA) : TE := fun σ H Q => to σ H fun x H1 => (∃ a ks, x = V.ref a ∧ H1 a = some (SetX w a ks)) ∧ t σ H1 fun xs H2 => rAddX w x xs H2 Q
theorem pe_addX {o e : Expr} {to : TE} {t : TA} {apos cpos : Pos} (ho : PE X o to) (ha : PA X [e] t)
    (h1 : attributeBase o "add" X.env (eval o X.env) = eval o X.env := by rfl)
    (h2 : ((backTo cpos (starEach [e] X.env)).all (fun x => !x.1) && (backToKw cpos (keywordEach [] X.env)).all (fun x => x.1.isSome) && decide ([e].length + ([] : List Keyword).length + (if ([] : List Keyword).isEmpty then 0 else 1) < 30)) = true := by rfl)
    (h3 : (apos.endLine == cpos.line) = true := by rfl) (h4 : starEach [e] X.env = (false, eval e X.env) :: starEach [] X.env := by rfl) (h5 : (backTo cpos (starEach [] X.env)).any (·.1) = false := by rfl) :
    PE X (.Call (.Attribute o "add" apos) [e] [] cpos) (tAddX X.w to t) := by
  refine ⟨fun pins s σ H Q I h => wpAny_Call_method_late h1 h2 h3 rfl (thn (ho.run pins s σ H _ I h) fun v s1 ⟨x, H1, I1, r1, ⟨a, ks, ex, hka⟩, q1⟩ => ?_)⟩
  subst ex
  cases r1
  have R := (setX_get I1 hka).of (P := X.prog)
  have run := ha.run cpos pins s1 σ H1 _ I1 q1
  refine ⟨"set", "set.add", F.plainAttrs_set, F.slot_set_add, F.type_set_add, R.typeIs, R.noDict, ?_⟩
  rw [h4] at run ⊢
  refine Calls.callWith_builtin (by show (false || (backTo cpos (starEach [] X.env)).any (·.1)) = false; rw [h5]; rfl) (Calls.evalArgs_plain (thn run fun us s2 ⟨vs, H2, I2, r2, q2⟩ => ?_))
  exact mt_addX pins s2 σ H2 (.ref a) vs (.ref a) us Q I2 rfl r2 q2
/-- sorted(a set of texts) -/
def rSortX (w : World) : List V → Hp → VK → Prop := fun vs H Q => ∃ (a : Addr) (ks : List Str), vs = [V.ref a] ∧ H a = some (SetX w a ks) ∧ ks.length < 64 ∧
  ∀ (ys : List Str) (p : Addr), ys.Perm ks → ys.Nodup → sortedS ys = true → H p = none → Q (.ref p) (upd H p (.lst (ys.map V.str)))
theorem cr_sortX (hc : X.calm = true) : CallR X (.builtin "sorted") (rSortX X.w) := by
  intro pins s σ H vs us Q I r ⟨a, ks, e, ha, few, q⟩
  subst e
  rw [Vals.ref1 r]
  have R := setX_get I ha
  have nd : ks.Nodup := by
    obtain ⟨_, _, _, _, _, _, _, rows⟩ := R
    exact rows.nd
  refine sorted_of_set R (I.ok.hd hc) few fun s' p out c ys keep g1 o1 old hp y1 y2 y3 => ?_
  have line : (ys.map V.str).length ≤ sizeLine := by
    rw [List.length_map, y2.length_eq]
    exact small64 few
  have free : H p = none := I.hok.fresh old
  have J : Inv X pins σ (upd H p (.lst (ys.map V.str))) { s with heap := s'.heap, gens := s'.gens, drawn := s'.drawn, toks := s'.toks } :=
    I.call (ch := []) (Un.laid keep old free) (I.hok.laid keep old ⟨line, out.toList, c, vals_of_strs y1, hp⟩) (by rw [g1]; exact I.bare) (fun _ z => nomatch z)
  have back : s' = { s with heap := s'.heap, gens := s'.gens, drawn := s'.drawn, toks := s'.toks } := by
    cases s'
    cases s
    cases o1
    rfl
  rw [back]
  exact ⟨.ref p, _, J, rfl, q ys p y2 (y2.nodup_iff.mpr nd) y3 free⟩
end
end Sx
set_option Elab.async false
set_option linter.all false
set_option maxRecDepth 100000
set_option maxHeartbeats 4000000
/-! Trees, heaps: what the defs of these laws share. -/
namespace Kf
open PySem PySem.Spec PyProof.Rows L2 Sx
/-! ### lists, pair by pair -/
inductive All2 {α β : Type} (F : α → β → Prop) : List α → List β → Prop
  | nil : All2 F [] []
  | cons {a : α} {b : β} {l : List α} {m : List β} : F a b → All2 F l m → All2 F (a :: l) (b :: m)
section
variable {α β : Type} {F G : α → β → Prop}
theorem All2.len : ∀ {l : List α} {m : List β}, All2 F l m → l.length = m.length
  | _, _, .nil => rfl
  | _, _, .cons _ t => congrArg Nat.succ t.len
theorem All2.app : ∀ {l l2 : List α} {m m2 : List β}, All2 F l m → All2 F l2 m2 → All2 F (l ++ l2) (m ++ m2)
  | _, _, _, _, .nil, h => h
  | _, _, _, _, .cons r t, h => .cons r (t.app h)
theorem All2.mono (f : ∀ a b, F a b → G a b) : ∀ {l : List α} {m : List β}, All2 F l m → All2 G l m
  | _, _, .nil => .nil
  | _, _, .cons r t => .cons (f _ _ r) (t.mono f)
theorem All2.one {a : α} {b : β} (h : F a b) : All2 F [a] [b] := .cons h .nil
theorem All2.rev : ∀ {l : List α} {m : List β}, All2 F l m → All2 F l.reverse m.reverse
  | _, _, .nil => .nil
  | _, _, .cons r t => by
    rw [List.reverse_cons, List.reverse_cons]
    exact t.rev.app (.one r)
theorem All2.last {l : List α} {m : List β} {y : β} (h : All2 F l (m ++ [y])) : ∃ k x, l = k ++ [x] ∧ All2 F k m ∧ F x y := by
  have q := h.rev
  rw [List.reverse_append, List.reverse_singleton, List.singleton_append] at q
  generalize hr : l.reverse = r at q
  cases q with
  | @cons x _ k _ r t =>
    have t2 := t.rev
    rw [List.reverse_reverse] at t2
    refine ⟨k.reverse, x, ?_, t2, r⟩
    have e := congrArg List.reverse hr
    rw [List.reverse_reverse, List.reverse_cons] at e
    exact e
theorem All2.get : ∀ {l : List α} {m : List β} {i : Nat} {y : β}, All2 F l m → m[i]? = some y → ∃ x, l[i]? = some x ∧ F x y
  | _, _, _, _, .nil, h => by simp at h
  | _, _, 0, _, .cons r _, h => ⟨_, rfl, (Option.some.inj h) ▸ r⟩
  | _, _, i + 1, _, .cons _ t, h => t.get (i := i) (by simpa using h)
end
/-! ### heaps -/
/-- all but what stands at f is as it was -/
def But (f : Addr) (H H' : Hp) : Prop := ∀ b o, b ≠ f → H b = some o → H' b = some o
/-- all tuples stand -/
def Tups (H H' : Hp) : Prop := ∀ b xs, H b = some (.tup xs) → H' b = some (.tup xs)
section
variable {f : Addr} {H H1 H2 : Hp} {p : Addr} {o : HO}
theorem But.refl (f : Addr) (H : Hp) : But f H H := fun _ _ _ e => e
theorem But.trans (a : But f H H1) (b : But f H1 H2) : But f H H2 := fun c u n e => b c u n (a c u n e)
theorem but_same (a : Same H H1) : But f H H1 := fun c u _ e => a c u e
theorem But.new (a : But f H H1) (h : H1 p = none) : But f H (upd H1 p o) := fun c u n e => by
  have q := a c u n e
  rw [upd_ne (ne_of_none q h)]
  exact q
theorem But.own (a : But f H H1) : But f H (upd H1 f o) := fun c u n e => by
  rw [upd_ne n]
  exact a c u n e
theorem same_new (h : H p = none) : Same H (upd H p o) := fun b u q => by
  rw [upd_ne (ne_of_none q h)]
  exact q
theorem same_put (s : Same H H1) (h : H1 p = none) : Same H (upd H1 p o) := fun b u q => by
  rw [upd_ne (ne_of_none (s b u q) h)]
  exact s b u q
theorem Tups.refl (H : Hp) : Tups H H := fun _ _ e => e
theorem Tups.trans (a : Tups H H1) (b : Tups H1 H2) : Tups H H2 := fun c u e => b c u (a c u e)
theorem tups_same (a : Same H H1) : Tups H H1 := fun c u e => a c _ e
theorem But.tups {xs : List V} (a : But f H H1) (h : H f = some (.lst xs)) : Tups H H1 := fun c u e => a c _ (fun z => by
  rw [z, h] at e
  cases e) e
theorem tups_put (h : ∀ xs, H p ≠ some (.tup xs)) : Tups H (upd H p o) := fun c u e => by
  rw [upd_ne (fun z => h u (by rw [← z]; exact e))]
  exact e
end
/-! ### trees -/
inductive Tr where
  | leaf (w : Str) (x : V)
  | n0 (w : Str)
  | n1 (w : Str) (a : Tr)
  | n2 (w : Str) (a b : Tr)
abbrev leafVs : List V := [.str "num", .str "name", .str "bound"]
abbrev bindVs : List V := [.str "all", .str "some"]
def leafy (w : Str) : Bool := inV (.str w) leafVs
def binds (w : Str) : Bool := inV (.str w) bindVs
/-- how many stand around the parts -/
def inner (w : Str) (r : Nat) : Nat := if binds w = true then r + 1 else r
def Tr.word : Tr → Str
  | .leaf w _ => w
  | .n0 w => w
  | .n1 w _ => w
  | .n2 w _ _ => w
def Tr.kids : Tr → List Tr
  | .leaf _ _ => []
  | .n0 _ => []
  | .n1 _ a => [a]
  | .n2 _ a b => [a, b]
/-- the tree t is the value v -/
def At (H : Hp) : Tr → V → Prop
  | .leaf w x, v => ∃ p, v = .ref p ∧ H p = some (.tup [.str w, x])
  | .n0 w, v => ∃ p, v = .ref p ∧ H p = some (.tup [.str w])
  | .n1 w a, v => ∃ p y, v = .ref p ∧ H p = some (.tup [.str w, y]) ∧ At H a y
  | .n2 w a b, v => ∃ p y z, v = .ref p ∧ H p = some (.tup [.str w, y, z]) ∧ At H a y ∧ At H b z
theorem At.keep {H H' : Hp} (k : Tups H H') : ∀ {t : Tr} {v : V}, At H t v → At H' t v
  | .leaf _ _, _, ⟨p, e, h⟩ => ⟨p, e, k _ _ h⟩
  | .n0 _, _, ⟨p, e, h⟩ => ⟨p, e, k _ _ h⟩
  | .n1 _ _, _, ⟨p, y, e, h, a⟩ => ⟨p, y, e, k _ _ h, a.keep k⟩
  | .n2 _ _ _, _, ⟨p, y, z, e, h, a, b⟩ => ⟨p, y, z, e, k _ _ h, a.keep k, b.keep k⟩
/-- leaves by their words -/
def Tr.Ok : Tr → Prop
  | .leaf w x => leafy w = true ∧ ((∃ i, x = .int i) ∧ w ≠ "name" ∨ (∃ z, x = .str z) ∧ w = "name")
  | .n0 w => leafy w = false
  | .n1 w a => leafy w = false ∧ a.Ok
  | .n2 w a b => leafy w = false ∧ a.Ok ∧ b.Ok
/-- how far within one another -/
def Tr.deep : Tr → Nat
  | .leaf _ _ => 1
  | .n0 _ => 1
  | .n1 _ a => a.deep + 1
  | .n2 _ a b => max a.deep b.deep + 1
def Tr.size : Tr → Nat
  | .leaf _ _ => 1
  | .n0 _ => 1
  | .n1 _ a => a.size + 1
  | .n2 _ a b => a.size + b.size + 1
theorem size_deep : ∀ t : Tr, t.size + 1 ≤ 2 ^ t.deep
  | .leaf _ _ => Nat.le_refl _
  | .n0 _ => Nat.le_refl _
  | .n1 _ a => by
    have h := size_deep a
    have p : 2 ^ (a.deep + 1) = 2 ^ a.deep * 2 := Nat.pow_succ _ _
    show a.size + 1 + 1 ≤ 2 ^ (a.deep + 1)
    omega
  | .n2 _ a b => by
    have h := size_deep a
    have h2 := size_deep b
    have p : 2 ^ (max a.deep b.deep + 1) = 2 ^ (max a.deep b.deep) * 2 := Nat.pow_succ _ _
    have q1 : 2 ^ a.deep ≤ 2 ^ (max a.deep b.deep) := Nat.pow_le_pow_right (by decide) (Nat.le_max_left _ _)
    have q2 : 2 ^ b.deep ≤ 2 ^ (max a.deep b.deep) := Nat.pow_le_pow_right (by decide) (Nat.le_max_right _ _)
    show a.size + b.size + 1 + 1 ≤ 2 ^ (max a.deep b.deep + 1)
    omega
def Tr.names : Tr → List Str
  | .leaf w x => if w = "name" then (match x with | .str z => [z] | _ => []) else []
  | .n0 _ => []
  | .n1 _ a => a.names
  | .n2 _ a b => a.names ++ b.names
theorem names_size : ∀ t : Tr, t.names.length ≤ t.size
  | .leaf w x => by
    show (if w = "name" then (match x with | .str z => [z] | _ => []) else ([] : List Str)).length ≤ 1
    split
    · cases x <;> simp
    · simp
  | .n0 _ => Nat.zero_le _
  | .n1 _ a => Nat.le_succ_of_le (names_size a)
  | .n2 _ a b => by
    have h1 := names_size a
    have h2 := names_size b
    show (a.names ++ b.names).length ≤ a.size + b.size + 1
    rw [List.length_append]
    omega
/-! ### the pieces, parts ahead of the whole, from the left; each with how many all and some stand around it -/
def Tr.post : Tr → Nat → List (Tr × Nat)
  | .leaf w x, r => [(.leaf w x, r)]
  | .n0 w, r => [(.n0 w, r)]
  | .n1 w a, r => a.post (inner w r) ++ [(.n1 w a, r)]
  | .n2 w a b, r => a.post (inner w r) ++ b.post (inner w r) ++ [(.n2 w a b, r)]
theorem post_len : ∀ (t : Tr) (r : Nat), (t.post r).length = t.size
  | .leaf _ _, _ => rfl
  | .n0 _, _ => rfl
  | .n1 w a, r => by
    show (a.post _ ++ [_]).length = a.size + 1
    rw [List.length_append, post_len a]
    rfl
  | .n2 w a b, r => by
    show (a.post _ ++ b.post _ ++ [_]).length = a.size + b.size + 1
    rw [List.length_append, List.length_append, post_len a, post_len b]
    rfl
theorem post_kids (t : Tr) (r : Nat) : t.post r = (t.kids.flatMap fun a => a.post (inner t.word r)) ++ [(t, r)] := by
  cases t with
  | leaf w x => rfl
  | n0 w => rfl
  | n1 w a => simp [Tr.post, Tr.kids, Tr.word]
  | n2 w a b => simp [Tr.post, Tr.kids, Tr.word]
/-- what a whole list of pieces has for names -/
def leafName : Tr → List Str
  | .leaf w x => Tr.names (.leaf w x)
  | _ => []
theorem post_names : ∀ (t : Tr) (r : Nat), ((t.post r).flatMap fun (e : Tr × Nat) => leafName e.1) = t.names
  | .leaf w x, r => by simp [Tr.post, leafName]
  | .n0 w, r => by simp [Tr.post, leafName, Tr.names]
  | .n1 w a, r => by
    show ((a.post _ ++ [_]).flatMap fun (e : Tr × Nat) => leafName e.1) = a.names
    rw [List.flatMap_append, post_names a]
    simp [leafName]
  | .n2 w a b, r => by
    show ((a.post _ ++ b.post _ ++ [_]).flatMap fun (e : Tr × Nat) => leafName e.1) = a.names ++ b.names
    rw [List.flatMap_append, List.flatMap_append, post_names a, post_names b]
    simp [leafName]
theorem post_ok : ∀ (t : Tr) (r : Nat), t.Ok → ∀ e ∈ t.post r, e.1.Ok
  | .leaf w x, r, h, e, he => by
    rw [List.mem_singleton.mp he]
    exact h
  | .n0 w, r, h, e, he => by
    rw [List.mem_singleton.mp he]
    exact h
  | .n1 w a, r, h, e, he => by
    rcases List.mem_append.mp he with z | z
    · exact post_ok a _ h.2 e z
    · rw [List.mem_singleton.mp z]
      exact h
  | .n2 w a b, r, h, e, he => by
    rcases List.mem_append.mp he with z | z
    · rcases List.mem_append.mp z with z | z
      · exact post_ok a _ h.2.1 e z
      · exact post_ok b _ h.2.2 e z
    · rw [List.mem_singleton.mp z]
      exact h
theorem no_leaf {w : Str} (h : leafy w = false) (z : leafy w = true) : False := by
  rw [h] at z
  cases z
/-- a tree's own tuple -/
theorem At.view {H : Hp} {t : Tr} {v : V} (h : At H t v) (ok : t.Ok) : ∃ p vs, v = .ref p ∧ H p = some (.tup (.str t.word :: vs)) ∧ vs.length ≤ 2 ∧ (leafy t.word = false → All2 (At H) t.kids vs) ∧ (leafy t.word = true → ∃ x, t = .leaf t.word x ∧ vs = [x]) := by
  cases t with
  | leaf w x =>
    obtain ⟨p, e, h⟩ := h
    exact ⟨p, [x], e, h, Nat.le_succ 1, fun z => (no_leaf z ok.1).elim, fun _ => ⟨x, rfl, rfl⟩⟩
  | n0 w =>
    obtain ⟨p, e, h⟩ := h
    exact ⟨p, [], e, h, Nat.zero_le 2, fun _ => .nil, fun z => (no_leaf ok z).elim⟩
  | n1 w a =>
    obtain ⟨p, y, e, h, ha⟩ := h
    exact ⟨p, [y], e, h, Nat.le_succ 1, fun _ => .one ha, fun z => (no_leaf ok.1 z).elim⟩
  | n2 w a b =>
    obtain ⟨p, y, z, e, h, ha, hb⟩ := h
    exact ⟨p, [y, z], e, h, Nat.le_refl 2, fun _ => .cons ha (.one hb), fun q => (no_leaf ok.1 q).elim⟩
theorem kids_ok {t : Tr} (ok : t.Ok) : ∀ a ∈ t.kids, a.Ok := by
  cases t with
  | leaf w x => intro a h; cases h
  | n0 w => intro a h; cases h
  | n1 w a =>
    intro c h
    rw [List.mem_singleton.mp h]
    exact ok.2
  | n2 w a b =>
    intro c h
    rcases List.mem_cons.mp h with z | z
    · rw [z]
      exact ok.2.1
    · rw [List.mem_singleton.mp z]
      exact ok.2.2
/-! ### sorted lists of texts -/
theorem nodup_le : ∀ (ks ms : List Str), ks.Nodup → (∀ k ∈ ks, k ∈ ms) → ks.length ≤ ms.length
  | [], _, _, _ => Nat.zero_le _
  | k :: r, ms, nd, h => by
    obtain ⟨n1, n2⟩ := List.nodup_cons.mp nd
    have hk : k ∈ ms := h k List.mem_cons_self
    have q := nodup_le r (ms.erase k) n2 fun j hj => (List.mem_erase_of_ne (fun z : j = k => n1 (z ▸ hj))).mpr (h j (List.mem_cons_of_mem _ hj))
    rw [List.length_erase_of_mem hk] at q
    have pos : 0 < ms.length := List.length_pos_of_mem hk
    rw [List.length_cons]
    omega
def Le (a b : Str) : Prop := ltCps b.cps.toList a.cps.toList = false
theorem rising_pairs : ∀ (p : Str) (l : List Str), risingS p l = true → (∀ (a b c : Str), Le a b → Le b c → Le a c) → (p :: l).Pairwise Le
  | p, [], _, _ => List.pairwise_singleton _ _
  | p, x :: r, h, tr => by
    have h' : (!ltCps x.cps.toList p.cps.toList && risingS x r) = true := h
    rw [Bool.and_eq_true] at h'
    have q := rising_pairs x r h'.2 tr
    have px : Le p x := by
      unfold Le
      simpa using h'.1
    refine List.pairwise_cons.mpr ⟨fun y hy => ?_, q⟩
    rcases List.mem_cons.mp hy with z | z
    · rw [z]
      exact px
    · exact tr _ _ _ px (List.rel_of_pairwise_cons q z)
theorem le_iff (a b : Str) : Le a b ↔ a.cps.toList ≤ b.cps.toList := by
  unfold Le
  rw [ltCps_eq]
  simp
theorem le_trans3 (a b c : Str) (h1 : Le a b) (h2 : Le b c) : Le a c := by
  rw [le_iff] at *
  exact List.le_trans h1 h2
theorem le_anti (a b : Str) (h1 : Le a b) (h2 : Le b a) : a = b := by
  rw [le_iff] at *
  have q := List.le_antisymm h1 h2
  cases a with
  | mk x =>
    cases b with
    | mk y =>
      have q' : x.toList = y.toList := q
      rw [Array.toList_inj.mp q']
theorem one_order : ∀ (l m : List Str), l.Pairwise Le → m.Pairwise Le → l.Nodup → m.Nodup → (∀ x, x ∈ l ↔ x ∈ m) → l = m
  | [], [], _, _, _, _, _ => rfl
  | [], y :: m, _, _, _, _, h => by
    have := (h y).2 List.mem_cons_self
    cases this
  | x :: l, [], _, _, _, _, h => by
    have := (h x).1 List.mem_cons_self
    cases this
  | x :: l, y :: m, pl, pm, nl, nm, h => by
    obtain ⟨l1, l2⟩ := List.pairwise_cons.mp pl
    obtain ⟨m1, m2⟩ := List.pairwise_cons.mp pm
    obtain ⟨k1, k2⟩ := List.nodup_cons.mp nl
    obtain ⟨j1, j2⟩ := List.nodup_cons.mp nm
    have exy : x = y := by
      rcases List.mem_cons.mp ((h x).1 List.mem_cons_self) with z | z
      · exact z
      · rcases List.mem_cons.mp ((h y).2 List.mem_cons_self) with q | q
        · exact q.symm
        · exact le_anti _ _ (l1 y q) (m1 x z)
    subst exy
    rw [one_order l m l2 m2 k2 j2 fun z => ?_]
    constructor
    · intro hz
      rcases List.mem_cons.mp ((h z).1 (List.mem_cons_of_mem _ hz)) with e | e
      · exact absurd (e ▸ hz) k1
      · exact e
    · intro hz
      rcases List.mem_cons.mp ((h z).2 (List.mem_cons_of_mem _ hz)) with e | e
      · exact absurd (e ▸ hz) j1
      · exact e
theorem sorted_pairs : ∀ l : List Str, sortedS l = true → l.Pairwise Le
  | [], _ => List.Pairwise.nil
  | x :: r, h => rising_pairs x r h le_trans3
end Kf
set_option Elab.async false
set_option linter.all false
set_option maxRecDepth 100000
set_option maxHeartbeats 4000000
/-! The defs by which the law makes its inputs. -/
namespace Kf
open PySem PySem.Spec PyProof.Rows L2 Sx
def top (i : Nat) : Stmt := PySem.Challenge.pw_prooffruit_k02_what_is_a_saying.main.body.getD i (.Pass ⟨0, 0, 0, 0⟩)
abbrev sFeed : Stmt := top 20
abbrev sTake : Stmt := top 21
abbrev sPick : Stmt := top 22
abbrev sLeaf : Stmt := top 23
theorem scFeed : FnScope ["script", "k", "seed", "digits"] ["script", "k"] (defScope sFeed) := ⟨rfl, rfl, rfl, by decide +kernel, rfl, by decide +kernel, by decide +kernel⟩
theorem scTake : FnScope ["feed", "many", "found"] ["feed", "many"] (defScope sTake) := ⟨rfl, rfl, rfl, by decide +kernel, rfl, by decide +kernel, by decide +kernel⟩
theorem scPick : FnScope ["feed", "some"] ["feed", "some"] (defScope sPick) := ⟨rfl, rfl, rfl, by decide +kernel, rfl, by decide +kernel, by decide +kernel⟩
theorem scLeaf : FnScope ["feed", "names", "around", "way"] ["feed", "names", "around"] (defScope sLeaf) := ⟨rfl, rfl, rfl, by decide +kernel, rfl, by decide +kernel, by decide +kernel⟩
/-- the feed at f: two numbers, the second below 2 ^ 61 - 1 -/
def FeedAt (H : Hp) (f : Addr) : Prop := ∃ a b : Int, H f = some (.lst [.int a, .int b]) ∧ 0 ≤ b ∧ b < 2305843009213693951
theorem FeedAt.keep {H H' : Hp} {f g : Addr} (h : FeedAt H f) (n : f ≠ g) (b : But g H H') : FeedAt H' f := by
  obtain ⟨x, y, e, q⟩ := h
  exact ⟨x, y, b _ _ n e, q⟩
theorem FeedAt.same {H H' : Hp} {f : Addr} (h : FeedAt H f) (b : Same H H') : FeedAt H' f := by
  obtain ⟨x, y, e, q⟩ := h
  exact ⟨x, y, b _ _ e, q⟩
theorem FeedAt.tups {H H' : Hp} {f : Addr} (h : FeedAt H f) (b : But f H H') : Tups H H' := by
  obtain ⟨x, y, e, q⟩ := h
  exact b.tups e
/-- a list of the call's own -/
theorem FeedAt.ne {H : Hp} {f p : Addr} (h : FeedAt H f) (e : H p = none) : p ≠ f := fun z => by
  obtain ⟨x, y, e2, q⟩ := h
  rw [z, e2] at e
  cases e
section
variable {P : Program} {w : World} {K : PySem.W.Frag} {mg : Str → Option Value} {base : Heap}
/-! ### _law_feed -/
def spFeed (K : PySem.W.Frag) : Sp := fun vs H Q _ => ∃ (a : Addr) (ns : List Int) (k : Nat), vs = [.ref a, .int (k : Int)] ∧ SqL K H a (ns.map V.int) ∧ (∀ z ∈ ns, Builtin.Int.intBits z ≤ 1048576) ∧ k ≤ 100 ∧
  ∀ p H', Same H H' → H p = none → FeedAt H' p → Q (.ref p) H'
theorem notM : (2305843009213693951 : Int) ≠ 0 := by decide
theorem modM (i : Int) : 0 ≤ i.fmod 2305843009213693951 ∧ i.fmod 2305843009213693951 < 2305843009213693951 := by
  rw [Int.fmod_eq_emod_of_nonneg _ (by decide)]
  exact ⟨Int.emod_nonneg _ (by decide), Int.emod_lt_of_pos _ (by decide)⟩
theorem seed_ok {z : Int} (h : Builtin.Int.intBits z ≤ 1048576) : CMulX z 6364136223846793005 := by
  unfold CMulX
  have e : Builtin.Int.intBits 6364136223846793005 = 63 := by decide +kernel
  rw [e]
  omega
theorem ok_feed {f : Addr} {fd : FuncData} {j : Nat} (F : Fun K "_law_feed" "_law_feed" sFeed f fd) (ml : mg "len" = none) (ma : mg "abs" = none) : FnOk P w K mg base CX0 (j + 1) f fd ["script", "k"] (spFeed K) := by
  refine F.ok scFeed (fun vs H Q E h => ?_) (fun cdv A outer s H vs Q E hr h => ?_)
  · obtain ⟨a, ns, k, rfl, _⟩ := h
    rfl
  obtain ⟨a, ns, k, rfl, hS, hb, hk, q⟩ := h
  refine ⟨_, pss_cons (ps_set (i := 2) scFeed.nd rfl (.inl rfl) (pe_op op_add (pe_op op_mul pe_int (pv 1)) pe_int))
    (pss_cons (ps_if (pt_cmpR op_lt (pv 1) (pe_callB call_len_seq (by rfl) ml PySem.boot_len (pa_cons (pv 0) pa_nil)) (nomark _)) (pss_one (ps_set (i := 2) scFeed.nd rfl (.inl rfl) (pe_ix ix_list (pv 0) (pv 1) (fun _ _ => rfl)))) pss_nil)
    (pss_cons (ps_set (i := 3) scFeed.nd rfl (.inl rfl) pe_int)
    (pss_cons (ps_if (pt_cmpR op_ge (pe_callB call_abs (by rfl) ma (by decide +kernel) (pa_cons (pv 2) pa_nil)) (pe_op op_pow pe_int pe_int) (nomark _)) (pss_one (ps_set (i := 3) scFeed.nd rfl (.inl rfl) (pe_op op_sub (pe_callB call_abs (by rfl) ma (by decide +kernel) (pa_cons (pv 2) pa_nil)) (pe_op op_pow pe_int pe_int)))) pss_nil)
    (pss_one (ps_ret (pe_lst (pa_cons (pv 3) (pa_cons (pe_op op_modN (pe_op op_add (pe_op op_add (pe_op op_mulX (pv 2) pe_int) (pe_op op_mul pe_int (pv 1))) pe_int) pe_int) pa_nil)))))))), ?_⟩
  refine ⟨_, rfl, _, _, rfl, rfl, .inl ⟨by decide, by decide⟩, _, _, rfl, rfl, ?_⟩
  refine ⟨_, rfl, _, rfl, a, _, rfl, .inl hS, _, _, rfl, rfl, _, rfl, ?_⟩
  have fin : ∀ (z d : Int), Builtin.Int.intBits z ≤ 1048576 → ∀ p, H p = none → Q (.ref p) (upd H p (.lst [.int d, .int ((z * 6364136223846793005 + 7919 * (k : Int) + 1442695040888963407).fmod 2305843009213693951)])) := fun z d _ p hp => by
    refine q p _ (same_new hp) hp ⟨_, _, upd_same, (modM _).1, (modM _).2⟩
  have two : ∀ (z : Int), Builtin.Int.intBits z ≤ 1048576 → CMulX z 6364136223846793005 ∧ CMul 7919 (k : Int) := fun z hz => ⟨seed_ok hz, .inl ⟨by decide, by decide⟩⟩
  refine ite2 (fun c => ?_) (fun c => ?_)
  · have c' : (k : Int) < (((ns.map V.int).length : Nat) : Int) := of_decide_eq_true c
    have lt : k < ns.length := by
      rw [List.length_map] at c'
      omega
    have item : atI (ns.map V.int) (k : Int) = some (.int ns[k]) := atI_nat (by rw [List.getElem?_map, List.getElem?_eq_getElem lt]; rfl)
    have hz := hb ns[k] (List.getElem_mem lt)
    refine ⟨_, rfl, _, rfl, a, _, _, _, rfl, rfl, hS, item, ?_⟩
    refine ⟨_, rfl, _, rfl, _, _, rfl, rfl, ⟨by decide, by decide, by decide⟩, _, _, rfl, rfl, _, rfl, ?_⟩
    refine ite2 (fun _ => ?_) (fun _ => ?_)
    · refine ⟨_, rfl, _, rfl, _, _, rfl, rfl, ⟨by decide, by decide, by decide⟩, _, _, rfl, rfl, ?_⟩
      exact ⟨_, rfl, _, rfl, _, _, rfl, rfl, (two _ hz).1, _, rfl, _, _, rfl, rfl, (two _ hz).2, _, _, rfl, rfl, _, _, rfl, rfl, _, _, rfl, rfl, notM, (by show 2 ≤ sizeLine; decide), fin _ _ hz⟩
    · exact ⟨_, rfl, _, rfl, _, _, rfl, rfl, (two _ hz).1, _, rfl, _, _, rfl, rfl, (two _ hz).2, _, _, rfl, rfl, _, _, rfl, rfl, _, _, rfl, rfl, notM, (by show 2 ≤ sizeLine; decide), fin _ _ hz⟩
  · have hz : Builtin.Int.intBits (67 * (k : Int) + 19) ≤ 1048576 := by
      refine Nat.le_trans (PyProof.Rows.intBits_le (k := 20) ?_) (by decide)
      have : (67 * (k : Int) + 19).natAbs ≤ 6719 := by omega
      exact Nat.lt_of_le_of_lt this (by decide)
    refine ⟨_, rfl, _, rfl, _, _, rfl, rfl, ⟨by decide, by decide, by decide⟩, _, _, rfl, rfl, _, rfl, ?_⟩
    refine ite2 (fun _ => ?_) (fun _ => ?_)
    · refine ⟨_, rfl, _, rfl, _, _, rfl, rfl, ⟨by decide, by decide, by decide⟩, _, _, rfl, rfl, ?_⟩
      exact ⟨_, rfl, _, rfl, _, _, rfl, rfl, (two _ hz).1, _, rfl, _, _, rfl, rfl, (two _ hz).2, _, _, rfl, rfl, _, _, rfl, rfl, _, _, rfl, rfl, notM, (by show 2 ≤ sizeLine; decide), fin _ _ hz⟩
    · exact ⟨_, rfl, _, rfl, _, _, rfl, rfl, (two _ hz).1, _, rfl, _, _, rfl, rfl, (two _ hz).2, _, _, rfl, rfl, _, _, rfl, rfl, _, _, rfl, rfl, notM, (by show 2 ≤ sizeLine; decide), fin _ _ hz⟩
/-! ### _law_take -/
def spTake : Sp := fun vs H Q _ => ∃ (f : Addr) (many : Int), vs = [.ref f, .int many] ∧ 0 < many ∧ many.natAbs < 2 ^ 200 ∧ FeedAt H f ∧
  ∀ (r : Int) H', 0 ≤ r → r < many → But f H H' → FeedAt H' f → Q (.int r) H'
theorem mod_in {i m : Int} (h : 0 < m) : 0 ≤ i.fmod m ∧ i.fmod m < m := by
  rw [Int.fmod_eq_emod_of_nonneg _ (Int.le_of_lt h)]
  exact ⟨Int.emod_nonneg _ (Int.ne_of_gt h), Int.emod_lt_of_pos _ h⟩
theorem ok_take {f : Addr} {fd : FuncData} {j : Nat} (F : Fun K "_law_take" "_law_take" sTake f fd) : FnOk P w K mg base CX0 (j + 1) f fd ["feed", "many"] spTake := by
  refine F.ok scTake (fun vs H Q E h => ?_) (fun cdv A outer s H vs Q E hr h => ?_)
  · obtain ⟨a, m, rfl, _⟩ := h
    rfl
  obtain ⟨f, m, rfl, pos, small, ⟨x, y, hf, y0, y1⟩, q⟩ := h
  refine ⟨_, pss_cons (ps_if (pt_cmpR op_gt (pe_ix ix_list (pv 0) pe_int (fun _ _ => rfl)) pe_int (nomark _))
      (pss_cons (ps_set (i := 2) scTake.nd rfl (.inl rfl) (pe_op op_modN (pe_ix ix_list (pv 0) pe_int (fun _ _ => rfl)) (pv 1)))
      (pss_cons (ps_asg (pe_op op_fdivW (pe_ix ix_list (pv 0) pe_int (fun _ _ => rfl)) (pv 1)) (pg_sub (pv 0) pe_int set_list)) (pss_one (ps_ret (pv 2))))) pss_nil)
    (pss_cons (ps_asg (pe_op op_modN (pe_op op_add (pe_op op_mul (pe_ix ix_list (pv 0) pe_int (fun _ _ => rfl)) pe_int) pe_int) pe_int) (pg_sub (pv 0) pe_int set_list))
    (pss_one (ps_ret (pe_op op_modN (pe_op op_fdiv (pe_ix ix_list (pv 0) pe_int (fun _ _ => rfl)) pe_int) (pv 1))))), ?_⟩
  have s0 : SqL K H f [.int x, .int y] := .inl (.inl hf)
  refine ⟨_, rfl, f, _, 0, .int x, rfl, rfl, s0, rfl, _, _, rfl, rfl, _, rfl, ?_⟩
  refine ite2 (fun c => ?_) (fun c => ?_)
  · refine ⟨_, rfl, f, _, 0, .int x, rfl, rfl, s0, rfl, _, rfl, _, _, rfl, rfl, Int.ne_of_gt pos, ?_⟩
    refine ⟨_, rfl, f, _, 0, .int x, rfl, rfl, s0, rfl, _, rfl, _, _, rfl, rfl, wide_div pos small (by decide) (by decide), ?_⟩
    refine ⟨_, rfl, f, _, 0, 0, rfl, rfl, hf, rfl, _, rfl, ?_⟩
    exact q _ _ (mod_in pos).1 (mod_in pos).2 ((But.refl f H).own) ⟨_, _, upd_same, y0, y1⟩
  · refine ⟨_, rfl, f, _, 1, .int y, rfl, rfl, s0, rfl, _, _, rfl, rfl, .inr ⟨by decide, by decide⟩, _, _, rfl, rfl, _, _, rfl, rfl, notM, ?_⟩
    refine ⟨_, rfl, f, _, 1, 1, rfl, rfl, hf, rfl, ?_⟩
    refine ⟨_, rfl, f, _, 1, _, rfl, rfl, .inl (.inl upd_same), rfl, _, _, rfl, rfl, ⟨by decide, by decide⟩, _, rfl, _, _, rfl, rfl, Int.ne_of_gt pos, ?_⟩
    exact q _ _ (mod_in pos).1 (mod_in pos).2 ((But.refl f H).own) ⟨_, _, upd_same, (modM _).1, (modM _).2⟩
/-! ### _law_pick -/
theorem atI_in {α : Type} {xs : List α} {r : Int} (h0 : 0 ≤ r) (h1 : r < (xs.length : Int)) : ∃ x ∈ xs, atI xs r = some x := by
  have lt : r.toNat < xs.length := by omega
  have er : ((r.toNat : Nat) : Int) = r := by omega
  have q : atI xs ((r.toNat : Nat) : Int) = some xs[r.toNat] := atI_nat (List.getElem?_eq_getElem lt)
  rw [er] at q
  exact ⟨_, List.getElem_mem lt, q⟩
/-- from a list -/
def spPick (K : PySem.W.Frag) : Sp := fun vs H Q _ => ∃ (f l : Addr) (xs : List V), vs = [.ref f, .ref l] ∧ l ≠ f ∧ SqL K H l xs ∧ 0 < xs.length ∧ xs.length ≤ 1000 ∧ FeedAt H f ∧
  ∀ x ∈ xs, ∀ H', But f H H' → FeedAt H' f → Q x H'
theorem seq_but {K : PySem.W.Frag} {f l : Addr} {H H' : Hp} {xs : List V} (n : l ≠ f) (b : But f H H') (h : SqL K H l xs) : SqL K H' l xs := by
  rcases h with (h | ⟨o, h⟩) | h
  · exact .inl (.inl (b _ _ n h))
  · exact .inl (.inr ⟨o, b _ _ n h⟩)
  · exact .inr h
theorem len200 {n : Nat} (h : n ≤ 1000) : ((n : Nat) : Int).natAbs < 2 ^ 200 := Nat.lt_of_le_of_lt (by rw [Int.natAbs_natCast]; exact h) (by decide)
theorem ok_pick {f g : Addr} {fd gd : FuncData} {j : Nat} (F : Fun K "_law_pick" "_law_pick" sPick f fd) (G : FnOk P w K mg base CX0 (j + 1) g gd ["feed", "many"] spTake) (bG : Binds K gd ["feed", "many"] []) (kG : PySem.W.keepIn K (.ref g) = true) (mG : mg "_law_take" = some (.ref g)) (ml : mg "len" = none) :
    FnOk P w K mg base CX0 (j + 2) f fd ["feed", "some"] (spPick K) := by
  refine F.ok scPick (fun vs H Q E h => ?_) (fun cdv A outer s H vs Q E hr h => ?_)
  · obtain ⟨a, l, xs, rfl, _⟩ := h
    rfl
  obtain ⟨f, l, xs, rfl, apart, hS, pos, few, hF, q⟩ := h
  refine ⟨_, pss_one (ps_ret (pe_ix ix_list (pv 1) (pe_call G hr (by rfl) mG kG bG .nil pass0 (pa_cons (pv 0) (pa_cons (pe_callB call_len_seq (by rfl) ml PySem.boot_len (pa_cons (pv 1) pa_nil)) pa_nil))) (fun _ _ => rfl))), ?_⟩
  refine ⟨_, rfl, _, rfl, _, rfl, l, xs, rfl, .inl hS, f, _, rfl, (by omega), len200 few, hF, fun r H' r0 r1 b hF' => ?_⟩
  obtain ⟨x, hx, item⟩ := atI_in r0 r1
  exact ⟨l, xs, r, _, rfl, rfl, seq_but apart b hS, item, q _ hx H' b hF'⟩
/-- from a text -/
def spPickS : Sp := fun vs H Q _ => ∃ (f : Addr) (z : Str), vs = [.ref f, .str z] ∧ 0 < z.length ∧ z.length ≤ 1000 ∧ FeedAt H f ∧ ∀ c ∈ z.cps.toList, ∀ H', But f H H' → FeedAt H' f → Q (.str ⟨#[c]⟩) H'
theorem ok_pickS {f g : Addr} {fd gd : FuncData} {j : Nat} (F : Fun K "_law_pick" "_law_pick" sPick f fd) (G : FnOk P w K mg base CX0 (j + 1) g gd ["feed", "many"] spTake) (bG : Binds K gd ["feed", "many"] []) (kG : PySem.W.keepIn K (.ref g) = true) (mG : mg "_law_take" = some (.ref g)) (ml : mg "len" = none) :
    FnOk P w K mg base CX0 (j + 2) f fd ["feed", "some"] spPickS := by
  refine F.ok scPick (fun vs H Q E h => ?_) (fun cdv A outer s H vs Q E hr h => ?_)
  · obtain ⟨a, z, rfl, _⟩ := h
    rfl
  obtain ⟨f, z, rfl, pos, few, hF, q⟩ := h
  refine ⟨_, pss_one (ps_ret (pe_ix ix_str (pv 1) (pe_call G hr (by rfl) mG kG bG .nil pass0 (pa_cons (pv 0) (pa_cons (pe_callB call_len_str (by rfl) ml PySem.boot_len (pa_cons (pv 1) pa_nil)) pa_nil))) (fun _ _ => rfl))), ?_⟩
  have line : z.length ≤ sizeLine := Nat.le_trans few (by decide)
  refine ⟨_, rfl, _, rfl, _, rfl, z, rfl, line, f, _, rfl, (by omega), len200 few, hF, fun r H' r0 r1 b hF' => ?_⟩
  have ln : z.cps.toList.length = z.length := Array.length_toList
  obtain ⟨x, hx, item⟩ := atI_in (xs := z.cps.toList) r0 (by omega)
  exact ⟨z, r, _, rfl, rfl, line, item, q _ hx H' b hF'⟩
end
end Kf
set_option Elab.async false
set_option linter.all false
set_option maxRecDepth 100000
set_option maxHeartbeats 4000000
/-! all(a test that reads a name of the module, for each sign of a text). -/
namespace Gx
open PySem PySem.Spec PyProof.Rows L2 GxR
/-- the test of a sign, where the module's names stand as mg says -/
def Test (prog : Program) (w : World) (mg : Str → Option Value) (scope : Scope) (x : Str) (elt : Expr) (pb : Nat → Bool) : Prop :=
  ∀ (ce : Env) (B : Around) (EE : Value → Shared → Prop) (n : Nat) (tk : Tok) (z : Shared) (m : Str → Option Value), ce.scope = scope → ce.globals = mainGlobals → z.heap.Ns mainGlobals mg → z.heap.Ns ce.locals m → m x = some (.str ⟨#[n]⟩ tk) →
    wpAny (model prog w) B (eval elt ce) (fun y z2 => y = .bool (pb n) ∧ Keeps z z2) EE z
/-- sign in LETTERS -/
def among (letters : Str) (n : Nat) : Bool := !(Builtin.Str.occurrences letters ⟨#[n]⟩ 0 letters.length 1).isEmpty
theorem test_in {prog : Program} {w : World} {mg : Str → Option Value} {scope : Scope} {x g letters : Str} {tl : Tok} {p1 p2 p3 : Pos} (hk : scope.kind = .function) (hx : scope.names.lookup x = some .local) (hg : scope.names.lookup g = some .globalImplicit)
    (hv : mg g = some (.str letters tl)) (d1 : (x == ("__debug__" : Str)) = false := by decide) (d2 : (g == ("__debug__" : Str)) = false := by decide) : Test prog w mg scope x (.Compare (.Name x p1) [.In] [.Name g p2] p3) (among letters) := by
  intro ce B EE n tk z m es eg ng nl hm
  have kf : ce.scope.kind = .function := by
    rw [es]
    exact hk
  refine wpAny_Compare1 (wpAny_Name (wpAny_loadName_local kf (show ce.scope.names.lookup x = some .local by rw [es]; exact hx) nl hm ?_) d1)
  refine Calls.Name_function_global kf (show ce.scope.names.lookup g = some .globalImplicit by rw [es]; exact hg) (Calls.loadGlobal_global (by rw [eg]; exact ng) hv ?_) d2
  exact PyProof.Rows.in_str ⟨rfl, keeps_refl z⟩
theorem join3 {C G : Value → Heap → Nat → Prop} {M : Prop} (main : (∀ v h t, C v h t → G v h t) → M) (rest : ∀ v h t, C v h t → G v h t) : M := main rest
section
variable {X : Cx} {pins : List (Addr × Obj)} {σ : L2.St} {H : Hp} {s : Shared}
/-- the module's names stand in every heap that keeps what the base had -/
theorem mod_ns {P : Addr} {h : Heap} (I : Inv X pins σ H s) (far : mainGlobals ≠ P) (k : ∀ b u, b ≠ P → s.heap.get? b = some u → h.get? b = some u) : h.Ns mainGlobals X.mg := by
  obtain ⟨o, es, ep, ho, rest⟩ := I.mod.glob.keeps I.bk
  exact ⟨o, es, ep, k _ _ far ho, rest⟩
theorem gen_ready {c P : Addr} {elt iter : Expr} {x : Str} {px gp : Pos} {scope : Scope} {pb : Nat → Bool} {te : TE} {k : Nat} {Z : Value → Shared → Prop} {R : Str → Hp → Prop} (room : Room k X.A) (tab : TabB X.base X.mg c P) (code : X.env.code = .ref c)
    (own : GenS X.env scope x) (src : PE X iter te) (test : Test X.prog X.w X.mg scope x elt pb) (plain : ∀ v, genFold iter X.env v = pure v) (I : Inv X pins σ H s)
    (h : te σ H fun v H1 => ∃ a : Str, v = .str a ∧ TabG H1 P ∧ R a H1) (done : ∀ a H1 g z, R a H1 → Ready X pins σ H1 P a pb g z → Z (.ref g) z) :
    wpAny (model X.prog X.w) X.A (eval (.GeneratorExp elt [⟨.Name x px, iter, [], 0⟩] scope gp) X.env) Z X.xe s := by
  have deep : X.A.depth < recursionLimit := by
    have := room.dp
    omega
  refine wpAny_GeneratorExp_walksQ room.hd own.co (closure_ok own.free) own.cell own.dot own.loc own.kind deep (thn (src.run pins s σ H _ I h) fun xv s1 ⟨v, H1, I1, r1, a, ev, ⟨ps, hP, trip⟩, r⟩ => ?_) plain
  subst ev
  obtain ⟨ta, rfl⟩ := _root_.id r1
  refine wpAny_pyIter_str fun it St W start => ?_
  have tabAt : s1.heap.get? P = some { cls := .none, data := .fields ps } := I1.hok P _ hP
  have ltP := Heap.lt_size tabAt
  have up : ∀ b u, s1.heap.get? b = some u → (s1.heap.push it).get? b = some u := fun b u e => Heap.get?_push_of_some _ e
  have sz : (s1.heap.push it).objs.size = s1.heap.objs.size + 1 := Heap.size_push ..
  have cod : PySem.W.CodeHd (s1.heap.push it) c P := tab.code.keeps fun b u e => up b u (I1.bk b u e)
  have free := I1.nolimit.push it
  obtain ⟨mcs, nsCs, _⟩ := _root_.id I1.nolimit
  have ltCs : cStatics < s1.heap.objs.size := nsCs.lt
  have farCs : cStatics ≠ P := fun e => by
    obtain ⟨o1, es, ep, ho, hd, _⟩ := nsCs
    rw [e, tabAt] at ho
    cases ho
    cases hd
  refine ⟨free, ?_⟩
  -- whatever code object is taken: the table has grown by some, or not
  apply join3 (C := fun _ h3 _ => ∃ qs : Array Value, Heap.ExtBut P (s1.heap.push it) h3 ∧ (s1.heap.push it).objs.size ≤ h3.objs.size ∧ h3.get? P = some { cls := .none, data := .fields (ps ++ qs) } ∧ TriplesOk (ps ++ qs).toList)
  · intro rest
    have at2 := up P _ tabAt
    cases among : codeAmong gp ps.toList with
    | none =>
      refine wpAny_genexprCodeX code (cod.code at2 trip) (cod.tab at2) among fun c2 h3 t3 ext ge lt isc _ tabs _ => ?_
      have trip3 : TriplesOk (ps ++ #[rawInt gp.line, rawInt gp.col, .ref c2]).toList := by
        obtain ⟨_, _, _, _, _, _, _, _, _, _, _, _, _, _, _, _, _, _, _, tr, _⟩ := isc
        exact tr
      generalize Value.ref c2 = cv at *
      exact rest cv h3 t3 ⟨_, ext, Nat.le_trans ge (Nat.le_of_lt lt), tabs.2, trip3⟩
    | some cv =>
      exact wpAny_genexprCode_hit code (cod.code at2 trip) among (rest cv (s1.heap.push it) s1.toks ⟨#[], Heap.ExtBut.refl _ _, Nat.le_refl _, by rw [Array.append_empty]; exact at2, by rw [Array.append_empty]; exact trip⟩)
  · intro cv h3 t3 ⟨qs, ext, big, at3, trip3⟩
    have keep : ∀ b u, b ≠ P → s1.heap.get? b = some u → h3.get? b = some u := fun b u n e => ext b u n (up b u e)
    obtain ⟨bm, ob, b1, b2, b3, b4, b5, b6, b7, b8⟩ := tab.bm
    refine wpAny_builtinsFor (m := X.mg) (by rw [I1.ok.glob]; exact mod_ns I1 tab.gP keep) b1 b2 (keep _ _ b4 (I1.bk _ _ b5)) b6 b7 b8 ?_
    rw [sz] at big
    refine ⟨s1.heap.objs.size, [s1.heap.objs.size], [s1.heap.objs.size], a.cps.size, SignAt a, St, (fun _ => true), (fun i y => ∃ n, a.cps[i]? = some n ∧ y = .bool (pb n)), rfl, W, ?_, ?_, free.extBut ext farCs, ?_, ?_, ?_⟩
    · refine (W X.A room.hd).frame _ _ _ start fun b hb u e => ext b u ?_ e
      rw [List.mem_singleton.mp hb]
      exact Nat.ne_of_gt ltP
    · intro b hb
      rw [List.mem_singleton.mp hb]
      exact big
    · intro hb
      exact absurd (List.mem_singleton.mp hb) (Nat.ne_of_lt ltCs)
    · intro href old
      refine ⟨fun B EE i v z m _ _ nl hm kz => ?_, fun B EE i v z m _ hv _ nl hm kz => ?_⟩
      · simp only [List.forIn_nil]
        exact wpAny_pure ⟨rfl, keeps_refl z⟩
      · obtain ⟨n, tn, hn, rfl⟩ := hv
        have names : z.heap.Ns mainGlobals X.mg := by
          obtain ⟨o, es, ep, ho, others⟩ := mod_ns I1 tab.gP keep
          have lt := Heap.lt_size ho
          refine ⟨o, es, ep, kz _ (List.mem_range.mpr lt) (fun hb => ?_) o (old _ _ ho), others⟩
          obtain ⟨o1, _, _, ho1, _⟩ := I1.mod.glob.keeps I1.bk
          exact absurd (Heap.lt_size ho1) (by rw [List.mem_singleton.mp hb]; exact Nat.lt_irrefl _)
        exact wpAny_mono (test _ B EE n tn z m rfl I1.ok.glob names nl hm) (fun y z2 q => ⟨⟨n, hn, q.1⟩, q.2⟩) fun _ _ e => e
    · intro g h5 t5 gs bare gt sz5 keep5 walk at5
      simp only [GxR.passing_true, List.length_range] at walk
      refine done a H1 g _ r ⟨_, _, _, _, _, walk.in4_1, at5, fun j y z Y EE hy q => ?_, fun z mv => ?_⟩
      · obtain ⟨i, hij, n, hn, rfl⟩ := hy
        obtain ⟨lt, eij⟩ := List.getElem?_eq_some_iff.mp hij
        rw [List.getElem_range] at eij
        subst eij
        have at1 : a.cps.toList[j]? = some n := by
          rw [Array.getElem?_toList]
          exact hn
        have q2 : Y (trF pb a.cps.toList j) z := q
        rw [trF_some at1] at q2
        exact wpAny_truthy_bool q2
      · have away : ∀ b u, s1.heap.get? b = some u → b ∉ [h3.objs.size, s1.heap.objs.size] := fun b u e hb => by
          have lt := Heap.lt_size e
          rcases List.mem_cons.mp hb with z | z
          · rw [z] at lt
            exact absurd (Nat.lt_of_lt_of_le lt (Nat.le_succ _)) (Nat.not_lt_of_le big)
          · rw [List.mem_singleton.mp z] at lt
            exact Nat.lt_irrefl _ lt
        have J := inv_tab (more := qs) (h' := z.heap) (g' := z.gens) (d' := z.drawn) (t' := z.toks) I1 hP (fun b u n e => mv.heap b u (away b u e) (keep5 b u (keep b u n e)))
          (mv.heap P _ (away P _ tabAt) (keep5 P _ at3)) (AllBare.movedS (I1.bare.push bare) mv)
        rw [sh_eta s1 z mv.os] at J
        exact ⟨upd H1 P (.tbl (ps ++ qs)), ⟨⟨ps ++ qs, upd_same, trip3⟩, fun b hb => upd_ne hb⟩, J⟩
theorem pe_allG {c P : Addr} {elt iter : Expr} {x : Str} {px p pos gp : Pos} {scope : Scope} {pb : Nat → Bool} {te : TE} {k : Nat} (room : Room k X.A) (hg : Gl X "all") (hm : X.mg "all" = none) (hb : bootBuiltins "all" = some (.builtin "all"))
    (tab : TabB X.base X.mg c P) (code : X.env.code = .ref c) (own : GenS X.env scope x) (src : PE X iter te) (test : Test X.prog X.w X.mg scope x elt pb) (plain : ∀ v, genFold iter X.env v = pure v)
    (one : starEach [.GeneratorExp elt [⟨.Name x px, iter, [], 0⟩] scope gp] X.env = (false, eval (.GeneratorExp elt [⟨.Name x px, iter, [], 0⟩] scope gp) X.env) :: starEach [] X.env := by rfl) :
    PE X (.Call (.Name "all" p) [.GeneratorExp elt [⟨.Name x px, iter, [], 0⟩] scope gp] [] pos) (tAllS P pb te) := by
  refine ⟨fun pins s σ H Q I h => wpAny_Call_Name_kw (ld_blt I hg hm hb (PyProof.Rows.callWith_builtin1 ?_ one (by rfl)))⟩
  rw [one]
  show wpAny _ _ (spliced ((false, eval (.GeneratorExp elt [⟨.Name x px, iter, [], 0⟩] scope gp) X.env) :: backTo pos (starEach [] X.env))) _ _ s
  refine Calls.spliced_cons (gen_ready (R := fun a H1 => ∀ H2, Tabbed P H1 H2 → Q (.bl (a.cps.toList.all pb)) H2) room tab code own src test plain I h fun a H1 g z r ⟨fp, wr, G, F, Sg, W, begun, truth, inv⟩ => Calls.spliced_nil ?_)
  refine call_all_walkS (W.self 0 _ _ _ begun ⟨g, fp, wr, G, _, F, Sg, _, rfl, W, begun, truth, fun z2 mv => ?_⟩)
  obtain ⟨H2, tb, J⟩ := inv z2 mv
  exact ⟨.bl _, H2, J, rfl, by rw [all_signs a pb]; exact r H2 tb⟩
end
end Gx
set_option Elab.async false
set_option linter.all false
set_option maxRecDepth 100000
set_option maxHeartbeats 4000000
set_option pp.maxSteps 800
/-! Data of any form. -/
namespace Kf
open PySem PySem.Spec PyProof.Rows L2 Sx
section
variable {K : PySem.W.Frag} {H H' : Hp}
theorem sqL_up {a : Addr} {xs : List V} (b : Same H H') (h : SqL K H a xs) : SqL K H' a xs := by
  rcases h with (h | ⟨o, h⟩) | h
  · exact .inl (.inl (b _ _ h))
  · exact .inl (.inr ⟨o, b _ _ h⟩)
  · exact .inr h
theorem sqT_up {a : Addr} {xs : List V} (b : Same H H') (h : SqT K H a xs) : SqT K H' a xs := by
  rcases h with (h | ⟨o, h⟩) | h
  · exact .inl (.inl (b _ _ h))
  · exact .inl (.inr ⟨o, b _ _ h⟩)
  · exact .inr h
mutual
theorem dp_up (s : Same H H') : ∀ (d : PyData) (v : V), Dp K H v d → Dp K H' v d
  | .none, _, h => by cases h; exact .non
  | .bool b, _, h => by cases h; exact .bl b
  | .int b, _, h => by cases h; exact .int b
  | .str b, _, h => by cases h; exact .str b
  | .list ds, _, h => by
    cases h with
    | lst h a => exact .lst (sqL_up s h) (dps_up s ds _ a)
  | .tuple ds, _, h => by
    cases h with
    | tup h a => exact .tup (sqT_up s h) (dps_up s ds _ a)
  | .dict _, _, h => by cases h
theorem dps_up (s : Same H H') : ∀ (ds : List PyData) (vs : List V), DpAll K H vs ds → DpAll K H' vs ds
  | [], _, h => by cases h; exact .nil
  | d :: ds, _, h => by
    cases h with
    | cons a b => exact .cons (dp_up s d _ a) (dps_up s ds _ b)
end
/-- the name of a thing's type -/
def tyN : PyData → String
  | .none => "NoneType"
  | .bool _ => "bool"
  | .int _ => "int"
  | .str _ => "str"
  | .list _ => "list"
  | .tuple _ => "tuple"
  | .dict _ => "dict"
theorem dp_ty {v : V} {d : PyData} (h : Dp K H v d) : TyX K H v (.type (tyN d)) := by
  cases h with
  | non => exact .base .non
  | bl b => exact .base (.bl b)
  | int i => exact .base (.int i)
  | str z => exact .base (.str z)
  | lst h _ =>
    rcases h with (h | ⟨o, h⟩) | ⟨o, its, n, e, c, _⟩
    · exact .base (.lst h)
    · exact .base (.frz h)
    · exact .kList e c
  | tup h _ =>
    rcases h with (h | ⟨o, h⟩) | ⟨o, its, n, e, c, _⟩
    · exact .base (.tup h)
    · exact .fTuple h
    · exact .kTuple e c
def isI : PyData → Bool
  | .int _ | .bool _ => true
  | _ => false
def isB : PyData → Bool
  | .bool _ => true
  | _ => false
def isS : PyData → Bool
  | .str _ => true
  | _ => false
def isTu : PyData → Bool
  | .tuple _ => true
  | _ => false
theorem kit_i (d : PyData) : PySem.W.kitOne K (.type (tyN d)) (.type "int") = some (isI d) := by
  cases d with
  | none => exact kit_ty (show kitB "NoneType" "int" = some false by decide +kernel)
  | bool _ => exact kit_ty (show kitB "bool" "int" = some true by decide +kernel)
  | int _ => exact kit_ty (show kitB "int" "int" = some true by decide +kernel)
  | str _ => exact kit_ty (show kitB "str" "int" = some false by decide +kernel)
  | list _ => exact kit_ty (show kitB "list" "int" = some false by decide +kernel)
  | tuple _ => exact kit_ty (show kitB "tuple" "int" = some false by decide +kernel)
  | dict _ => exact kit_ty (show kitB "dict" "int" = some false by decide +kernel)
theorem kit_b (d : PyData) : PySem.W.kitOne K (.type (tyN d)) (.type "bool") = some (isB d) := by
  cases d with
  | none => exact kit_ty (show kitB "NoneType" "bool" = some false by decide +kernel)
  | bool _ => exact kit_ty (show kitB "bool" "bool" = some true by decide +kernel)
  | int _ => exact kit_ty (show kitB "int" "bool" = some false by decide +kernel)
  | str _ => exact kit_ty (show kitB "str" "bool" = some false by decide +kernel)
  | list _ => exact kit_ty (show kitB "list" "bool" = some false by decide +kernel)
  | tuple _ => exact kit_ty (show kitB "tuple" "bool" = some false by decide +kernel)
  | dict _ => exact kit_ty (show kitB "dict" "bool" = some false by decide +kernel)
theorem kit_s (d : PyData) : PySem.W.kitOne K (.type (tyN d)) (.type "str") = some (isS d) := by
  cases d with
  | none => exact kit_ty (show kitB "NoneType" "str" = some false by decide +kernel)
  | bool _ => exact kit_ty (show kitB "bool" "str" = some false by decide +kernel)
  | int _ => exact kit_ty (show kitB "int" "str" = some false by decide +kernel)
  | str _ => exact kit_ty (show kitB "str" "str" = some true by decide +kernel)
  | list _ => exact kit_ty (show kitB "list" "str" = some false by decide +kernel)
  | tuple _ => exact kit_ty (show kitB "tuple" "str" = some false by decide +kernel)
  | dict _ => exact kit_ty (show kitB "dict" "str" = some false by decide +kernel)
theorem kit_tu (d : PyData) : PySem.W.kitOne K (.type (tyN d)) (.type "tuple") = some (isTu d) := by
  cases d with
  | none => exact kit_ty (show kitB "NoneType" "tuple" = some false by decide +kernel)
  | bool _ => exact kit_ty (show kitB "bool" "tuple" = some false by decide +kernel)
  | int _ => exact kit_ty (show kitB "int" "tuple" = some false by decide +kernel)
  | str _ => exact kit_ty (show kitB "str" "tuple" = some false by decide +kernel)
  | list _ => exact kit_ty (show kitB "list" "tuple" = some false by decide +kernel)
  | tuple _ => exact kit_ty (show kitB "tuple" "tuple" = some true by decide +kernel)
  | dict _ => exact kit_ty (show kitB "dict" "tuple" = some false by decide +kernel)
theorem dps_len : ∀ {vs : List V} {ds : List PyData}, DpAll K H vs ds → vs.length = ds.length
  | _, _, .nil => rfl
  | _, _, .cons _ t => congrArg Nat.succ (dps_len t)
end
/-! ### in a tuple -/
section
variable {X : Cx}
def rInDT (K : PySem.W.Frag) : R2 := fun x y H Q => ∃ d ds, Dp K H x d ∧ Dp K H y (.tuple ds) ∧ SeqAt.shaped d = true ∧ SeqAt.shaped (.list ds) = true ∧ PyData.depthAll ds = 0 ∧ Q (.bl (ds.any fun z => PyData.eqv z d)) H
theorem op_inDT (hu : X.A.units + 64 < cLine) : OpR X (compareOp .In) (rInDT X.K) := by
  intro pins s σ H x y v u Q I rx ry h
  obtain ⟨d, ds, hd, he, sd, se, z0, q⟩ := h
  obtain ⟨as, r1⟩ := Dp.reads I d x v hd rx
  obtain ⟨bs, r2⟩ := Dp.reads I (.tuple ds) y u he ry
  exact SeqAt.in_tuple_reads r2 r1 (SeqAt.canLay_of_shaped se) (SeqAt.canLay_of_shaped sd) (by rw [z0, Nat.zero_min]; omega) ⟨.bl _, H, I, rfl, q⟩
def rNotInDT (K : PySem.W.Frag) : R2 := fun x y H Q => ∃ d ds, Dp K H x d ∧ Dp K H y (.tuple ds) ∧ SeqAt.shaped d = true ∧ SeqAt.shaped (.list ds) = true ∧ PyData.depthAll ds = 0 ∧ Q (.bl (!ds.any fun z => PyData.eqv z d)) H
theorem op_notInDT (hu : X.A.units + 64 < cLine) : OpR X (compareOp .NotIn) (rNotInDT X.K) := by
  intro pins s σ H x y v u Q I rx ry h
  obtain ⟨d, ds, hd, he, sd, se, z0, q⟩ := h
  obtain ⟨as, r1⟩ := Dp.reads I d x v hd rx
  obtain ⟨bs, r2⟩ := Dp.reads I (.tuple ds) y u he ry
  exact SeqAt.notIn_tuple_reads r2 r1 (SeqAt.canLay_of_shaped se) (SeqAt.canLay_of_shaped sd) (by rw [z0, Nat.zero_min]; omega) ⟨.bl _, H, I, rfl, q⟩
end
/-! ### data of any depth: ==, !=, repr -/
section
variable {X : Cx}
def rEqW (K : PySem.W.Frag) : R2 := fun x y H Q => ∃ d e, Dp K H x d ∧ Dp K H y e ∧ d.canLay0 = true ∧ e.canLay0 = true ∧ d.depth ≤ 120 ∧ Q (.bl (PyData.eqv d e)) H
def rNeW (K : PySem.W.Frag) : R2 := fun x y H Q => ∃ d e, Dp K H x d ∧ Dp K H y e ∧ d.canLay0 = true ∧ e.canLay0 = true ∧ d.depth ≤ 120 ∧ Q (.bl (!PyData.eqv d e)) H
theorem op_eqW (hu : X.A.units + 130 < cLine) : OpR X (compareOp .Eq) (rEqW X.K) := by
  intro pins s σ H x y v u Q I rx ry h
  obtain ⟨d, e, hd, he, sd, se, dd, q⟩ := h
  obtain ⟨as, r1⟩ := Dp.reads I d x v hd rx
  obtain ⟨bs, r2⟩ := Dp.reads I e y u he ry
  exact SeqAt.compareEq_reads r1 r2 sd se (by omega) ⟨.bl _, H, I, rfl, q⟩
theorem op_neW (hu : X.A.units + 130 < cLine) : OpR X (compareOp .NotEq) (rNeW X.K) := by
  intro pins s σ H x y v u Q I rx ry h
  obtain ⟨d, e, hd, he, sd, se, dd, q⟩ := h
  obtain ⟨as, r1⟩ := Dp.reads I d x v hd rx
  obtain ⟨bs, r2⟩ := Dp.reads I e y u he ry
  exact SeqAt.compareNe_reads r1 r2 sd se (by omega) ⟨.bl _, H, I, rfl, q⟩
def rInW (K : PySem.W.Frag) : R2 := fun x y H Q => ∃ d ds, Dp K H x d ∧ Dp K H y (.tuple ds) ∧ d.canLay0 = true ∧ PyData.canLayAll0 ds = true ∧ min (PyData.depthAll ds) d.depth ≤ 120 ∧ Q (.bl (ds.any fun z => PyData.eqv z d)) H
theorem op_inW (hu : X.A.units + 130 < cLine) : OpR X (compareOp .In) (rInW X.K) := by
  intro pins s σ H x y v u Q I rx ry h
  obtain ⟨d, ds, hd, he, sd, se, z0, q⟩ := h
  obtain ⟨as, r1⟩ := Dp.reads I d x v hd rx
  obtain ⟨bs, r2⟩ := Dp.reads I (.tuple ds) y u he ry
  exact SeqAt.in_tuple_reads r2 r1 se sd (by omega) ⟨.bl _, H, I, rfl, q⟩
def rNotInW (K : PySem.W.Frag) : R2 := fun x y H Q => ∃ d ds, Dp K H x d ∧ Dp K H y (.tuple ds) ∧ d.canLay0 = true ∧ PyData.canLayAll0 ds = true ∧ min (PyData.depthAll ds) d.depth ≤ 120 ∧ Q (.bl (!ds.any fun z => PyData.eqv z d)) H
theorem op_notInW (hu : X.A.units + 130 < cLine) : OpR X (compareOp .NotIn) (rNotInW X.K) := by
  intro pins s σ H x y v u Q I rx ry h
  obtain ⟨d, ds, hd, he, sd, se, z0, q⟩ := h
  obtain ⟨as, r1⟩ := Dp.reads I d x v hd rx
  obtain ⟨bs, r2⟩ := Dp.reads I (.tuple ds) y u he ry
  exact SeqAt.notIn_tuple_reads r2 r1 se sd (by omega) ⟨.bl _, H, I, rfl, q⟩
end
end Kf
set_option Elab.async false
set_option linter.all false
set_option maxRecDepth 100000
set_option maxHeartbeats 4000000
set_option pp.maxSteps 1200
/-! Things of any form that stand beside the feed and a table; how great they are. -/
namespace Kf
open PySem PySem.Spec PyProof.Rows L2 Sx
abbrev NmOk (z : Str) : Prop := z.cps.all (· < 0x110000) = true
/-- the heap without some places -/
def del (H : Hp) (S : List Addr) : Hp := fun c => if c ∈ S then none else H c
theorem del_ne {H : Hp} {S : List Addr} {c : Addr} (n : c ∉ S) : del H S c = H c := if_neg n
theorem del_same {H : Hp} {S : List Addr} : Same (del H S) H := fun c o e => by
  unfold del at e
  split at e
  · cases e
  · exact e
theorem del_less {H : Hp} {S T : List Addr} (h : ∀ a ∈ T, a ∈ S) : Same (del H S) (del H T) := fun c o e => by
  unfold del at e
  split at e
  · cases e
  · rename_i n
    rw [del_ne fun z => n (h c z)]
    exact e
theorem del_but {H H' : Hp} {p : Addr} {S : List Addr} (pS : p ∈ S) (b : But p H H') : Same (del H S) (del H' S) := fun c o e => by
  by_cases n : c ∈ S
  · rw [show del H S c = none from if_pos n] at e
    cases e
  · rw [del_ne n] at e ⊢
    exact b _ _ (fun z => n (by rw [z]; exact pS)) e
/-- these places are lists, or tables -/
def LS (H : Hp) (S : List Addr) : Prop := ∀ a ∈ S, (∃ xs, H a = some (.lst xs)) ∨ ∃ ps, H a = some (.tbl ps)
theorem LS.but {H H' : Hp} {f : Addr} {S : List Addr} (h : LS H S) (b : But f H H') (hF : FeedAt H' f) : LS H' S := fun a ha => by
  by_cases e : a = f
  · obtain ⟨x, y, e2, _⟩ := hF
    rw [e]
    exact .inl ⟨_, e2⟩
  · rcases h a ha with ⟨xs, e2⟩ | ⟨xs, e2⟩
    · exact .inl ⟨xs, b _ _ e e2⟩
    · exact .inr ⟨xs, b _ _ e e2⟩
theorem LS.butT {H H' : Hp} {T : Addr} {S : List Addr} (h : LS H S) (b : But T H H') (hT : GxR.TabG H' T) : LS H' S := fun a ha => by
  by_cases e : a = T
  · obtain ⟨ps, e2, _⟩ := hT
    rw [e]
    exact .inr ⟨_, e2⟩
  · rcases h a ha with ⟨xs, e2⟩ | ⟨xs, e2⟩
    · exact .inl ⟨xs, b _ _ e e2⟩
    · exact .inr ⟨xs, b _ _ e e2⟩
theorem LS.same {H H' : Hp} {S : List Addr} (h : LS H S) (b : Same H H') : LS H' S := fun a ha => by
  rcases h a ha with ⟨xs, e⟩ | ⟨xs, e⟩
  · exact .inl ⟨xs, b _ _ e⟩
  · exact .inr ⟨xs, b _ _ e⟩
theorem LS.nin {H : Hp} {S : List Addr} {q : Addr} (h : LS H S) (e : H q = none) : q ∉ S := fun z => by
  rcases h q z with ⟨xs, e2⟩ | ⟨xs, e2⟩ <;> (rw [e] at e2; cases e2)
theorem LS.nil {H : Hp} : LS H [] := fun a ha => (List.not_mem_nil ha).elim
section
variable {K : PySem.W.Frag} {H H' : Hp} {p : Addr} {S : List Addr}
/-- data in the heap, but for these places -/
def Df (K : PySem.W.Frag) (S : List Addr) (H : Hp) (v : V) (d : PyData) : Prop := Dp K (del H S) v d
theorem Df.dp {v : V} {d : PyData} (h : Df K S H v d) : Dp K H v d := dp_up del_same _ _ h
theorem Df.less {T : List Addr} {v : V} {d : PyData} (h : Df K S H v d) (l : ∀ a ∈ T, a ∈ S) : Df K T H v d := dp_up (del_less l) _ _ h
theorem Df.but {v : V} {d : PyData} (pS : p ∈ S) (b : But p H H') (h : Df K S H v d) : Df K S H' v d := dp_up (del_but pS b) _ _ h
theorem del_up (b : Same H H') : Same (del H S) (del H' S) := fun c o e => by
  by_cases n : c ∈ S
  · rw [show del H S c = none from if_pos n] at e
    cases e
  · rw [del_ne n] at e ⊢
    exact b _ _ e
theorem Df.same {v : V} {d : PyData} (b : Same H H') (h : Df K S H v d) : Df K S H' v d := dp_up (del_up b) _ _ h
theorem sqT_del {a : Addr} {xs : List V} (hL : LS H S) (h : SqT K H a xs) : SqT K (del H S) a xs := by
  rcases h with (h | ⟨o, h⟩) | h
  · have ne : a ∉ S := fun z => by
      rcases hL a z with ⟨ys, e⟩ | ⟨ys, e⟩ <;> (rw [e] at h; cases h)
    exact .inl (.inl (by rw [del_ne ne]; exact h))
  · have ne : a ∉ S := fun z => by
      rcases hL a z with ⟨ys, e⟩ | ⟨ys, e⟩ <;> (rw [e] at h; cases h)
    exact .inl (.inr ⟨o, by rw [del_ne ne]; exact h⟩)
  · exact .inr h
def DfAll (K : PySem.W.Frag) (S : List Addr) (H : Hp) (vs : List V) (ds : List PyData) : Prop := DpAll K (del H S) vs ds
theorem df_tup {a : Addr} {xs : List V} {ds : List PyData} (hL : LS H S) (h : SqT K H a xs) (g : DfAll K S H xs ds) : Df K S H (.ref a) (.tuple ds) := .tup (sqT_del hL h) g
theorem df_lst {a : Addr} {xs : List V} {ds : List PyData} (n : a ∉ S) (h : H a = some (.lst xs)) (g : DfAll K S H xs ds) : Df K S H (.ref a) (.list ds) := .lst (.inl (.inl (by rw [del_ne n]; exact h))) g
theorem DfAll.but {vs : List V} {ds : List PyData} (pS : p ∈ S) (b : But p H H') (h : DfAll K S H vs ds) : DfAll K S H' vs ds := dps_up (del_but pS b) _ _ h
theorem DfAll.same {vs : List V} {ds : List PyData} (b : Same H H') (h : DfAll K S H vs ds) : DfAll K S H' vs ds := dps_up (del_up b) _ _ h
theorem DfAll.dp {vs : List V} {ds : List PyData} (h : DfAll K S H vs ds) : DpAll K H vs ds := dps_up del_same _ _ h
theorem dps_app : ∀ {vs ws : List V} {ds es : List PyData}, DpAll K H vs ds → DpAll K H ws es → DpAll K H (vs ++ ws) (ds ++ es)
  | _, _, _, _, .nil, h => h
  | _, _, _, _, .cons a b, h => .cons a (dps_app b h)
theorem dps_take : ∀ (k : Nat) {vs : List V} {ds : List PyData}, DpAll K H vs ds → DpAll K H (vs.take k) (ds.take k)
  | 0, _, _, _ => .nil
  | k + 1, _, _, .nil => .nil
  | k + 1, _, _, .cons a b => .cons a (dps_take k b)
theorem dps_drop : ∀ (k : Nat) {vs : List V} {ds : List PyData}, DpAll K H vs ds → DpAll K H (vs.drop k) (ds.drop k)
  | 0, _, _, h => h
  | k + 1, _, _, .nil => .nil
  | k + 1, _, _, .cons a b => dps_drop k b
theorem dps_get : ∀ {vs : List V} {ds : List PyData} {i : Nat} {v : V}, DpAll K H vs ds → vs[i]? = some v → ∃ d, ds[i]? = some d ∧ Dp K H v d
  | _, _, _, _, .nil, h => by simp at h
  | _, _, 0, _, .cons a _, h => ⟨_, rfl, (Option.some.inj h) ▸ a⟩
  | _, _, i + 1, _, .cons _ t, h => dps_get (i := i) t (by simpa using h)
theorem dps_mem {vs : List V} {ds : List PyData} {v : V} (h : DpAll K H vs ds) (m : v ∈ vs) : ∃ d, d ∈ ds ∧ Dp K H v d := by
  obtain ⟨i, lt, e⟩ := List.getElem_of_mem m
  obtain ⟨d, e2, h2⟩ := dps_get h (by rw [List.getElem?_eq_getElem lt, e])
  exact ⟨d, List.mem_of_getElem? e2, h2⟩
end
/-! ### how great -/
mutual
def ats : PyData → Bool
  | .tuple ds => atss ds
  | .list ds => atss ds
  | .none => true
  | .bool _ => true
  | .int i => decide (i.natAbs < 10 ^ 62)
  | .str z => z.cps.all (· < 0x110000) && decide (z.length ≤ 10)
  | .dict _ => false
def atss : List PyData → Bool
  | [] => true
  | d :: ds => ats d && atss ds
end
mutual
def psz : PyData → Nat
  | .tuple ds => 1 + pszs ds
  | .list ds => 1 + pszs ds
  | .none => 1
  | .bool _ => 1
  | .int _ => 1
  | .str _ => 1
  | .dict _ => 1
def pszs : List PyData → Nat
  | [] => 0
  | d :: ds => psz d + pszs ds
end
theorem psz_pos : ∀ d, 1 ≤ psz d
  | .tuple ds => Nat.le_add_right _ _
  | .list ds => Nat.le_add_right _ _
  | .none => Nat.le_refl _
  | .bool _ => Nat.le_refl _
  | .int _ => Nat.le_refl _
  | .str _ => Nat.le_refl _
  | .dict _ => Nat.le_refl _
theorem pszs_app : ∀ xs ys : List PyData, pszs (xs ++ ys) = pszs xs + pszs ys
  | [], ys => (Nat.zero_add _).symm
  | x :: xs, ys => by
    have z := pszs_app xs ys
    show psz x + pszs (xs ++ ys) = psz x + pszs xs + pszs ys
    omega
theorem atss_app : ∀ xs ys : List PyData, atss (xs ++ ys) = (atss xs && atss ys)
  | [], ys => rfl
  | x :: xs, ys => by
    have z := atss_app xs ys
    show (ats x && atss (xs ++ ys)) = (ats x && atss xs && atss ys)
    rw [z, Bool.and_assoc]
theorem atss_mem : ∀ {ds : List PyData} {d : PyData}, atss ds = true → d ∈ ds → ats d = true
  | x :: xs, d, h, m => by
    have h2 : (ats x && atss xs) = true := h
    rw [Bool.and_eq_true] at h2
    rcases List.mem_cons.mp m with rfl | m
    · exact h2.1
    · exact atss_mem h2.2 m
theorem atss_of : ∀ {ds : List PyData}, (∀ d ∈ ds, ats d = true) → atss ds = true
  | [], _ => rfl
  | x :: xs, h => by
    show (ats x && atss xs) = true
    rw [h x List.mem_cons_self, atss_of fun d m => h d (List.mem_cons_of_mem _ m)]
    rfl
theorem pszs_mem : ∀ {ds : List PyData} {d : PyData}, d ∈ ds → psz d ≤ pszs ds
  | x :: xs, d, m => by
    show psz d ≤ psz x + pszs xs
    rcases List.mem_cons.mp m with rfl | m
    · exact Nat.le_add_right _ _
    · exact Nat.le_trans (pszs_mem m) (Nat.le_add_left _ _)
theorem dep_mem : ∀ {ds : List PyData} {d : PyData}, d ∈ ds → d.depth ≤ PyData.depthAll ds
  | x :: xs, d, m => by
    show d.depth ≤ max x.depth (PyData.depthAll xs)
    rcases List.mem_cons.mp m with rfl | m
    · exact Nat.le_max_left _ _
    · exact Nat.le_trans (dep_mem m) (Nat.le_max_right _ _)
theorem dep_of : ∀ {ds : List PyData} {n : Nat}, (∀ d ∈ ds, d.depth ≤ n) → PyData.depthAll ds ≤ n
  | [], n, _ => Nat.zero_le _
  | x :: xs, n, h => by
    show max x.depth (PyData.depthAll xs) ≤ n
    have a := h x List.mem_cons_self
    have b := dep_of fun d m => h d (List.mem_cons_of_mem _ m)
    omega
theorem len_pszs : ∀ ds : List PyData, ds.length ≤ pszs ds
  | [] => Nat.le_refl _
  | x :: xs => by
    have a := len_pszs xs
    have b := psz_pos x
    show xs.length + 1 ≤ psz x + pszs xs
    omega
structure Fit (d : PyData) (m : Nat) : Prop where
  lay : d.canLay0 = true
  show_ : d.showable = true
  dict : d.hasDict = false
  len : d.shown.length ≤ m
theorem fit_int {i : Int} (h : i.natAbs < 10 ^ 62) : Fit (.int i) 127 := by
  refine ⟨rfl, decide_eq_true ?_, rfl, ?_⟩
  · by_cases z : i.natAbs = 0
    · rw [z]
      decide
    · refine (Nat.log2_lt z).2 ?_
      exact Nat.lt_of_lt_of_le h (Nat.le_trans (show 10 ^ 62 ≤ 2 ^ 208 by decide) (Nat.pow_le_pow_right (by decide) (by decide)))
  · have e := int_text_length_le10 (k := 62) (by decide) h
    show (Str.ofString (toString i)).length ≤ 127
    rw [PySem.ofString_length]
    exact Nat.le_trans e (by decide)
theorem fit_str {z : Str} (h1 : NmOk z) (h2 : z.length ≤ 10) : Fit (.str z) 127 := by
  refine ⟨h1, rfl, rfl, ?_⟩
  have all : ∀ c ∈ z.cps.toList, c < 16 ^ 8 := fun c hc => by
    have q := (Array.all_eq_true_iff_forall_mem.mp h1) c (Array.mem_toList_iff.mp hc)
    have q2 : c < 0x110000 := by simpa using q
    exact Nat.lt_of_lt_of_le q2 (by decide)
  have y := StrLaws.reprText_len z all
  have e : (PyData.shown (.str z)).length = (reprText z).length := rfl
  rw [e]
  omega
mutual
theorem fit : ∀ d : PyData, ats d = true → Fit d (130 * psz d - 3)
  | .none, _ => ⟨rfl, rfl, rfl, by decide +kernel⟩
  | .bool b, _ => ⟨rfl, rfl, rfl, by cases b <;> decide +kernel⟩
  | .int i, h => fit_int (of_decide_eq_true h)
  | .str z, h => by
    have h2 : (z.cps.all (· < 0x110000) && decide (z.length ≤ 10)) = true := h
    rw [Bool.and_eq_true] at h2
    exact fit_str h2.1 (of_decide_eq_true h2.2)
  | .dict _, h => (Bool.false_ne_true h).elim
  | .tuple ds, h => by
    obtain ⟨a1, a2, a3, a4, a5⟩ := fits ds h
    have l2 := tupleText_len_le (PyData.shownAll ds)
    have e : psz (.tuple ds) = 1 + pszs ds := rfl
    refine ⟨a1, a2, a3, ?_⟩
    show (tupleText (PyData.shownAll ds)).length ≤ _
    omega
  | .list ds, h => by
    obtain ⟨a1, a2, a3, a4, a5⟩ := fits ds h
    have l1 := listText_len_le (PyData.shownAll ds)
    have e : psz (.list ds) = 1 + pszs ds := rfl
    refine ⟨a1, a2, a3, ?_⟩
    show (listText (PyData.shownAll ds)).length ≤ _
    omega
theorem fits : ∀ ds : List PyData, atss ds = true → PyData.canLayAll0 ds = true ∧ PyData.showableAll ds = true ∧ PyData.hasDictAll ds = false ∧ ((PyData.shownAll ds).map (·.length)).sum + 3 * ds.length ≤ 130 * pszs ds ∧ (PyData.shownAll ds).length = ds.length
  | [], _ => ⟨rfl, rfl, rfl, Nat.le_refl _, rfl⟩
  | d :: ds, h => by
    have h2 : (ats d && atss ds) = true := h
    rw [Bool.and_eq_true] at h2
    obtain ⟨b1, b2, b3, b4⟩ := fit d h2.1
    obtain ⟨a1, a2, a3, a4, a5⟩ := fits ds h2.2
    have p := psz_pos d
    refine ⟨?_, ?_, ?_, ?_, ?_⟩
    · show (d.canLay0 && PyData.canLayAll0 ds) = true
      rw [b1, a1]
      rfl
    · show (d.showable && PyData.showableAll ds) = true
      rw [b2, a2]
      rfl
    · show (d.hasDict || PyData.hasDictAll ds) = false
      rw [b3, a3]
      rfl
    · show d.shown.length + ((PyData.shownAll ds).map (·.length)).sum + 3 * (ds.length + 1) ≤ 130 * (psz d + pszs ds)
      omega
    · show (PyData.shownAll ds).length + 1 = ds.length + 1
      rw [a5]
end
/-- a thing: its atoms, how deep, how many parts at most -/
structure Th (n m : Nat) (d : PyData) : Prop where
  ats : ats d = true
  deep : d.depth ≤ n
  sz : psz d ≤ m
theorem Th.mono {n m n2 m2 : Nat} {d : PyData} (h : Th n m d) (a : n ≤ n2) (b : m ≤ m2) : Th n2 m2 d := ⟨h.ats, Nat.le_trans h.deep a, Nat.le_trans h.sz b⟩
theorem Th.line {n m : Nat} {d : PyData} (h : Th n m d) (b : m ≤ 4000) : d.shown.length ≤ sizeLine := by
  have a := (fit d h.ats).len
  have c := h.sz
  exact Nat.le_trans (m := 520000) (by omega) (by decide)
theorem dep_tup (ds : List PyData) : (PyData.tuple ds).depth = PyData.depthAll ds + 1 := rfl
theorem dep_lst (ds : List PyData) : (PyData.list ds).depth = PyData.depthAll ds + 1 := rfl
theorem psz_tup (ds : List PyData) : psz (.tuple ds) = 1 + pszs ds := rfl
theorem psz_lst (ds : List PyData) : psz (.list ds) = 1 + pszs ds := rfl
end Kf
set_option Elab.async false
set_option linter.all false
set_option maxRecDepth 100000
set_option maxHeartbeats 8000000
set_option pp.maxSteps 600
/-! is_word, is_whole, is_leaf, has_form, is_made of anything. -/
namespace Kf
open PySem PySem.Spec PyProof.Rows L2 Sx RZ
abbrev sBeneath : Stmt := top 4
abbrev sWhole : Stmt := top 11
abbrev sWord : Stmt := top 12
abbrev sIsLeaf : Stmt := top 13
abbrev sForm : Stmt := top 14
abbrev sMade : Stmt := top 15
abbrev sIsSaying : Stmt := top 17
abbrev sIsBody : Stmt := top 18
theorem scBeneath : FnScope ["piece", "around"] ["piece", "around"] (defScope sBeneath) := ⟨rfl, rfl, rfl, by decide +kernel, rfl, by decide +kernel, by decide +kernel⟩
theorem scWhole : FnScope ["thing"] ["thing"] (defScope sWhole) := ⟨rfl, rfl, rfl, by decide +kernel, rfl, by decide +kernel, by decide +kernel⟩
theorem scWord : FnScope ["thing"] ["thing"] (defScope sWord) := ⟨rfl, rfl, rfl, by decide +kernel, rfl, by decide +kernel, by decide +kernel⟩
theorem scIsLeaf : FnScope ["piece", "bounds", "word", "part"] ["piece", "bounds"] (defScope sIsLeaf) := ⟨rfl, rfl, rfl, by decide +kernel, rfl, by decide +kernel, by decide +kernel⟩
theorem scForm : FnScope ["piece", "kind", "bounds", "made", "parts"] ["piece", "kind", "bounds"] (defScope sForm) := ⟨rfl, rfl, rfl, by decide +kernel, rfl, by decide +kernel, by decide +kernel⟩
theorem scMade : FnScope ["thing", "kind", "slack", "pieces", "todo", "piece", "due", "around", "within", "inner", "part", "part_due"] ["thing", "kind", "slack"] (defScope sMade) := ⟨rfl, rfl, rfl, by decide +kernel, rfl, by decide +kernel, by decide +kernel⟩
theorem scIsSaying : FnScope ["thing"] ["thing"] (defScope sIsSaying) := ⟨rfl, rfl, rfl, by decide +kernel, rfl, by decide +kernel, by decide +kernel⟩
theorem scIsBody : FnScope ["thing"] ["thing"] (defScope sIsBody) := ⟨rfl, rfl, rfl, by decide +kernel, rfl, by decide +kernel, by decide +kernel⟩
/-! ### what a term is, and a saying -/
abbrev kT : Str := "term"
abbrev kS : Str := "saying"
def table : List (Str × (Str × List Str)) := [("next", kT, [kT]), ("plus", kT, [kT, kT]), ("times", kT, [kT, kT]), ("same", kS, [kT, kT]), ("no", kS, []), ("and", kS, [kS, kS]), ("or", kS, [kS, kS]), ("if", kS, [kS, kS]), ("all", kS, [kS]), ("some", kS, [kS])]
abbrev abc : Str := "abcdefghijklmnopqrstuvwxyz"
def up (w : Str) (r : Int) : Int := if binds w = true then r + 1 else r
theorem up_inner (w : Str) (r : Nat) (a : Int) : up w ((r : Int) + a) = ((inner w r : Nat) : Int) + a := by
  unfold up inner
  split <;> omega
def headS : PyData → Option Str
  | .str w => some w
  | _ => none
def wordD : PyData → Bool
  | .str z => (decide ((1 : Int) ≤ ((z.length : Nat) : Int)) && decide (((z.length : Nat) : Int) ≤ 8)) && z.cps.toList.all (Gx.among abc)
  | _ => false
def numD (w : Str) (r : Int) : PyData → Bool
  | .int n => !decide (n < 0) && decide (n < if w = "num" then 10 ^ 60 else r)
  | _ => false
def leafD (w : Str) (r : Int) : List PyData → Bool
  | [x] => if w = "name" then wordD x else numD w r x
  | _ => false
mutual
def wf : PyData → Str → Int → Bool
  | .tuple ds, k, r => wft ds k r
  | .list _, _, _ => false
  | .none, _, _ => false
  | .bool _, _, _ => false
  | .int _, _, _ => false
  | .str _, _, _ => false
  | .dict _, _, _ => false
def wft : List PyData → Str → Int → Bool
  | [], _, _ => false
  | d :: ds, k, r => match headS d with
    | none => false
    | some w => if leafy w = true then decide (k = kT) && leafD w r ds else match table.lookup w with
      | none => false
      | some kk => decide (kk.1 = k) && wfs ds kk.2 (up w r)
def wfs : List PyData → List Str → Int → Bool
  | [], ks, _ => ks.isEmpty
  | d :: ds, ks, r => match ks with
    | [] => false
    | k :: kr => wf d k r && wfs ds kr r
end
def leafH : PyData → Bool
  | .str w => leafy w
  | _ => false
mutual
/-- how many pieces, how deep -/
def pc : PyData → Nat × Nat
  | .tuple ds => (1 + (pct ds).1, 1 + (pct ds).2)
  | .list _ => (1, 1)
  | .none => (1, 1)
  | .bool _ => (1, 1)
  | .int _ => (1, 1)
  | .str _ => (1, 1)
  | .dict _ => (1, 1)
def pct : List PyData → Nat × Nat
  | [] => (0, 0)
  | d :: ds => if leafH d = true then (0, 0) else pcs ds
def pcs : List PyData → Nat × Nat
  | [] => (0, 0)
  | d :: ds => ((pc d).1 + (pcs ds).1, max (pc d).2 (pcs ds).2)
end
theorem pc_pos : ∀ d, 1 ≤ (pc d).1 ∧ 1 ≤ (pc d).2
  | .tuple ds => ⟨Nat.le_add_right _ _, Nat.le_add_right _ _⟩
  | .list ds => ⟨Nat.le_refl _, Nat.le_refl _⟩
  | .none => ⟨Nat.le_refl _, Nat.le_refl _⟩
  | .bool _ => ⟨Nat.le_refl _, Nat.le_refl _⟩
  | .int _ => ⟨Nat.le_refl _, Nat.le_refl _⟩
  | .str _ => ⟨Nat.le_refl _, Nat.le_refl _⟩
  | .dict _ => ⟨Nat.le_refl _, Nat.le_refl _⟩
mutual
theorem pc_le : ∀ d : PyData, (pc d).1 ≤ psz d ∧ (pc d).2 ≤ d.depth + 1
  | .tuple ds => by
    obtain ⟨a, b⟩ := pct_le ds
    refine ⟨?_, ?_⟩
    · show 1 + (pct ds).1 ≤ 1 + pszs ds
      omega
    · show 1 + (pct ds).2 ≤ PyData.depthAll ds + 1 + 1
      omega
  | .list ds => ⟨Nat.le_add_right _ _, Nat.le_add_left _ _⟩
  | .none => ⟨Nat.le_refl _, Nat.le_refl _⟩
  | .bool _ => ⟨Nat.le_refl _, Nat.le_refl _⟩
  | .int _ => ⟨Nat.le_refl _, Nat.le_refl _⟩
  | .str _ => ⟨Nat.le_refl _, Nat.le_refl _⟩
  | .dict _ => ⟨Nat.le_refl _, Nat.le_add_left _ _⟩
theorem pct_le : ∀ ds : List PyData, (pct ds).1 ≤ pszs ds ∧ (pct ds).2 ≤ PyData.depthAll ds + 1
  | [] => ⟨Nat.le_refl _, Nat.zero_le _⟩
  | d :: ds => by
    obtain ⟨a, b⟩ := pcs_le ds
    show (if leafH d = true then ((0, 0) : Nat × Nat) else pcs ds).1 ≤ psz d + pszs ds ∧ (if leafH d = true then ((0, 0) : Nat × Nat) else pcs ds).2 ≤ max d.depth (PyData.depthAll ds) + 1
    split
    · exact ⟨Nat.zero_le _, Nat.zero_le _⟩
    · omega
theorem pcs_le : ∀ ds : List PyData, (pcs ds).1 ≤ pszs ds ∧ (pcs ds).2 ≤ PyData.depthAll ds + 1
  | [] => ⟨Nat.le_refl _, Nat.zero_le _⟩
  | d :: ds => by
    obtain ⟨a, b⟩ := pc_le d
    obtain ⟨a2, b2⟩ := pcs_le ds
    refine ⟨?_, ?_⟩
    · show (pc d).1 + (pcs ds).1 ≤ psz d + pszs ds
      omega
    · show max (pc d).2 (pcs ds).2 ≤ max d.depth (PyData.depthAll ds) + 1
      omega
end
/-- the form alone -/
def formD (d : PyData) (k : Str) (r : Int) : Bool := match d with
  | .tuple (x :: ds) => (match headS x with
    | none => false
    | some w => if leafy w = true then decide (k = kT) && leafD w r ds else match table.lookup w with
      | none => false
      | some kk => decide (kk.1 = k) && decide (ds.length = kk.2.length))
  | _ => false
theorem wfs_len : ∀ {ds : List PyData} {ks : List Str} {r : Int}, wfs ds ks r = true → ds.length = ks.length
  | [], ks, r, h => by
    have h2 : ks.isEmpty = true := h
    rw [List.isEmpty_iff.mp h2]
    rfl
  | d :: ds, [], r, h => (Bool.false_ne_true h).elim
  | d :: ds, k :: ks, r, h => by
    have h2 : (wf d k r && wfs ds ks r) = true := h
    rw [Bool.and_eq_true] at h2
    rw [List.length_cons, List.length_cons, wfs_len h2.2]
theorem wfs_all : ∀ {ds : List PyData} {ks : List Str} {r : Int}, ds.length = ks.length → (wfs ds ks r = true ↔ ∀ p ∈ ds.zip ks, wf p.1 p.2 r = true)
  | [], [], r, _ => ⟨fun _ p h => (List.not_mem_nil h).elim, fun _ => rfl⟩
  | [], k :: ks, r, h => by simp at h
  | d :: ds, [], r, h => by simp at h
  | d :: ds, k :: ks, r, h => by
    have ih := wfs_all (ds := ds) (ks := ks) (r := r) (by simpa using h)
    show (wf d k r && wfs ds ks r) = true ↔ _
    rw [Bool.and_eq_true, ih]
    constructor
    · rintro ⟨h1, h2⟩ p hp
      rcases List.mem_cons.mp (show p ∈ (d, k) :: ds.zip ks from hp) with rfl | hp
      · exact h1
      · exact h2 p hp
    · intro h
      exact ⟨h (d, k) List.mem_cons_self, fun p hp => h p (List.mem_cons_of_mem _ hp)⟩
theorem wf_form : ∀ {d : PyData} {k : Str} {r : Int}, wf d k r = true → formD d k r = true
  | .tuple [], k, r, h => (Bool.false_ne_true h).elim
  | .tuple (x :: ds), k, r, h => by
    have h2 : wft (x :: ds) k r = true := h
    unfold wft at h2
    unfold formD
    dsimp only
    revert h2
    cases headS x with
    | none => exact fun h => h
    | some w =>
      dsimp only
      split
      · exact fun h => h
      · cases table.lookup w with
        | none => exact fun h => h
        | some kk =>
          dsimp only
          intro h2
          rw [Bool.and_eq_true] at h2 ⊢
          exact ⟨h2.1, decide_eq_true (wfs_len h2.2)⟩
  | .list _, k, r, h => (Bool.false_ne_true h).elim
  | .none, k, r, h => (Bool.false_ne_true h).elim
  | .bool _, k, r, h => (Bool.false_ne_true h).elim
  | .int _, k, r, h => (Bool.false_ne_true h).elim
  | .str _, k, r, h => (Bool.false_ne_true h).elim
  | .dict _, k, r, h => (Bool.false_ne_true h).elim
theorem form_is {d : PyData} {k : Str} {r : Int} (h : formD d k r = true) : ∃ w ds, d = .tuple (.str w :: ds) ∧ (leafy w = true ∧ k = kT ∧ leafD w r ds = true ∨ leafy w = false ∧ ∃ ks, table.lookup w = some (k, ks) ∧ ds.length = ks.length) := by
  match d, h with
  | .tuple (x :: ds), h =>
    cases x with
    | str w =>
      refine ⟨w, ds, rfl, ?_⟩
      have h2 : (if leafy w = true then decide (k = kT) && leafD w r ds else match table.lookup w with
        | none => false
        | some kk => decide (kk.1 = k) && decide (ds.length = kk.2.length)) = true := h
      by_cases l : leafy w = true
      · rw [if_pos l, Bool.and_eq_true] at h2
        exact .inl ⟨l, of_decide_eq_true h2.1, h2.2⟩
      · rw [if_neg l] at h2
        refine .inr ⟨Bool.eq_false_iff.mpr l, ?_⟩
        revert h2
        cases table.lookup w with
        | none => exact fun z => (Bool.false_ne_true z).elim
        | some kk =>
          intro h2
          have h3 : (decide (kk.1 = k) && decide (ds.length = kk.2.length)) = true := h2
          rw [Bool.and_eq_true] at h3
          refine ⟨kk.2, ?_, of_decide_eq_true h3.2⟩
          rw [← of_decide_eq_true h3.1]
    | _ => exact (Bool.false_ne_true h).elim
end Kf
set_option Elab.async false
set_option linter.all false
set_option maxRecDepth 100000
set_option maxHeartbeats 8000000
set_option pp.maxSteps 600
/-! is_word, is_whole, is_leaf, has_form of anything. -/
namespace Kf
open PySem PySem.Spec PyProof.Rows L2 Sx RZ
/-! ### what the top has -/
structure Txt (K : PySem.W.Frag) (w : World) (mg : Str → Option Value) (L B F : Addr) : Prop where
  mL : mg "LEAVES" = some (.ref L)
  mB : mg "BINDERS" = some (.ref B)
  mF : mg "FORMS" = some (.ref F)
  leaf : ∀ H, SqT K H L leafVs
  bind : ∀ H, SqT K H B bindVs
  dict : ∃ es n, KDict K w F es n
  form : ∀ wd k ks, table.lookup wd = some (k, ks) → ∃ fa fb, PySem.W.nsIn K F wd = some (some (.ref fa)) ∧ (∀ H, SqT K H fa [.str k, .ref fb]) ∧ ∀ H, SqT K H fb (ks.map V.str)
  none_ : ∀ wd, table.lookup wd = none → PySem.W.nsIn K F wd = some none
  great : ∃ t, mg "TOO_GREAT" = some (.int (10 ^ 60) t)
  letters : ∃ t, mg "LETTERS" = some (.str abc t)
  most : ∃ t, mg "MOST_LETTERS" = some (.int 8 t)
  pieces : ∃ t, mg "MOST_PIECES" = some (.int 400 t)
  within : ∃ t, mg "MOST_WITHIN" = some (.int 60 t)
  zIs : mg "isinstance" = none
  zInt : mg "int" = none
  zBool : mg "bool" = none
  zStr : mg "str" = none
  zTuple : mg "tuple" = none
  zLen : mg "len" = none
  zAll : mg "all" = none
  zZip : mg "zip" = none
section
variable {P : Program} {w : World} {K : PySem.W.Frag} {mg : Str → Option Value} {base : Heap} {L B FV : Addr}
def spBeneath (K : PySem.W.Frag) : Sp := fun vs H Q _ => ∃ (p : Addr) (wd : Str) (us : List V) (r : Nat), vs = [.ref p, .int (r : Int)] ∧ SqT K H p (.str wd :: us) ∧ Q (.int (inner wd r : Nat)) H
theorem head_at (x : V) (us : List V) : atI (x :: us) 0 = some x := atI_nat (j := 0) rfl
theorem ok_beneath {f : Addr} {fd : FuncData} {j : Nat} (F : Fun K "beneath" "beneath" sBeneath f fd) (T : Txt K w mg L B FV) : FnOk P w K mg base CX0 (j + 1) f fd ["piece", "around"] (spBeneath K) := by
  refine F.ok scBeneath (fun vs H Q E h => ?_) (fun cdv A outer s H vs Q E hr h => ?_)
  · obtain ⟨p, wd, us, r, rfl, _⟩ := h
    rfl
  obtain ⟨p, wd, us, r, rfl, hp, q⟩ := h
  refine ⟨_, pss_one (ps_ret (pe_ifExp (pt_cmpR op_in_seq (pe_ix ix_tup (pv 0) pe_int (fun _ _ => rfl)) (pe_glob (v := .ref B) (by rfl) T.mB rfl) (by rfl)) (pe_op op_add (pv 1) pe_int) (pv 1))), ?_⟩
  refine ⟨_, rfl, p, _, 0, _, rfl, rfl, hp, head_at _ _, B, bindVs, rfl, .inr (T.bind H), rfl, rfl, _, rfl, ?_⟩
  show if binds wd = true then _ else _
  unfold inner at q
  by_cases c : binds wd = true
  · rw [if_pos c] at q ⊢
    exact ⟨_, rfl, _, _, rfl, rfl, q⟩
  · rw [if_neg c] at q ⊢
    exact ⟨_, rfl, q⟩
/-! ### is_whole -/
def wholeD (d : PyData) : Bool := isI d && !isB d
def spWhole (K : PySem.W.Frag) : Sp := fun vs H Q _ => ∃ (v : V) (d : PyData), vs = [v] ∧ Dp K H v d ∧ Q (.bl (wholeD d)) H
theorem ok_whole {f : Addr} {fd : FuncData} {j : Nat} (F : Fun K "is_whole" "is_whole" sWhole f fd) (T : Txt K w mg L B FV) : FnOk P w K mg base CX0 (j + 1) f fd ["thing"] (spWhole K) := by
  refine F.ok scWhole (fun vs H Q E h => ?_) (fun cdv A outer s H vs Q E hr h => ?_)
  · obtain ⟨v, d, rfl, _⟩ := h
    rfl
  obtain ⟨v, d, rfl, hd, q⟩ := h
  refine ⟨_, pss_one (ps_ret (pe_and (pe_callB call_isi (by rfl) T.zIs (by decide +kernel) (pa_cons (pv 0) (pa_cons (pe_bltn (v := .ty "int") (by rfl) T.zInt (by decide +kernel) rfl) pa_nil)))
    (pe_one (pe_not (pe_callB call_isi (by rfl) T.zIs (by decide +kernel) (pa_cons (pv 0) (pa_cons (pe_bltn (v := .ty "bool") (by rfl) T.zBool (by decide +kernel) rfl) pa_nil))))))), ?_⟩
  refine ⟨_, rfl, _, _, _, _, isI d, rfl, .ty "int", dp_ty hd, kit_i d, _, rfl, ?_⟩
  unfold wholeD at q
  cases hi : isI d with
  | false =>
    rw [hi] at q
    exact iteF q
  | true =>
    rw [hi] at q
    refine iteT ⟨_, rfl, _, _, _, _, isB d, rfl, .ty "bool", dp_ty hd, kit_b d, _, rfl, ?_⟩
    exact q
/-! ### is_word -/
def spWord (K : PySem.W.Frag) (PT : Addr) : Sp := fun vs H Q _ => ∃ (v : V) (d : PyData), vs = [v] ∧ Dp K H v d ∧ ats d = true ∧ GxR.TabG H PT ∧ ∀ H', GxR.Tabbed PT H H' → Q (.bl (wordD d)) H'
theorem genS {env : Env} {sc : Scope} {x : Str} (h1 : sc.kind = .function) (h2 : sc.isCoroutine = false) (h3 : sc.names.all (fun y => decide (y.2 ≠ .cell) && decide (y.2 ≠ .free)) = true) (h4 : sc.names.lookup (".0" : Str) = some NameKind.local) (h5 : sc.names.lookup x = some .local) : GxR.GenS env sc x := by
  have all := List.all_eq_true.mp h3
  refine ⟨h1, h2, fun y hy => ?_, h4, h5, fun y hy e => ?_⟩
  · have q := all y hy
    rw [Bool.and_eq_true, decide_eq_true_eq, decide_eq_true_eq] at q
    exact q.1
  · have q := all y hy
    rw [Bool.and_eq_true, decide_eq_true_eq, decide_eq_true_eq] at q
    exact absurd e q.2
theorem tabbed_refl {PT : Addr} {H : Hp} (h : GxR.TabG H PT) : GxR.Tabbed PT H H := ⟨h, fun _ _ => rfl⟩
theorem str_len {z : Str} (h : ats (.str z) = true) : z.length ≤ 10 := by
  have h2 : (z.cps.all (· < 0x110000) && decide (z.length ≤ 10)) = true := h
  rw [Bool.and_eq_true] at h2
  exact of_decide_eq_true h2.2
theorem ok_word {f c PT : Addr} {oc kV dc pm ct : Value} {od an : Option Addr} {osl : Array (Option Value)} {j : Nat}
    (lk : K.lookup f = some ⟨oc, od, .func (PySem.W.fnOf "is_word" "is_word" (defArgs sWord) (defBody sWord) (defScope sWord) .none kV dc pm an (.ref c) ct), osl⟩) (hcd : PySem.W.codeIn K (.ref c) "is_word" = true) (T : Txt K w mg L B FV) (tab : GxR.TabB base mg c PT) :
    FnOk P w K mg base CX0 (j + 2) f (PySem.W.fnOf "is_word" "is_word" (defArgs sWord) (defBody sWord) (defScope sWord) .none kV dc pm an (.ref c) ct) ["thing"] (spWord K PT) := by
  obtain ⟨tl, mLt⟩ := T.letters
  obtain ⟨tm, mM⟩ := T.most
  refine fn_of lk hcd scWord (fun vs H Q E h => ?_) fun A outer s H vs Q E hr h => ?_
  · obtain ⟨v, d, rfl, _⟩ := h
    rfl
  obtain ⟨v, d, rfl, hd, at_, hT, q⟩ := h
  refine ⟨_, pss_cons (ps_if (PW.pt (pw_or (pt_not (pt_val (pe_callB call_isi (by rfl) T.zIs (by decide +kernel) (pa_cons (pv 0) (pa_cons (pe_bltn (v := .ty "str") (by rfl) T.zStr (by decide +kernel) rfl) pa_nil)))))
      (pw_or1 (pt_not (pt_chain op_le op_le pe_int (pe_callB call_len_str (by rfl) T.zLen PySem.boot_len (pa_cons (pv 0) pa_nil)) (pe_glob (v := .int 8) (by rfl) mM ⟨_, rfl⟩)))))) (pss_one (ps_ret pe_bl)) pss_nil)
    (pss_one (ps_ret (Gx.pe_allG hr (by rfl) T.zAll (by decide +kernel) tab rfl (genS rfl rfl (by decide +kernel) (by decide +kernel) (by decide +kernel)) (pv 0) (Gx.test_in rfl (by decide +kernel) (by decide +kernel) mLt) (fun _ => rfl)))), ?_⟩
  refine ⟨_, rfl, _, _, _, _, isS d, rfl, .ty "str", dp_ty hd, kit_s d, _, rfl, ?_⟩
  have q0 := q H (tabbed_refl hT)
  cases hs : isS d with
  | false =>
    have e : wordD d = false := by
      cases d with
      | str _ => cases hs
      | _ => rfl
    rw [e] at q0
    exact iteT q0
  | true =>
    obtain ⟨z, rfl⟩ : ∃ z, d = .str z := by
      cases d with
      | str z => exact ⟨z, rfl⟩
      | _ => cases hs
    cases hd
    refine iteF ?_
    have ln := str_len at_
    refine ⟨_, rfl, _, rfl, Nat.le_trans ln (by decide), _, _, rfl, rfl, _, rfl, ?_⟩
    have ew : wordD (.str z) = ((decide ((1 : Int) ≤ ((z.length : Nat) : Int)) && decide (((z.length : Nat) : Int) ≤ 8)) && z.cps.toList.all (Gx.among abc)) := rfl
    rw [ew] at q0 q
    cases h1 : decide ((1 : Int) ≤ ((z.length : Nat) : Int)) with
    | false =>
      rw [h1] at q0
      exact iteF ⟨_, rfl, iteT q0⟩
    | true =>
      rw [h1] at q0 q
      refine iteT ⟨_, _, rfl, rfl, _, rfl, ?_⟩
      cases h2 : decide (((z.length : Nat) : Int) ≤ 8) with
      | false =>
        rw [h2] at q0
        exact iteT q0
      | true =>
        rw [h2] at q
        exact iteF ⟨_, rfl, _, rfl, hT, fun H2 tb => q H2 tb⟩
/-! ### is_leaf -/
def spIsLeaf (K : PySem.W.Frag) (PT : Addr) : Sp := fun vs H Q _ => ∃ (p : Addr) (wd : Str) (us : List V) (ds : List PyData) (r : Int), vs = [.ref p, .int r] ∧ SqT K H p (.str wd :: us) ∧ DpAll K H us ds ∧ atss ds = true ∧ leafy wd = true ∧ GxR.TabG H PT ∧ ∀ H', GxR.Tabbed PT H H' → Q (.bl (leafD wd r ds)) H'
theorem ok_isleaf {f fw fq : Addr} {fd dw dq : FuncData} {PT : Addr} (F : Fun K "is_leaf" "is_leaf" sIsLeaf f fd) (T : Txt K w mg L B FV)
    (W : FnOk P w K mg base CX0 2 fw dw ["thing"] (spWord K PT)) (bW : Binds K dw ["thing"] []) (kW : PySem.W.keepIn K (.ref fw) = true) (mW : mg "is_word" = some (.ref fw))
    (I : FnOk P w K mg base CX0 1 fq dq ["thing"] (spWhole K)) (bI : Binds K dq ["thing"] []) (kI : PySem.W.keepIn K (.ref fq) = true) (mI : mg "is_whole" = some (.ref fq)) : FnOk P w K mg base CX0 3 f fd ["piece", "bounds"] (spIsLeaf K PT) := by
  obtain ⟨tg, mG⟩ := T.great
  refine F.ok scIsLeaf (fun vs H Q E h => ?_) (fun cdv A outer s H vs Q E hr h => ?_)
  · obtain ⟨p, wd, us, ds, r, rfl, _⟩ := h
    rfl
  obtain ⟨p, wd, us, ds, r, rfl, hp, hds, at_, lw, hT, q⟩ := h
  have h1 : Room 1 _ := hr.mono (by decide)
  refine ⟨_, pss_cons (ps_if (pt_cmpR op_ne (pe_callB call_len_seq (by rfl) T.zLen PySem.boot_len (pa_cons (pv 0) pa_nil)) pe_int (nomark _)) (pss_one (ps_ret pe_bl)) pss_nil)
    (pss_cons (ps_asg (pv 0) (pg_tup (by rfl) (pgs_cons (pg_name (i := 2) scIsLeaf.nd rfl (.inl rfl)) (pgs_cons (pg_name (i := 3) scIsLeaf.nd rfl (.inl rfl)) pgs_nil))))
    (pss_cons (ps_if (pt_cmpR op_eq (pv 2) pe_str (nomark _)) (pss_one (ps_ret (pe_call W hr (by rfl) mW kW bW .nil pass0 (pa_cons (pv 3) pa_nil)))) pss_nil)
    (pss_cons (ps_if (PW.pt (pw_or (pt_not (pt_val (pe_call I h1 (by rfl) mI kI bI .nil pass0 (pa_cons (pv 3) pa_nil)))) (pw_or1 (pt_cmpR op_lt (pv 3) pe_int (nomark _))))) (pss_one (ps_ret pe_bl)) pss_nil)
    (pss_one (ps_ret (pe_cmpR op_lt (pv 3) (pe_ifExp (pt_cmpR op_eq (pv 2) pe_str (nomark _)) (pe_glob (v := .int (10 ^ 60)) (by rfl) mG ⟨_, rfl⟩) (pv 1)) (nomark _))))))), ?_⟩
  have q0 := q H (tabbed_refl hT)
  refine ⟨_, rfl, p, _, rfl, .inr hp, rfl, _, rfl, ?_⟩
  have hl := dps_len hds
  cases hds with
  | nil =>
    rw [show (!decide (V.int ((([V.str wd] : List V).length : Nat) : Int) = V.int 2)) = true from rfl]
    exact iteT q0
  | @cons x us a dr hx hr_ =>
  cases hr_ with
  | @cons y us2 b dr2 hy hr2 =>
    rw [show (!decide (V.int (((V.str wd :: x :: y :: us2).length : Nat) : Int) = V.int 2)) = true by
      rw [decide_eq_false (fun e2 => by injection e2 with e2; simp only [List.length_cons] at e2; omega)]
      rfl]
    have e0 : leafD wd r (a :: b :: dr2) = false := rfl
    rw [e0] at q0
    exact iteT q0
  | nil =>
    have ata : ats a = true := atss_mem at_ List.mem_cons_self
    rw [show (!decide (V.int ((([V.str wd, x] : List V).length : Nat) : Int) = V.int 2)) = false from rfl]
    refine iteF ?_
    refine ⟨_, rfl, p, [.str wd, x], rfl, hp, rfl, .str wd, [x], rfl, x, [], rfl, rfl, ?_⟩
    refine ⟨_, rfl, rfl, _, rfl, ?_⟩
    by_cases hn : wd = "name"
    · subst hn
      have en : leafD "name" r [a] = wordD a := by
        show (if ("name" : Str) = "name" then wordD a else numD "name" r a) = wordD a
        exact if_pos rfl
      rw [en] at q
      rw [show decide (V.str ("name" : Str) = V.str "name") = true from decide_eq_true rfl]
      exact iteT ⟨_, rfl, x, a, rfl, hx, ata, hT, q⟩
    · rw [show decide (V.str wd = V.str "name") = false from decide_eq_false (fun z => hn (by injection z))]
      have el : leafD wd r [a] = numD wd r a := if_neg hn
      rw [el] at q0
      refine iteF ⟨_, rfl, x, a, rfl, hx, _, rfl, ?_⟩
      cases a with
      | int n =>
        cases hx
        have q0 : Q (.bl (!decide (n < 0) && decide (n < if wd = "num" then 10 ^ 60 else r))) H := q0
        refine iteF ⟨_, rfl, _, _, rfl, rfl, _, rfl, ?_⟩
        cases hneg : decide (n < 0) with
        | true =>
          rw [hneg] at q0
          exact iteT q0
        | false =>
          rw [hneg] at q0
          refine iteF ⟨_, rfl, _, rfl, rfl, _, rfl, ?_⟩
          by_cases hm : wd = "num"
          · rw [if_pos hm] at q0
            rw [decide_eq_true (show V.str wd = V.str "num" by rw [hm])]
            exact iteT ⟨_, _, rfl, rfl, q0⟩
          · rw [if_neg hm] at q0
            rw [decide_eq_false (show V.str wd ≠ V.str "num" from fun z => hm (by injection z))]
            exact iteF ⟨_, rfl, _, _, rfl, rfl, q0⟩
      | none => exact iteT q0
      | bool b => exact iteT q0
      | str z => exact iteT q0
      | list _ => exact iteT q0
      | tuple _ => exact iteT q0
      | dict _ => exact iteT q0
/-! ### has_form -/
def spForm (K : PySem.W.Frag) (PT : Addr) : Sp := fun vs H Q _ => ∃ (v : V) (k : Str) (r : Int) (d : PyData), vs = [v, .str k, .int r] ∧ Dp K H v d ∧ ats d = true ∧ GxR.TabG H PT ∧ ∀ H', GxR.Tabbed PT H H' → Q (.bl (formD d k r)) H'
theorem ok_form {f g : Addr} {fd gd : FuncData} {PT : Addr} (F : Fun K "has_form" "has_form" sForm f fd) (T : Txt K w mg L B FV) (G : FnOk P w K mg base CX0 3 g gd ["piece", "bounds"] (spIsLeaf K PT)) (bG : Binds K gd ["piece", "bounds"] []) (kG : PySem.W.keepIn K (.ref g) = true) (mG : mg "is_leaf" = some (.ref g)) :
    FnOk P w K mg base CX0 4 f fd ["piece", "kind", "bounds"] (spForm K PT) := by
  obtain ⟨es, n, D⟩ := T.dict
  refine F.ok scForm (fun vs H Q E h => ?_) (fun cdv A outer s H vs Q E hr h => ?_)
  · obtain ⟨v, k, r, d, rfl, _⟩ := h
    rfl
  obtain ⟨v, k, r, d, rfl, hd, at_, hT, q⟩ := h
  refine ⟨_, pss_cons (ps_if (PW.pt (pw_or (pt_not (pt_val (pe_callB call_isi (by rfl) T.zIs (by decide +kernel) (pa_cons (pv 0) (pa_cons (pe_bltn (v := .ty "tuple") (by rfl) T.zTuple (by decide +kernel) rfl) pa_nil)))))
      (pw_or (pt_cmpR op_eq (pe_callB call_len_seq (by rfl) T.zLen PySem.boot_len (pa_cons (pv 0) pa_nil)) pe_int (nomark _))
      (pw_or1 (pt_not (pt_val (pe_callB call_isi (by rfl) T.zIs (by decide +kernel) (pa_cons (pe_ix ix_tup (pv 0) pe_int (fun _ _ => rfl)) (pa_cons (pe_bltn (v := .ty "str") (by rfl) T.zStr (by decide +kernel) rfl) pa_nil)))))))))
      (pss_one (ps_ret pe_bl)) pss_nil)
    (pss_cons (ps_if (pt_cmpR op_in_seq (pe_ix ix_tup (pv 0) pe_int (fun _ _ => rfl)) (pe_glob (v := .ref L) (by rfl) T.mL rfl) (by rfl))
      (pss_one (ps_ret (pe_and (pe_cmpR op_eq (pv 1) pe_str (nomark _)) (pe_one (pe_call G hr (by rfl) mG kG bG .nil pass0 (pa_cons (pv 0) (pa_cons (pv 2) pa_nil))))))) pss_nil)
    (pss_cons (ps_if (pt_cmpR (op_notIn_kd D) (pe_ix ix_tup (pv 0) pe_int (fun _ _ => rfl)) (pe_glob (v := .ref FV) (by rfl) T.mF rfl) (by rfl)) (pss_one (ps_ret pe_bl)) pss_nil)
    (pss_cons (ps_asg (pe_ix ix_kdict (pe_glob (v := .ref FV) (by rfl) T.mF rfl) (pe_ix ix_tup (pv 0) pe_int (fun _ _ => rfl)) (fun _ _ => rfl)) (pg_tup (by rfl) (pgs_cons (pg_name (i := 3) scForm.nd rfl (.inl rfl)) (pgs_cons (pg_name (i := 4) scForm.nd rfl (.inl rfl)) pgs_nil))))
    (pss_one (ps_ret (pe_and (pe_cmpR op_eq (pv 3) (pv 1) (nomark _)) (pe_one (pe_cmpR op_eq (pe_callB call_len_seq (by rfl) T.zLen PySem.boot_len (pa_cons (pv 0) pa_nil))
      (pe_op op_add (pe_callB call_len_seq (by rfl) T.zLen PySem.boot_len (pa_cons (pv 4) pa_nil)) pe_int) (nomark _))))))))), ?_⟩
  have q0 := q H (tabbed_refl hT)
  refine ⟨_, rfl, _, _, _, _, isTu d, rfl, .ty "tuple", dp_ty hd, kit_tu d, _, rfl, ?_⟩
  cases ht : isTu d with
  | false =>
    have e : formD d k r = false := by
      cases d with
      | tuple _ => cases ht
      | _ => rfl
    rw [e] at q0
    exact iteT q0
  | true =>
    obtain ⟨ds, rfl⟩ : ∃ ds, d = .tuple ds := by
      cases d with
      | tuple ds => exact ⟨ds, rfl⟩
      | _ => cases ht
    cases hd with
    | @tup p xs _ hs ha =>
    refine iteF ⟨_, rfl, p, xs, rfl, .inr hs, rfl, _, rfl, ?_⟩
    cases ha with
    | nil => exact iteT q0
    | @cons x us a dr hx hr_ =>
    rw [show decide (V.int (((x :: us).length : Nat) : Int) = V.int 0) = false from decide_eq_false (fun z => by injection z with z; rw [List.length_cons] at z; omega)]
    refine iteF ⟨_, rfl, p, _, 0, _, rfl, rfl, hs, head_at _ _, _, _, _, _, isS a, rfl, .ty "str", dp_ty hx, kit_s a, _, rfl, ?_⟩
    cases hS : isS a with
    | false =>
      have e : formD (.tuple (a :: dr)) k r = false := by
        cases a with
        | str _ => cases hS
        | _ => rfl
      rw [e] at q0
      exact iteT q0
    | true =>
      obtain ⟨wd, rfl⟩ : ∃ w, a = .str w := by
        cases a with
        | str w => exact ⟨w, rfl⟩
        | _ => cases hS
      cases hx
      have ats_ : atss dr = true := by
        have h2 : (ats (.str wd) && atss dr) = true := at_
        rw [Bool.and_eq_true] at h2
        exact h2.2
      refine iteF ⟨_, rfl, p, _, 0, _, rfl, rfl, hs, head_at _ _, L, leafVs, rfl, .inr (T.leaf H), rfl, rfl, _, rfl, ?_⟩
      show if leafy wd = true then _ else _
      have ef : formD (.tuple (.str wd :: dr)) k r = (if leafy wd = true then decide (k = kT) && leafD wd r dr else match table.lookup wd with
        | none => false
        | some kk => decide (kk.1 = k) && decide (dr.length = kk.2.length)) := rfl
      rw [ef] at q0 q
      by_cases hl : leafy wd = true
      · rw [if_pos hl] at q0 q ⊢
        refine ⟨_, rfl, rfl, _, rfl, ?_⟩
        by_cases hk : k = kT
        · rw [decide_eq_true hk] at q
          rw [decide_eq_true (show V.str k = V.str "term" by rw [hk])]
          exact iteT ⟨_, rfl, _, rfl, p, wd, us, dr, r, rfl, hs, hr_, ats_, hl, hT, q⟩
        · rw [decide_eq_false hk] at q0
          rw [decide_eq_false (show V.str k ≠ V.str "term" from fun z => hk (by injection z))]
          exact iteF q0
      · rw [if_neg hl] at q0 ⊢
        cases hr2 : table.lookup wd with
        | none =>
          rw [hr2] at q0
          refine ⟨_, rfl, p, _, 0, _, rfl, rfl, hs, head_at _ _, _, _, rfl, rfl, T.none_ _ hr2, _, rfl, ?_⟩
          exact iteT q0
        | some kk =>
          rw [hr2] at q0
          have q0 : Q (.bl (decide (kk.1 = k) && decide (dr.length = kk.2.length))) H := q0
          obtain ⟨fa, fb, e1, e2, e3⟩ := T.form wd kk.1 kk.2 hr2
          refine ⟨_, rfl, p, _, 0, _, rfl, rfl, hs, head_at _ _, _, _, rfl, rfl, e1, _, rfl, ?_⟩
          refine iteF ?_
          refine ⟨_, rfl, p, _, 0, _, rfl, rfl, hs, head_at _ _, FV, _, .ref fa, rfl, rfl, ⟨es, n, _, D.at_, D.lit, e1, rfl⟩, ?_⟩
          refine ⟨fa, _, rfl, e2 H, rfl, .str kk.1, [.ref fb], rfl, .ref fb, [], rfl, rfl, ?_⟩
          refine ⟨_, rfl, _, rfl, rfl, _, rfl, ?_⟩
          by_cases hk : kk.1 = k
          · rw [decide_eq_true hk] at q0
            rw [decide_eq_true (show V.str kk.1 = V.str k by rw [hk])]
            refine iteT ?_
            refine ⟨_, rfl, p, _, rfl, .inr hs, _, rfl, fb, _, rfl, .inr (e3 H), _, _, rfl, rfl, rfl, ?_⟩
            have e : decide (V.int (((V.str wd :: us).length : Nat) : Int) = V.int (((kk.2.map V.str).length : Nat) + 1)) = decide (dr.length = kk.2.length) := by
              rw [List.length_cons, List.length_map, dps_len hr_]
              refine decide_eq_decide.mpr ⟨fun z => ?_, fun z => ?_⟩
              · injection z with z
                omega
              · rw [z]
                rfl
            show Q (.bl (decide (V.int (((V.str wd :: us).length : Nat) : Int) = V.int (((kk.2.map V.str).length : Nat) + 1)))) H
            rw [e]
            exact q0
          · rw [decide_eq_false hk] at q0
            rw [decide_eq_false (show V.str kk.1 ≠ V.str k from fun z => hk (by injection z))]
            exact iteF q0
end
end Kf
set_option Elab.async false
set_option linter.all false
set_option maxRecDepth 100000
set_option maxHeartbeats 8000000
set_option pp.maxSteps 600
/-! is_made, is_term of anything. -/
namespace Kf
open PySem PySem.Spec PyProof.Rows L2 Sx RZ
structure En where
  d : PyData
  k : Str
  r : Nat
  n : Nat
def sumE (es : List En) : Nat := (es.map fun e => (pc e.d).1).sum
theorem sumE_app (a b : List En) : sumE (a ++ b) = sumE a + sumE b := by
  unfold sumE
  rw [List.map_append, List.sum_append]
theorem sumE_one (e : En) : sumE [e] = (pc e.d).1 := by
  unfold sumE
  simp
theorem sumE_len : ∀ es : List En, es.length ≤ sumE es
  | [] => Nat.zero_le _
  | e :: es => by
    have h := sumE_len es
    have p := (pc_pos e.d).1
    show es.length + 1 ≤ (pc e.d).1 + sumE es
    omega
/-- still to be let by -/
def Good (sl : Int) (c : Nat) (es : List En) : Prop := (∀ e ∈ es, wf e.d e.k ((e.r : Int) + sl) = true) ∧ c + sumE es ≤ 400 ∧ ∀ e ∈ es, e.n + (pc e.d).2 ≤ 61
theorem good_out {sl : Int} {c : Nat} {es : List En} {e : En} (h : Good sl c (es ++ [e])) : c + 1 ≤ 400 ∧ e.n ≤ 60 ∧ wf e.d e.k ((e.r : Int) + sl) = true := by
  obtain ⟨h0, h1, h2⟩ := h
  have m : e ∈ es ++ [e] := List.mem_append.mpr (.inr (List.mem_singleton.mpr rfl))
  rw [sumE_app, sumE_one] at h1
  have p := pc_pos e.d
  have h3 := h2 e m
  exact ⟨by omega, by omega, h0 e m⟩
def ents (ds : List PyData) (ks : List Str) (r n : Nat) : List En := (ds.zip ks).map fun p => ⟨p.1, p.2, r, n⟩
theorem ents_sum (r n : Nat) : ∀ (ds : List PyData) (ks : List Str), ds.length = ks.length → sumE (ents ds ks r n) = (pcs ds).1
  | [], [], _ => rfl
  | d :: ds, k :: ks, h => by
    have e1 : sumE (ents (d :: ds) (k :: ks) r n) = (pc d).1 + sumE (ents ds ks r n) := rfl
    rw [e1, ents_sum r n ds ks (by simpa using h)]
    rfl
  | [], _ :: _, h => by simp at h
  | _ :: _, [], h => by simp at h
theorem pcs_deep : ∀ {ds : List PyData} {m : Nat}, (pcs ds).2 ≤ m ↔ ∀ d ∈ ds, (pc d).2 ≤ m
  | [], m => ⟨fun _ d h => (List.not_mem_nil h).elim, fun _ => Nat.zero_le _⟩
  | d :: ds, m => by
    have ih := pcs_deep (ds := ds) (m := m)
    show max (pc d).2 (pcs ds).2 ≤ m ↔ _
    rw [Nat.max_le, ih]
    constructor
    · rintro ⟨a, b⟩ x hx
      rcases List.mem_cons.mp hx with rfl | hx
      · exact a
      · exact b x hx
    · intro h
      exact ⟨h d List.mem_cons_self, fun x hx => h x (List.mem_cons_of_mem _ hx)⟩
theorem pc_leaf {w : Str} {ds : List PyData} (l : leafy w = true) : pc (.tuple (.str w :: ds)) = (1, 1) := by
  have e : pct (.str w :: ds) = (0, 0) := if_pos l
  show (1 + (pct (.str w :: ds)).1, 1 + (pct (.str w :: ds)).2) = _
  rw [e]
  rfl
theorem pc_in {w : Str} {ds : List PyData} (l : leafy w = false) : pc (.tuple (.str w :: ds)) = (1 + (pcs ds).1, 1 + (pcs ds).2) := by
  have e : pct (.str w :: ds) = pcs ds := if_neg (by show ¬ leafy w = true; rw [l]; exact Bool.false_ne_true)
  show (1 + (pct (.str w :: ds)).1, 1 + (pct (.str w :: ds)).2) = _
  rw [e]
theorem wf_leaf {w : Str} {ds : List PyData} {k : Str} {r : Int} (l : leafy w = true) : wf (.tuple (.str w :: ds)) k r = (decide (k = kT) && leafD w r ds) := by
  show (if leafy w = true then decide (k = kT) && leafD w r ds else _) = _
  exact if_pos l
theorem wf_in {w : Str} {ds : List PyData} {k : Str} {r : Int} {ks : List Str} (l : leafy w = false) (t : table.lookup w = some (k, ks)) : wf (.tuple (.str w :: ds)) k r = wfs ds ks (up w r) := by
  have e : wf (.tuple (.str w :: ds)) k r = (match table.lookup w with
      | none => false
      | some kk => decide (kk.1 = k) && wfs ds kk.2 (up w r)) := if_neg (by rw [l]; exact Bool.false_ne_true)
  rw [e, t]
  show (decide (k = k) && wfs ds ks (up w r)) = _
  rw [decide_eq_true rfl, Bool.true_and]
theorem good_leaf {sl : Int} {c r n : Nat} {es : List En} {w : Str} {ds : List PyData} (hn : n ≤ 60) (l : leafy w = true) (h : leafD w ((r : Int) + sl) ds = true) : Good sl c (es ++ [⟨.tuple (.str w :: ds), kT, r, n⟩]) ↔ Good sl (c + 1) es := by
  have p := pc_leaf (ds := ds) l
  have g : wf (.tuple (.str w :: ds)) kT ((r : Int) + sl) = true := by
    rw [wf_leaf l, h, decide_eq_true rfl]
    rfl
  unfold Good
  rw [sumE_app, sumE_one, p]
  constructor
  · rintro ⟨h0, h1, h2⟩
    exact ⟨fun e he => h0 e (List.mem_append.mpr (.inl he)), by omega, fun e he => h2 e (List.mem_append.mpr (.inl he))⟩
  · rintro ⟨h0, h1, h2⟩
    refine ⟨fun e he => ?_, by omega, fun e he => ?_⟩
    · rcases List.mem_append.mp he with z | z
      · exact h0 e z
      · rw [List.mem_singleton.mp z]
        exact g
    · rcases List.mem_append.mp he with z | z
      · exact h2 e z
      · rw [List.mem_singleton.mp z]
        show n + (pc (.tuple (.str w :: ds))).2 ≤ 61
        rw [p]
        show n + 1 ≤ 61
        omega
theorem good_in {sl : Int} {c r n : Nat} {es : List En} {w k : Str} {ds : List PyData} {ks : List Str} (hn : n ≤ 60) (l : leafy w = false) (t : table.lookup w = some (k, ks)) (len : ds.length = ks.length) :
    Good sl c (es ++ [⟨.tuple (.str w :: ds), k, r, n⟩]) ↔ Good sl (c + 1) (es ++ ents ds ks (inner w r) (n + 1)) := by
  have p := pc_in (ds := ds) l
  have g : wf (.tuple (.str w :: ds)) k ((r : Int) + sl) = true ↔ ∀ q ∈ ds.zip ks, wf q.1 q.2 (((inner w r : Nat) : Int) + sl) = true := by
    rw [wf_in l t, up_inner]
    exact wfs_all len
  have dd : n + (pc (.tuple (.str w :: ds))).2 ≤ 61 ↔ ∀ a ∈ ds, n + 1 + (pc a).2 ≤ 61 := by
    rw [p]
    have q := pcs_deep (ds := ds) (m := 60 - n)
    show n + (1 + (pcs ds).2) ≤ 61 ↔ _
    constructor
    · intro h a ha
      have := q.1 (by omega) a ha
      omega
    · intro h
      have := q.2 (fun a ha => by have := h a ha; omega)
      omega
  unfold Good
  rw [sumE_app, sumE_app, sumE_one, ents_sum _ _ _ _ len]
  show _ ∧ c + (sumE es + (pc (.tuple (.str w :: ds))).1) ≤ 400 ∧ _ ↔ _
  rw [show (pc (.tuple (.str w :: ds))).1 = 1 + (pcs ds).1 by rw [p]]
  constructor
  · rintro ⟨h0, h1, h2⟩
    have e0 := g.1 (h0 _ (List.mem_append.mpr (.inr (List.mem_singleton.mpr rfl))))
    have e2 := dd.1 (h2 _ (List.mem_append.mpr (.inr (List.mem_singleton.mpr rfl))))
    refine ⟨fun e he => ?_, by omega, fun e he => ?_⟩
    · rcases List.mem_append.mp he with z | z
      · exact h0 e (List.mem_append.mpr (.inl z))
      · obtain ⟨q, hq, rfl⟩ := List.mem_map.mp z
        exact e0 q hq
    · rcases List.mem_append.mp he with z | z
      · exact h2 e (List.mem_append.mpr (.inl z))
      · obtain ⟨q, hq, rfl⟩ := List.mem_map.mp z
        exact e2 q.1 (List.of_mem_zip hq).1
  · rintro ⟨h0, h1, h2⟩
    refine ⟨fun e he => ?_, by omega, fun e he => ?_⟩
    · rcases List.mem_append.mp he with z | z
      · exact h0 e (List.mem_append.mpr (.inl z))
      · rw [List.mem_singleton.mp z]
        exact g.2 fun q hq => h0 ⟨q.1, q.2, inner w r, n + 1⟩ (List.mem_append.mpr (.inr (List.mem_map.mpr ⟨q, hq, rfl⟩)))
    · rcases List.mem_append.mp he with z | z
      · exact h2 e (List.mem_append.mpr (.inl z))
      · rw [List.mem_singleton.mp z]
        refine dd.2 fun a ha => ?_
        obtain ⟨i, hi, ea⟩ := List.getElem_of_mem ha
        have mz : (a, ks[i]) ∈ ds.zip ks := by
          rw [← ea]
          have : (ds.zip ks)[i]? = some (ds[i], ks[i]) := by
            rw [List.getElem?_eq_getElem (by rw [List.length_zip]; omega), List.getElem_zip]
          exact List.mem_of_getElem? this
        exact h2 ⟨a, ks[i], inner w r, n + 1⟩ (List.mem_append.mpr (.inr (List.mem_map.mpr ⟨_, mz, rfl⟩)))
theorem cut_one (x : V) (r : List V) : cutV (x :: r) (some 1) none = r := by
  unfold cutV
  have e1 : HT.sIx (x :: r).length 0 (some 1) = 1 := by
    rw [show HT.sIx (x :: r).length 0 (some 1) = min 1 (x :: r).length from HT.sIx_nat _ 0 1, List.length_cons]
    omega
  rw [e1, HT.sIx_none]
  show List.take ((x :: r).length - 1) r = r
  rw [List.length_cons, Nat.add_sub_cancel]
  exact List.take_length
theorem cut_not (x : V) (r : List V) : ¬ (HT.sIx (x :: r).length 0 (some 1) = 0 ∧ HT.sIx (x :: r).length (x :: r).length none = (x :: r).length) := by
  intro h
  have e1 : HT.sIx (x :: r).length 0 (some 1) = 1 := by
    rw [show HT.sIx (x :: r).length 0 (some 1) = min 1 (x :: r).length from HT.sIx_nat _ 0 1, List.length_cons]
    omega
  rw [e1] at h
  exact absurd h.1 (by decide)
theorem line_of {n : Nat} (h : n ≤ 8192) : n < sizeLine := Nat.lt_of_le_of_lt h (by decide)
theorem tbl_tups {PT : Addr} {H H' : Hp} (h : GxR.TabG H PT) (b : But PT H H') : Tups H H' := fun c xs e => b c _ (fun z => by
  obtain ⟨ps, h1, _⟩ := h
  rw [z, h1] at e
  cases e) e
theorem but_tabbed {PT : Addr} {H H' : Hp} (t : GxR.Tabbed PT H H') : But PT H H' := fun c o n e => by
  rw [t.2 c n]
  exact e
theorem TabG.ne {PT p : Addr} {H : Hp} {o : HO} (h : GxR.TabG H PT) (e : H p = some o) (n : ∀ ps, o ≠ .tbl ps) : p ≠ PT := fun z => by
  obtain ⟨ps, h1, _⟩ := h
  rw [← z, e] at h1
  exact n ps (Option.some.inj h1)
theorem TabG.new {PT p : Addr} {H : Hp} (h : GxR.TabG H PT) (e : H p = none) : PT ≠ p := fun z => by
  obtain ⟨ps, h1, _⟩ := h
  rw [z, e] at h1
  cases h1
theorem TabG.keep {PT p : Addr} {H : Hp} {o : HO} (h : GxR.TabG H PT) (n : PT ≠ p) : GxR.TabG (upd H p o) PT := by
  obtain ⟨ps, h1, h2⟩ := h
  exact ⟨ps, by rw [upd_ne n]; exact h1, h2⟩
theorem TabG.same {PT : Addr} {H H' : Hp} (h : GxR.TabG H PT) (b : Same H H') : GxR.TabG H' PT := by
  obtain ⟨ps, h1, h2⟩ := h
  exact ⟨ps, b _ _ h1, h2⟩
section
variable {P : Program} {w : World} {K : PySem.W.Frag} {mg : Str → Option Value} {base : Heap} {L B FV : Addr}
def EntAt (K : PySem.W.Frag) (PT : Addr) (H0 H : Hp) (e : En) (v : V) : Prop := ∃ q x, v = .ref q ∧ H q = some (.tup [x, .str e.k, .int (e.r : Int), .int (e.n : Int)]) ∧ Df K [PT] H0 x e.d
theorem EntAt.keep {PT : Addr} {H0 H H' : Hp} (k : Tups H H') (e : En) (v : V) (h : EntAt K PT H0 H e v) : EntAt K PT H0 H' e v := by
  obtain ⟨q, x, e1, e2, a⟩ := h
  exact ⟨q, x, e1, k _ _ e2, a⟩
def okM (d : PyData) (k : Str) (sl : Int) : Bool := wf d k sl && (decide ((pc d).1 ≤ 400) && decide ((pc d).2 ≤ 60))
def spMade (K : PySem.W.Frag) (PT : Addr) : Sp := fun vs H Q _ => ∃ (v : V) (k : Str) (s : Int) (d : PyData), vs = [v, .str k, .int s] ∧ Df K [PT] H v d ∧ ats d = true ∧ (pc d).1 ≤ 4000 ∧ GxR.TabG H PT ∧
  ∀ H', But PT H H' → GxR.TabG H' PT → Q (.bl (okM d k s)) H'
structure TurnM (K : PySem.W.Frag) (sl : Int) (PT : Addr) (H H' : Hp) (pt : Addr) (R : Bool) (c m : Nat) (es : List En) (vt : List V) : Prop where
  but : But PT H H'
  tab : GxR.TabG H' PT
  lt : H' pt = some (.lst vt)
  rt : All2 (EntAt K PT H H') es vt
  at_ : ∀ e ∈ es, ats e.d = true
  good : Good sl c es ↔ R = true
  tot : c + sumE es ≤ 8000
  few : c ≤ 400
  m : m = sumE es
theorem ok_made {f g b : Addr} {fd gd bd : FuncData} {PT : Addr} (F : Fun K "is_made" "is_made" sMade f fd) (T : Txt K w mg L B FV)
    (G : FnOk P w K mg base CX0 4 g gd ["piece", "kind", "bounds"] (spForm K PT)) (bG : Binds K gd ["piece", "kind", "bounds"] []) (kG : PySem.W.keepIn K (.ref g) = true) (mG : mg "has_form" = some (.ref g))
    (N : FnOk P w K mg base CX0 1 b bd ["piece", "around"] (spBeneath K)) (bN : Binds K bd ["piece", "around"] []) (kN : PySem.W.keepIn K (.ref b) = true) (mN : mg "beneath" = some (.ref b)) : FnOk P w K mg base CX0 5 f fd ["thing", "kind", "slack"] (spMade K PT) := by
  obtain ⟨es0, n0, D⟩ := T.dict
  obtain ⟨tp, mP⟩ := T.pieces
  obtain ⟨tw, mW⟩ := T.within
  refine F.ok scMade (fun vs H Q E h => ?_) (fun cdv A outer s H vs Q E hr h => ?_)
  · obtain ⟨v, k, s, d, rfl, _⟩ := h
    rfl
  obtain ⟨v, k, sl, d, rfl, hA, hat, hsz, hT, q⟩ := h
  have h1 : Room 1 _ := hr.mono (by decide)
  refine ⟨_, pss_cons (ps_set (i := 3) scMade.nd rfl (.inl rfl) pe_int)
    (pss_cons (ps_set (i := 4) scMade.nd rfl (.inl rfl) (pe_lst (pa_cons (pe_tup (pa_cons (pv 0) (pa_cons (pv 1) (pa_cons pe_int (pa_cons pe_int pa_nil))))) pa_nil)))
    (pss_cons (ps_while PassesOwn.never (pt_truth (pv 4) (by intro _; rfl))
      (pss_cons (ps_asg (pe_bm0 PySem.F.plainAttrs_list PySem.F.slot_list_pop PySem.F.type_list_pop mt_pop (pv 4)) (pg_tup (by rfl) (pgs_cons (pg_name (i := 5) scMade.nd rfl (.inl rfl)) (pgs_cons (pg_name (i := 6) scMade.nd rfl (.inl rfl)) (pgs_cons (pg_name (i := 7) scMade.nd rfl (.inl rfl)) (pgs_cons (pg_name (i := 8) scMade.nd rfl (.inl rfl)) pgs_nil))))))
      (pss_cons (ps_aug (i := 3) scMade.nd rfl (.inl rfl) pe_int ip_add)
      (pss_cons (ps_if (PW.pt (pw_or (pt_cmpR op_gt (pv 3) (pe_glob (v := .int 400) (by rfl) mP ⟨_, rfl⟩) (nomark _)) (pw_or1 (pt_cmpR op_gt (pv 8) (pe_glob (v := .int 60) (by rfl) mW ⟨_, rfl⟩) (nomark _))))) (pss_one (ps_ret pe_bl)) pss_nil)
      (pss_cons (ps_if (pt_not (pt_val (pe_call G hr (by rfl) mG kG bG .nil pass0 (pa_cons (pv 5) (pa_cons (pv 6) (pa_cons (pe_op op_add (pv 7) (pv 2)) pa_nil)))))) (pss_one (ps_ret pe_bl)) pss_nil)
      (pss_one (ps_if (pt_cmpR op_notIn_seq (pe_ix ix_tup (pv 5) pe_int (fun _ _ => rfl)) (pe_glob (v := .ref L) (by rfl) T.mL rfl) (by rfl))
        (pss_cons (ps_set (i := 9) scMade.nd rfl (.inl rfl) (pe_call N h1 (by rfl) mN kN bN .nil pass0 (pa_cons (pv 5) (pa_cons (pv 7) pa_nil))))
        (pss_one (ps_for PassesOwn.never rfl (pi_zipA (by rfl) T.zZip (pa_cons (pe_slice sl_tup (pv 5) (po_some pe_int) po_none) (pa_cons (pe_ix ix_tup (pe_ix ix_kdict (pe_glob (v := .ref FV) (by rfl) T.mF rfl) (pe_ix ix_tup (pv 5) pe_int (fun _ _ => rfl)) (fun _ _ => rfl)) pe_int (fun _ _ => rfl)) pa_nil)))
          (pg_tup (by rfl) (pgs_cons (pg_name (i := 10) scMade.nd rfl (.inl rfl)) (pgs_cons (pg_name (i := 11) scMade.nd rfl (.inl rfl)) pgs_nil)))
          (pss_one (ps_expr (pe_bm PySem.F.plainAttrs_list PySem.F.slot_list_append PySem.F.type_list_append mt_append (pv 4) (pa_cons (pe_tup (pa_cons (pv 10) (pa_cons (pv 11) (pa_cons (pv 9) (pa_cons (pe_op op_add (pv 8) pe_int) pa_nil))))) pa_nil)))))))
        pss_nil)))))))
    (pss_one (ps_ret pe_bl)))), ?_⟩
  refine ⟨_, rfl, _, rfl, (by show 4 ≤ sizeLine; decide), fun q0 nq => ?_⟩
  refine ⟨(by show 1 ≤ sizeLine; decide), fun pt nt => ?_⟩
  have s1 : Same H (upd H q0 (.tup [v, .str k, .int 0, .int 1])) := same_new nq
  have s2 := same_put (o := .lst [.ref q0]) s1 nt
  have fresh : H pt = none := s1.free nt
  have nqt : q0 ≠ pt := fun z => by
    rw [← z, upd_same] at nt
    cases nt
  have tab0 : GxR.TabG (upd (upd H q0 (.tup [v, .str k, .int 0, .int 1])) pt (.lst [.ref q0])) PT := TabG.same hT s2
  refine ⟨fun m σ H' => ∃ (c : Nat) (es : List En) (vt : List V) (y5 y6 y7 y8 y9 y10 y11 : Option V), σ = [some v, some (.str k), some (.int sl), some (.int (c : Int)), some (.ref pt), y5, y6, y7, y8, y9, y10, y11] ∧ TurnM K sl PT H H' pt (okM d k sl) c m es vt,
    ⟨_, 0, [⟨d, k, 0, 1⟩], [.ref q0], none, none, none, none, none, none, none, rfl, ⟨but_same s2, tab0, upd_same, .one ⟨q0, v, rfl, ?_, hA⟩, fun e he => by rw [List.mem_singleton.mp he]; exact hat, ?_, by rw [sumE_one]; show 0 + (pc d).1 ≤ 8000; omega, by decide, rfl⟩⟩, fun m σ H1 hI => ?_⟩
  · rw [upd_ne nqt, upd_same]
    rfl
  · unfold Good okM
    rw [sumE_one, Bool.and_eq_true, Bool.and_eq_true, decide_eq_true_eq, decide_eq_true_eq]
    have z : (((0 : Nat) : Int) + sl) = sl := Int.zero_add sl
    constructor
    · rintro ⟨g0, g1, g2⟩
      have g3 : 1 + (pc d).2 ≤ 61 := g2 ⟨d, k, 0, 1⟩ (List.mem_singleton.mpr rfl)
      have g4 : wf d k (((0 : Nat) : Int) + sl) = true := g0 ⟨d, k, 0, 1⟩ (List.mem_singleton.mpr rfl)
      have g1 : 0 + (pc d).1 ≤ 400 := g1
      rw [z] at g4
      exact ⟨g4, by omega, by omega⟩
    · rintro ⟨g0, g1, g2⟩
      refine ⟨fun e he => ?_, by show 0 + (pc d).1 ≤ 400; omega, fun e he => ?_⟩
      · rw [List.mem_singleton.mp he]
        show wf d k (((0 : Nat) : Int) + sl) = true
        rw [z]
        exact g0
      · rw [List.mem_singleton.mp he]
        show 1 + (pc d).2 ≤ 61
        omega
  obtain ⟨c, es, vt, y5, y6, y7, y8, y9, y10, y11, rfl, W⟩ := hI
  refine ⟨_, rfl, !vt.isEmpty, .inl ⟨vt, .inl (.inl W.lt), rfl⟩, ?_⟩
  rcases List.eq_nil_or_concat vt with en | ⟨vt0, y, en⟩
  · subst en
    refine iteF ?_
    have ee : es = [] := List.length_eq_zero_iff.mp W.rt.len
    subst ee
    have yes : okM d k sl = true := W.good.1 ⟨fun e he => (List.not_mem_nil he).elim, by rw [show sumE [] = 0 from rfl]; exact W.few, fun e he => (List.not_mem_nil he).elim⟩
    have r := q H1 W.but W.tab
    rw [yes] at r
    exact r
  · rw [List.concat_eq_append] at en
    subst en
    rw [show (!(vt0 ++ [y]).isEmpty) = true by simp]
    refine iteT ?_
    obtain ⟨es1, ⟨d1, k1, r1, n1⟩, rfl, rt0, ⟨q1, x1, rfl, hq1, a1⟩⟩ := W.rt.last
    have hq1' : H1 q1 = some (.tup [x1, .str k1, .int (r1 : Int), .int (n1 : Int)]) := hq1
    have a1' : Df K [PT] H x1 d1 := a1
    have hat1 : ats d1 = true := W.at_ ⟨d1, k1, r1, n1⟩ (List.mem_append.mpr (.inr (List.mem_singleton.mpr rfl)))
    have no : ¬ (c + 1 ≤ 400 ∧ n1 ≤ 60 ∧ wf d1 k1 ((r1 : Int) + sl) = true) → okM d k sl = false := fun z => Bool.eq_false_iff.mpr fun g => z (good_out (W.good.2 g))
    have tot := W.tot
    rw [sumE_app, sumE_one] at tot
    have em := W.m
    rw [sumE_app, sumE_one] at em
    have p1_ := (pc_pos d1).1
    have tot' : c + (sumE es1 + (pc d1).1) ≤ 8000 := tot
    have em' : m = sumE es1 + (pc d1).1 := em
    refine ⟨fun σ' H' => ∃ m', m' < m ∧ ∃ (c : Nat) (es : List En) (vt : List V) (y5 y6 y7 y8 y9 y10 y11 : Option V), σ' = [some v, some (.str k), some (.int sl), some (.int (c : Int)), some (.ref pt), y5, y6, y7, y8, y9, y10, y11] ∧ TurnM K sl PT H H' pt (okM d k sl) c m' es vt,
      fun σ' H' h => h, ?_⟩
    refine ⟨_, rfl, .inl ⟨rfl, _, .inl (.inl W.lt)⟩, pt, _, .ref q1, rfl, rfl, W.lt, by simp, ?_⟩
    rw [List.dropLast_concat]
    have k2 : Tups H1 (upd H1 pt (.lst vt0)) := tups_put fun xs z => by
      rw [W.lt] at z
      cases z
    have nPt : PT ≠ pt := fun z => TabG.ne W.tab W.lt (fun ps z => by cases z) z.symm
    have b2 : But PT H (upd H1 pt (.lst vt0)) := fun a o n e => by
      rw [upd_ne (ne_of_none e fresh)]
      exact W.but _ _ n e
    have tab2 : GxR.TabG (upd H1 pt (.lst vt0)) PT := TabG.keep W.tab nPt
    have lt2 : (upd H1 pt (.lst vt0)) pt = some (.lst vt0) := upd_same
    generalize upd H1 pt (.lst vt0) = H2 at k2 b2 tab2 lt2
    refine ⟨q1, [x1, .str k1, .int (r1 : Int), .int (n1 : Int)], rfl, .inl (.inl (k2 _ _ hq1')), rfl, x1, _, rfl, .str k1, _, rfl, .int (r1 : Int), _, rfl, .int (n1 : Int), [], rfl, rfl, ?_⟩
    -- pieces += 1
    refine ⟨_, rfl, _, _, rfl, rfl, ?_⟩
    -- too many, too far within
    refine ⟨_, rfl, _, _, rfl, rfl, _, rfl, ?_⟩
    refine ite2 (fun c1 => ?_) (fun c1 => ?_)
    · have z : (c : Int) + 1 > 400 := of_decide_eq_true c1
      have r := q H2 b2 tab2
      rw [no (by omega)] at r
      exact iteT r
    have c1' : ¬ (c : Int) + 1 > 400 := fun z => c1 (decide_eq_true z)
    refine ⟨_, rfl, _, _, rfl, rfl, _, rfl, ?_⟩
    refine ite2 (fun c2 => ?_) (fun c2 => ?_)
    · have z : (n1 : Int) > 60 := of_decide_eq_true c2
      have r := q H2 b2 tab2
      rw [no (by omega)] at r
      exact r
    have c2' : ¬ (n1 : Int) > 60 := fun z => c2 (decide_eq_true z)
    -- has_form
    have pS : PT ∈ [PT] := List.mem_singleton.mpr rfl
    have a2 : Df K [PT] H2 x1 d1 := a1'.but pS b2
    refine ⟨_, rfl, _, rfl, _, rfl, _, rfl, _, _, rfl, rfl, x1, k1, _, d1, rfl, a2.dp, hat1, tab2, fun H3 tb => ⟨_, rfl, ?_⟩⟩
    have b3 := but_tabbed tb
    have k3 := tbl_tups tab2 b3
    have lt3 : H3 pt = some (.lst vt0) := b3 _ _ (Ne.symm nPt) lt2
    have bb3 := b2.trans b3
    have rt3 : All2 (EntAt K PT H H3) es1 vt0 := rt0.mono (EntAt.keep (k2.trans k3))
    cases hf : formD d1 k1 ((r1 : Int) + sl) with
    | false =>
      have r := q H3 bb3 tb.1
      rw [no (fun z => by have y := wf_form z.2.2; rw [hf] at y; cases y)] at r
      exact iteT r
    | true =>
    refine iteF ?_
    obtain ⟨wd, ds, rfl, what⟩ := form_is hf
    obtain ⟨p1, us, rfl, hs0, hds0⟩ : ∃ p1 us, x1 = .ref p1 ∧ SqT K (del H [PT]) p1 (.str wd :: us) ∧ DpAll K (del H [PT]) us ds := by
      have z : Dp K (del H [PT]) x1 (.tuple (.str wd :: ds)) := a1'
      cases z with
      | tup h1 h2 =>
        cases h2 with
        | cons h3 h4 =>
          cases h3
          exact ⟨_, _, rfl, h1, h4⟩
    have hs3 : SqT K H3 p1 (.str wd :: us) := sqT_up ((del_but pS bb3).trans del_same) hs0
    have ats_ : ∀ a ∈ ds, ats a = true := fun a ha => atss_mem (ds := .str wd :: ds) hat1 (List.mem_cons_of_mem _ ha)
    have at1 : ∀ e ∈ es1, ats e.d = true := fun e he => W.at_ e (List.mem_append.mpr (.inl he))
    refine ⟨_, rfl, p1, _, 0, _, rfl, rfl, hs3, head_at _ _, L, leafVs, rfl, .inr (T.leaf H3), rfl, rfl, _, rfl, ?_⟩
    show if (!leafy wd) = true then _ else _
    have ec : ((c : Nat) : Int) + 1 = ((c + 1 : Nat) : Int) := rfl
    rcases what with ⟨hl, hk, hlf⟩ | ⟨hl, ks, row, len2⟩
    · rw [hl]
      subst hk
      have gs := good_leaf (sl := sl) (c := c) (r := r1) (n := n1) (es := es1) (by omega) hl hlf
      exact iteF ⟨sumE es1, by omega, c + 1, es1, vt0, _, _, _, _, y9, y10, y11, rfl, ⟨bb3, tb.1, lt3, rt3, at1, gs.symm.trans W.good, by omega, by omega, rfl⟩⟩
    · rw [hl]
      refine iteT ?_
      obtain ⟨fa, fb, e1, e2, e3⟩ := T.form _ _ _ row
      have len1 := dps_len hds0
      refine ⟨_, rfl, _, rfl, p1, wd, us, r1, rfl, hs3, ?_⟩
      refine ⟨_, rfl, 1, rfl, p1, _, rfl, hs3, cut_not _ _, fun z nz => ?_⟩
      rw [cut_one]
      have s4 := same_new (o := .tup us) nz
      have k4 : Tups H3 (upd H3 z (.tup us)) := tups_same s4
      refine ⟨_, rfl, p1, _, 0, _, rfl, rfl, sqT_up s4 hs3, head_at _ _, FV, _, .ref fa, rfl, rfl, ⟨es0, n0, _, D.at_, D.lit, e1, rfl⟩, fa, _, 1, .ref fb, rfl, rfl, e2 _, atI_nat (j := 1) rfl, ?_⟩
      have nzt : z ≠ pt := fun e => by
        rw [e, lt3] at nz
        cases nz
      have gs := good_in (sl := sl) (c := c) (r := r1) (n := n1) (es := es1) (by omega) hl row len2
      have sumK := ents_sum (inner wd r1) (n1 + 1) ds ks len2
      have pcd : (pc (.tuple (.str wd :: ds))).1 = 1 + (pcs ds).1 := by rw [pc_in hl]
      refine ⟨z, fb, us, ks.map V.str, rfl, .inr ⟨.inl (.inl upd_same), e3 _, ?_⟩⟩
      refine for_zipT (K := K) (xs := us) (ys := ks.map V.str) (by rw [List.length_map]; omega) (fun i σ' H' => ∃ (vt : List V) (y10 y11 : Option V), σ' = [some v, some (.str k), some (.int sl), some (.int ((c + 1 : Nat) : Int)), some (.ref pt), some (.ref p1), some (.str k1), some (.int (r1 : Int)), some (.int (n1 : Int)), some (.int (inner wd r1 : Nat)), y10, y11] ∧
          But PT H H' ∧ GxR.TabG H' PT ∧ Tups (upd H3 z (.tup us)) H' ∧ H' pt = some (.lst vt) ∧ All2 (EntAt K PT H H') (es1 ++ (ents ds ks (inner wd r1) (n1 + 1)).take i) vt)
        ⟨vt0, y10, y11, rfl, bb3.new nz, TabG.keep tb.1 (TabG.new tb.1 nz), Tups.refl _, (by rw [upd_ne nzt.symm]; exact lt3), ?_⟩ (fun i σ' H' ⟨_, _, _, _, _, _, kt, _⟩ => ⟨.inl (.inl (kt _ _ upd_same)), e3 _⟩) ?_ ?_
      · rw [List.take_zero, List.append_nil]
        exact rt3.mono (EntAt.keep k4)
      · rintro i x yv T0 σ' H' hx hy ⟨vt, y10, y11, rfl, bt, tg, kt, gt, rr⟩ nT
        obtain ⟨tk, htk, hax⟩ := dps_get hds0 hx
        obtain ⟨kk, hkk, rfl⟩ : ∃ kk, ks[i]? = some kk ∧ yv = V.str kk := by
          rw [List.getElem?_map] at hy
          cases e : ks[i]? with
          | none =>
            rw [e] at hy
            cases hy
          | some kk =>
            rw [e] at hy
            exact ⟨kk, rfl, (Option.some.inj hy).symm⟩
        have hent : (ents ds ks (inner wd r1) (n1 + 1))[i]? = some ⟨tk, kk, inner wd r1, n1 + 1⟩ := by
          unfold ents
          have hz : (ds.zip ks)[i]? = some (tk, kk) := List.getElem?_zip_eq_some.mpr ⟨htk, hkk⟩
          rw [List.getElem?_map, hz]
          rfl
        have nTt : pt ≠ T0 := ne_of_none gt nT
        have bnd : vt.length ≤ 8192 := by
          have l1 := rr.len
          have l2 := sumE_len es1
          have l3 := sumE_len (ents ds ks (inner wd r1) (n1 + 1))
          rw [List.length_append, List.length_take] at l1
          omega
        refine ⟨T0, [x, .str kk], rfl, .inl (.inl upd_same), rfl, x, _, rfl, .str kk, [], rfl, rfl, ?_⟩
        have gt2 : (upd H' T0 (.tup [x, .str kk])) pt = some (.lst vt) := by
          rw [upd_ne nTt]
          exact gt
        refine ⟨_, rfl, .inl ⟨rfl, _, .inl (.inl gt2)⟩, _, rfl, _, rfl, _, rfl, _, rfl, _, _, rfl, rfl, (by show 4 ≤ sizeLine; decide), fun q3 nq3 => ?_⟩
        have ntq3 : pt ≠ q3 := ne_of_none gt2 nq3
        refine ⟨pt, vt, .ref q3, rfl, rfl, (by rw [upd_ne ntq3]; exact gt2), line_of bnd, ?_⟩
        have k5 : Tups H' (upd (upd (upd H' T0 (.tup [x, .str kk])) q3 (.tup [x, .str kk, .int (inner wd r1 : Nat), .int ((n1 : Int) + 1)])) pt (.lst (vt ++ [.ref q3]))) := (tups_same (same_new nT)).trans ((tups_same (same_new nq3)).trans (tups_put fun xs z => by
          rw [upd_ne ntq3, gt2] at z
          cases z))
        refine ⟨vt ++ [.ref q3], some x, some (.str kk), rfl, fun b o n e => ?_, ?_, kt.trans k5, upd_same, ?_⟩
        · have nbt : b ≠ pt := ne_of_none e fresh
          have e5 := (But.new (o := .tup [x, .str kk]) bt nT) _ _ n e
          rw [upd_ne nbt, upd_ne (ne_of_none e5 nq3)]
          exact e5
        · have tg1 := TabG.keep (o := .tup [x, .str kk]) tg (TabG.new tg nT)
          exact TabG.keep (TabG.keep tg1 (TabG.new tg1 nq3)) nPt
        · rw [List.take_add_one, hent, ← List.append_assoc]
          refine (rr.mono (EntAt.keep k5)).app (.one ⟨q3, x, rfl, ?_, hax⟩)
          rw [upd_ne ntq3.symm, upd_same]
          rfl
      · rintro σ' H' ⟨vt, y10, y11, rfl, bt, tg, kt, gt, rr⟩
        have full : (ents ds ks (inner wd r1) (n1 + 1)).length = us.length := by
          unfold ents
          rw [List.length_map, List.length_zip]
          omega
        rw [← full, List.take_length] at rr
        refine ⟨_, ?_, c + 1, es1 ++ ents ds ks (inner wd r1) (n1 + 1), vt, _, _, _, _, _, y10, y11, rfl, ⟨bt, tg, gt, rr, fun e he => ?_, gs.symm.trans W.good, ?_, by omega, rfl⟩⟩
        · rw [sumE_app, sumK]
          omega
        · rcases List.mem_append.mp he with z | z
          · exact at1 e z
          · obtain ⟨pq, hp, rfl⟩ := List.mem_map.mp z
            exact ats_ pq.1 (List.of_mem_zip hp).1
        · rw [sumE_app, sumK]
          omega
/-! ### is_term -/
def spQ (K : PySem.W.Frag) (k : Str) (sl : Int) (PT : Addr) : Sp := fun vs H Q _ => ∃ (v : V) (d : PyData), vs = [v] ∧ Df K [PT] H v d ∧ ats d = true ∧ (pc d).1 ≤ 4000 ∧ GxR.TabG H PT ∧ ∀ H', But PT H H' → GxR.TabG H' PT → Q (.bl (okM d k sl)) H'
theorem ok_issaying {f g : Addr} {fd gd : FuncData} {PT : Addr} (F : Fun K "is_saying" "is_saying" sIsSaying f fd) (G : FnOk P w K mg base CX0 5 g gd ["thing", "kind", "slack"] (spMade K PT)) (bG : Binds K gd ["thing", "kind", "slack"] []) (kG : PySem.W.keepIn K (.ref g) = true) (mG : mg "is_made" = some (.ref g)) :
    FnOk P w K mg base CX0 6 f fd ["thing"] (spQ K kS 0 PT) := by
  refine F.ok scIsSaying (fun vs H Q E h => ?_) (fun cdv A outer s H vs Q E hr h => ?_)
  · obtain ⟨v, d, rfl, _⟩ := h
    rfl
  obtain ⟨v, d, rfl, hA, ha, hz, hT, q⟩ := h
  exact ⟨_, pss_one (ps_ret (pe_call G hr (by rfl) mG kG bG .nil pass0 (pa_cons (pv 0) (pa_cons pe_str (pa_cons pe_int pa_nil))))), ⟨_, rfl, v, kS, 0, d, rfl, hA, ha, hz, hT, q⟩⟩
theorem ok_isbody {f g : Addr} {fd gd : FuncData} {PT : Addr} (F : Fun K "is_body" "is_body" sIsBody f fd) (G : FnOk P w K mg base CX0 5 g gd ["thing", "kind", "slack"] (spMade K PT)) (bG : Binds K gd ["thing", "kind", "slack"] []) (kG : PySem.W.keepIn K (.ref g) = true) (mG : mg "is_made" = some (.ref g)) :
    FnOk P w K mg base CX0 6 f fd ["thing"] (spQ K kS 1 PT) := by
  refine F.ok scIsBody (fun vs H Q E h => ?_) (fun cdv A outer s H vs Q E hr h => ?_)
  · obtain ⟨v, d, rfl, _⟩ := h
    rfl
  obtain ⟨v, d, rfl, hA, ha, hz, hT, q⟩ := h
  exact ⟨_, pss_one (ps_ret (pe_call G hr (by rfl) mG kG bG .nil pass0 (pa_cons (pv 0) (pa_cons pe_str (pa_cons pe_int pa_nil))))), ⟨_, rfl, v, kS, 1, d, rfl, hA, ha, hz, hT, q⟩⟩
end
end Kf
set_option Elab.async false
set_option linter.all false
set_option maxRecDepth 100000
set_option maxHeartbeats 4000000
set_option pp.maxSteps 600
/-! The terms that the law draws, as data. -/
namespace Kf
open PySem PySem.Spec PyProof.Rows L2 Sx
abbrev sTerm : Stmt := top 24
theorem scTerm : FnScope ["feed", "deep", "names", "around", "word", "one"] ["feed", "deep", "names", "around"] (defScope sTerm) := ⟨rfl, rfl, rfl, by decide +kernel, rfl, by decide +kernel, by decide +kernel⟩
/-! ### lists of texts as data -/
theorem dp_strs {K : PySem.W.Frag} {H : Hp} {a : Addr} {ns : List Str} (h : SqL K H a (ns.map V.str)) : Dp K H (.ref a) (.list (ns.map PyData.str)) := by
  refine .lst h ?_
  clear h
  induction ns with
  | nil => exact .nil
  | cons x r ih => exact .cons (.str x) ih
theorem eqv_strs : ∀ xs ys : List Str, PyData.eqvAll (xs.map .str) (ys.map .str) = decide (xs = ys)
  | [], [] => rfl
  | [], _ :: _ => rfl
  | _ :: _, [] => rfl
  | x :: xs, y :: ys => by
    show (x == y && PyData.eqvAll (xs.map .str) (ys.map .str)) = decide (x :: xs = y :: ys)
    rw [eqv_strs xs ys]
    by_cases e : x = y
    · subst e
      simp
    · have e2 : (x == y) = false := beq_eq_false_iff_ne.mpr e
      rw [e2]
      simp [e]
theorem lay_strs : ∀ ns : List Str, (∀ z ∈ ns, NmOk z) → PyData.canLayAll0 (ns.map .str) = true ∧ PyData.depthAll (ns.map .str) = 0
  | [], _ => ⟨rfl, rfl⟩
  | z :: r, h => by
    obtain ⟨h1, h2⟩ := lay_strs r fun y hy => h y (List.mem_cons_of_mem _ hy)
    have hz : z.cps.all (· < 0x110000) = true := h z List.mem_cons_self
    refine ⟨?_, ?_⟩
    · show (z.cps.all (· < 0x110000) && PyData.canLayAll0 (r.map .str)) = true
      rw [hz, h1]
      rfl
    · show max 0 (PyData.depthAll (r.map .str)) = 0
      rw [h2]
      rfl
theorem shaped_strs {ns : List Str} (h : ∀ z ∈ ns, NmOk z) : SeqAt.shaped (.list (ns.map .str)) = true := by
  obtain ⟨h1, h2⟩ := lay_strs ns h
  show (PyData.canLayAll0 (ns.map .str) && decide (PyData.depthAll (ns.map .str) + 1 ≤ 64)) = true
  rw [h1, h2]
  rfl
/-! ### what the law makes -/
def GoodW (z : Str) : Prop := wordD (.str z) = true ∧ NmOk z
theorem GoodW.len {z : Str} (h : GoodW z) : z.length ≤ 8 := by
  have h2 : ((decide ((1 : Int) ≤ ((z.length : Nat) : Int)) && decide (((z.length : Nat) : Int) ≤ 8)) && z.cps.toList.all (Gx.among abc)) = true := h.1
  rw [Bool.and_eq_true, Bool.and_eq_true] at h2
  have a := of_decide_eq_true h2.1.2
  omega
theorem GoodW.ats {z : Str} (h : GoodW z) : ats (.str z) = true := by
  have l := h.len
  have n : z.cps.all (· < 0x110000) = true := h.2
  show (z.cps.all (· < 0x110000) && decide (z.length ≤ 10)) = true
  rw [n, decide_eq_true (show z.length ≤ 10 by omega)]
  rfl
/-- the names' list -/
structure NmAt (H : Hp) (l : Addr) (ns : List Str) : Prop where
  at_ : H l = some (.lst (ns.map V.str))
  few : ns.length ≤ 60
  ok : ∀ z ∈ ns, GoodW z
theorem NmAt.keep {H H' : Hp} {f l : Addr} {ns : List Str} (h : NmAt H l ns) (n : l ≠ f) (b : But f H H') : NmAt H' l ns := ⟨b _ _ n h.at_, h.few, h.ok⟩
theorem NmAt.same {H H' : Hp} {l : Addr} {ns : List Str} (h : NmAt H l ns) (b : Same H H') : NmAt H' l ns := ⟨b _ _ h.at_, h.few, h.ok⟩
def cz (d : Nat) : Nat := 5 * 2 ^ d - 2
theorem cz_pos (d : Nat) : 3 ≤ cz d := by
  have := Nat.one_le_two_pow (n := d)
  unfold cz
  omega
theorem cz_up (d : Nat) : cz (d + 1) = 2 + (cz d + cz d) := by
  have := Nat.one_le_two_pow (n := d)
  unfold cz
  rw [Nat.pow_succ]
  omega
/-- a made term -/
structure Made (r : Int) (d : Nat) (t : PyData) : Prop where
  wf : wf t kT r = true
  th : Th (d + 1) (cz d) t
theorem Made.up {r : Int} {d e : Nat} {t : PyData} (h : Made r d t) (l : d ≤ e) : Made r e t := by
  refine ⟨h.wf, h.th.mono (by omega) ?_⟩
  have z : 2 ^ d ≤ 2 ^ e := Nat.pow_le_pow_right (by decide) l
  unfold cz
  omega
theorem th_leaf {w : Str} {x : PyData} (hw : ats (.str w) = true) (hx : ats x = true) (h0 : x.depth = 0) (h1 : psz x = 1) : Th 1 3 (.tuple [.str w, x]) := by
  refine ⟨?_, ?_, ?_⟩
  · show (ats (.str w) && (ats x && true)) = true
    rw [hw, hx]
    rfl
  · show max 0 (max x.depth 0) + 1 ≤ 1
    omega
  · show 1 + (1 + (psz x + 0)) ≤ 3
    omega
theorem leafD_num {w : Str} {r : Int} {x : PyData} (h : w ≠ "name") : leafD w r [x] = numD w r x := by
  show (if w = "name" then wordD x else numD w r x) = _
  exact if_neg h
theorem leafD_name {r : Int} {x : PyData} : leafD "name" r [x] = wordD x := by
  show (if ("name" : Str) = "name" then wordD x else numD "name" r x) = _
  exact if_pos rfl
theorem made_num {r n : Int} (h0 : 0 ≤ n) (h1 : n < 10 ^ 60) : Made r 0 (.tuple [.str "num", .int n]) := by
  refine ⟨?_, th_leaf (by decide +kernel) (decide_eq_true (by omega)) rfl rfl⟩
  rw [wf_leaf (by decide +kernel), decide_eq_true rfl, Bool.true_and]
  rw [leafD_num (by decide +kernel)]
  show (!decide (n < 0) && decide (n < if ("num" : Str) = "num" then 10 ^ 60 else r)) = true
  rw [if_pos rfl, decide_eq_false (by omega), decide_eq_true h1]
  rfl
theorem made_bound {r n : Int} (h0 : 0 ≤ n) (h1 : n < r) (hr : r ≤ 1000) : Made r 0 (.tuple [.str "bound", .int n]) := by
  refine ⟨?_, th_leaf (by decide +kernel) (decide_eq_true (by omega)) rfl rfl⟩
  rw [wf_leaf (by decide +kernel), decide_eq_true rfl, Bool.true_and]
  rw [leafD_num (by decide +kernel)]
  show (!decide (n < 0) && decide (n < if ("bound" : Str) = "num" then 10 ^ 60 else r)) = true
  rw [if_neg (by decide +kernel), decide_eq_false (by omega), decide_eq_true h1]
  rfl
theorem made_name {r : Int} {z : Str} (h : GoodW z) : Made r 0 (.tuple [.str "name", .str z]) := by
  refine ⟨?_, th_leaf (by decide +kernel) h.ats rfl rfl⟩
  rw [wf_leaf (by decide +kernel), decide_eq_true rfl, Bool.true_and]
  rw [leafD_name, h.1]
theorem made_one {r : Int} {d : Nat} {w : Str} {a : PyData} (hl : leafy w = false) (ht : table.lookup w = some (kT, [kT])) (hb : binds w = false) (hw : ats (.str w) = true) (h : Made r d a) : Made r (d + 1) (.tuple [.str w, a]) := by
  refine ⟨?_, ?_, ?_, ?_⟩
  · rw [wf_in hl ht]
    have e : Kf.up w r = r := if_neg (by rw [hb]; exact Bool.false_ne_true)
    rw [e]
    show (Kf.wf a kT r && true) = true
    rw [h.wf]
    rfl
  · show (ats (.str w) && (ats a && true)) = true
    rw [hw, h.th.ats]
    rfl
  · have := h.th.deep
    show max 0 (max a.depth 0) + 1 ≤ _
    omega
  · have := h.th.sz
    have := cz_up d
    have := cz_pos d
    show 1 + (1 + (psz a + 0)) ≤ _
    omega
theorem made_two {r : Int} {d : Nat} {w : Str} {a b : PyData} (hl : leafy w = false) (ht : table.lookup w = some (kT, [kT, kT])) (hb : binds w = false) (hw : ats (.str w) = true) (h : Made r d a) (g : Made r d b) : Made r (d + 1) (.tuple [.str w, a, b]) := by
  refine ⟨?_, ?_, ?_, ?_⟩
  · rw [wf_in hl ht]
    have e : Kf.up w r = r := if_neg (by rw [hb]; exact Bool.false_ne_true)
    rw [e]
    show (Kf.wf a kT r && (Kf.wf b kT r && true)) = true
    rw [h.wf, g.wf]
    rfl
  · show (ats (.str w) && (ats a && (ats b && true))) = true
    rw [hw, h.th.ats, g.th.ats]
    rfl
  · have := h.th.deep
    have := g.th.deep
    show max 0 (max a.depth (max b.depth 0)) + 1 ≤ _
    omega
  · have := h.th.sz
    have := g.th.sz
    have := cz_up d
    show 1 + (1 + (psz a + (psz b + 0))) ≤ _
    omega
/-- what stands behind several ways, shown once -/
theorem join {C G : Hp → Prop} {M : Prop} (main : (∀ H, C H → G H) → M) (rest : ∀ H, C H → G H) : M := main rest
theorem joinS {C G : L2.St → Hp → Prop} {M : Prop} (main : (∀ σ H, C σ H → G σ H) → M) (rest : ∀ σ H, C σ H → G σ H) : M := main rest
section
variable {P : Program} {w : World} {K : PySem.W.Frag} {mg : Str → Option Value} {base : Heap}
/-- what is promised of a made term -/
def Out (K : PySem.W.Frag) (S : List Addr) (f : Addr) (H : Hp) (r : Int) (d : Nat) (Q : VK) : Prop := ∀ t v H', Made r d t → Df K S H' v t → But f H H' → FeedAt H' f → Q v H'
def spLeaf (K : PySem.W.Frag) : Sp := fun vs H Q _ => ∃ (f l : Addr) (S : List Addr) (ns : List Str) (r : Int), vs = [.ref f, .ref l, .int r] ∧ f ∈ S ∧ LS H S ∧ l ≠ f ∧ NmAt H l ns ∧ r ≤ 1000 ∧ FeedAt H f ∧ Out K S f H r 0 Q
/-- the defs that draw -/
structure Draw (P : Program) (w : World) (K : PySem.W.Frag) (mg : Str → Option Value) (base : Heap) (ft fp : Addr) (dt dp : FuncData) : Prop where
  T : FnOk P w K mg base CX0 1 ft dt ["feed", "many"] spTake
  bT : Binds K dt ["feed", "many"] []
  kT : PySem.W.keepIn K (.ref ft) = true
  mT : mg "_law_take" = some (.ref ft)
  Pk : FnOk P w K mg base CX0 2 fp dp ["feed", "some"] (spPick K)
  Ps : FnOk P w K mg base CX0 2 fp dp ["feed", "some"] spPickS
  bP : Binds K dp ["feed", "some"] []
  kP : PySem.W.keepIn K (.ref fp) = true
  mP : mg "_law_pick" = some (.ref fp)
theorem few1000 {n : Int} (h0 : 0 < n) (h : n ≤ 1000) : n.natAbs < 2 ^ 200 := Nat.lt_of_le_of_lt (show n.natAbs ≤ 1000 by omega) (by decide)
theorem ok_leaf {f ft fp : Addr} {fd dt dp : FuncData} (F : Fun K "_law_leaf" "_law_leaf" sLeaf f fd) (D : Draw P w K mg base ft fp dt dp) : FnOk P w K mg base CX0 3 f fd ["feed", "names", "around"] (spLeaf K) := by
  refine F.ok scLeaf (fun vs H Q E h => ?_) (fun cdv A outer s H vs Q E hr h => ?_)
  · obtain ⟨a, l, S, ns, r, rfl, _⟩ := h
    rfl
  obtain ⟨f, l, S, ns, r, rfl, fS, lS, apart, hN, r1, hF, q⟩ := h
  have h1 : Room 1 _ := hr.mono (by decide)
  refine ⟨_, pss_cons (ps_set (i := 3) scLeaf.nd rfl (.inl rfl) (pe_call D.T h1 (by rfl) D.mT D.kT D.bT .nil pass0 (pa_cons (pv 0) (pa_cons pe_int pa_nil))))
    (pss_cons (ps_if (PW.pt (pw_and (pt_cmpR op_lt (pv 3) pe_int (nomark _)) (pw_and1 (pt_cmpR (op_neD hr.units) (pv 1) (pe_lst pa_nil) (nomark _)))))
      (pss_one (ps_ret (pe_tup (pa_cons pe_str (pa_cons (pe_call D.Pk hr (by rfl) D.mP D.kP D.bP .nil pass0 (pa_cons (pv 0) (pa_cons (pv 1) pa_nil))) pa_nil))))) pss_nil)
    (pss_cons (ps_if (PW.pt (pw_and (pt_cmpR op_lt (pv 3) pe_int (nomark _)) (pw_and1 (pt_cmpR op_gt (pv 2) pe_int (nomark _)))))
      (pss_one (ps_ret (pe_tup (pa_cons pe_str (pa_cons (pe_call D.T h1 (by rfl) D.mT D.kT D.bT .nil pass0 (pa_cons (pv 0) (pa_cons (pv 2) pa_nil))) pa_nil))))) pss_nil)
    (pss_one (ps_ret (pe_tup (pa_cons pe_str (pa_cons (pe_call D.Pk hr (by rfl) D.mP D.kP D.bP .nil pass0 (pa_cons (pv 0) (pa_cons
      (pe_lst (pa_cons pe_int (pa_cons pe_int (pa_cons pe_int (pa_cons (pe_call D.T h1 (by rfl) D.mT D.kT D.bT .nil pass0 (pa_cons (pv 0) (pa_cons pe_int pa_nil)))
        (pa_cons (pe_call D.T h1 (by rfl) D.mT D.kT D.bT .nil pass0 (pa_cons (pv 0) (pa_cons (pe_op op_pow pe_int pe_int) pa_nil))) (pa_cons (pe_op op_sub (pe_op op_pow pe_int pe_int) pe_int) pa_nil))))))) pa_nil))) pa_nil))))))), ?_⟩
  refine ⟨_, rfl, f, 8, rfl, by decide, by decide, hF, fun way H1 _ _ b1 hF1 => ?_⟩
  apply join (C := fun H2 => But f H H2 ∧ FeedAt H2 f)
  · intro rest
    refine ⟨_, rfl, _, _, rfl, rfl, _, rfl, ?_⟩
    refine ite2 (fun _ => ?_) (fun _ => iteF (rest H1 ⟨b1, hF1⟩))
    refine ⟨_, rfl, Nat.zero_le _, fun e he => ?_⟩
    have hN1 := hN.keep apart b1
    have bb : But f H (upd H1 e (.lst [])) := b1.new he
    have hF2 : FeedAt (upd H1 e (.lst [])) f := hF1.same (same_new he)
    have hN2 : NmAt (upd H1 e (.lst [])) l ns := hN.keep apart bb
    have d0 : Dp K (upd H1 e (.lst [])) (.ref e) (.list (([] : List Str).map PyData.str)) := dp_strs (ns := []) (.inl (.inl upd_same))
    refine ⟨_, _, dp_strs (.inl (.inl hN2.at_)), d0, shaped_strs (fun z hz => (hN2.ok z hz).2), shaped_strs (fun z hz => by cases hz), _, rfl, ?_⟩
    show if (!PyData.eqvAll (ns.map .str) (([] : List Str).map .str)) = true then _ else _
    rw [eqv_strs]
    by_cases en : ns = []
    · rw [decide_eq_true en]
      exact iteF (rest _ ⟨bb, hF2⟩)
    · rw [decide_eq_false en]
      refine iteT ?_
      have pos : 0 < (ns.map V.str).length := by
        rw [List.length_map]
        exact List.length_pos_iff.mpr en
      refine ⟨_, rfl, _, rfl, f, l, _, rfl, apart, .inl (.inl hN2.at_), pos, (by rw [List.length_map]; exact Nat.le_trans hN2.few (by decide)), hF2, fun x hx H3 b3 hF3 => ?_⟩
      obtain ⟨z, hz, rfl⟩ := List.mem_map.mp hx
      refine ⟨(by show 2 ≤ sizeLine; decide), fun p hp => ?_⟩
      exact q _ _ _ (made_name (hN.ok z hz)) (df_tup ((lS.but (bb.trans b3) hF3).same (same_new hp)) (.inl (.inl upd_same)) (.cons (.str _) (.cons (.str _) .nil))) ((bb.trans b3).new hp) (hF3.same (same_new hp))
  · intro H2 ⟨b2, hF2⟩
    apply join (C := fun H2 => But f H H2 ∧ FeedAt H2 f)
    · intro last
      refine ⟨_, rfl, _, _, rfl, rfl, _, rfl, ?_⟩
      refine ite2 (fun _ => ?_) (fun _ => iteF (last H2 ⟨b2, hF2⟩))
      refine ⟨_, rfl, _, _, rfl, rfl, _, rfl, ?_⟩
      refine ite2 (fun c => ?_) (fun _ => last H2 ⟨b2, hF2⟩)
      have pos : 0 < r := of_decide_eq_true c
      refine ⟨_, rfl, _, rfl, f, r, rfl, pos, few1000 pos r1, hF2, fun k H3 k0 k1 b3 hF3 => ?_⟩
      refine ⟨(by show 2 ≤ sizeLine; decide), fun p hp => ?_⟩
      exact q _ _ _ (made_bound k0 k1 r1) (df_tup ((lS.but (b2.trans b3) hF3).same (same_new hp)) (.inl (.inl upd_same)) (.cons (.str _) (.cons (.int _) .nil))) ((b2.trans b3).new hp) (hF3.same (same_new hp))
    · intro H3 ⟨b3, hF3⟩
      refine ⟨_, rfl, _, rfl, f, 7, rfl, by decide, by decide, hF3, fun k H4 k0 k1 b4 hF4 => ?_⟩
      refine ⟨_, rfl, _, _, rfl, rfl, ⟨by decide, by decide, by decide⟩, f, _, rfl, by decide, by decide +kernel, hF4, fun k2 H5 k20 k21 b5 hF5 => ?_⟩
      refine ⟨_, _, rfl, rfl, ⟨by decide, by decide, by decide⟩, _, _, rfl, rfl, (by show 6 ≤ sizeLine; decide), fun g hg => ?_⟩
      have bb : But f H (upd H5 g (.lst [.int 0, .int 1, .int 2, .int k, .int k2, .int (10 ^ (60 : Int).toNat - 1)])) := (((b3.trans b4).trans b5).new hg)
      refine ⟨f, g, _, rfl, hF5.ne hg, .inl (.inl upd_same), (by show 0 < 6; decide), (by show 6 ≤ 1000; decide), hF5.same (same_new hg), fun x hx H6 b6 hF6 => ?_⟩
      have nm : ∃ n : Int, x = .int n ∧ 0 ≤ n ∧ n < 10 ^ 60 := by
        have k2b : k2 < 10 ^ 30 := k21
        rcases List.mem_cons.mp hx with e | hx
        · exact ⟨0, e, by decide, by decide⟩
        rcases List.mem_cons.mp hx with e | hx
        · exact ⟨1, e, by decide, by decide⟩
        rcases List.mem_cons.mp hx with e | hx
        · exact ⟨2, e, by decide, by decide⟩
        rcases List.mem_cons.mp hx with e | hx
        · exact ⟨k, e, k0, by omega⟩
        rcases List.mem_cons.mp hx with e | hx
        · exact ⟨k2, e, k20, by omega⟩
        · exact ⟨_, List.mem_singleton.mp hx, by decide, by decide⟩
      obtain ⟨n, rfl, n0, n1⟩ := nm
      refine ⟨(by show 2 ≤ sizeLine; decide), fun p hp => ?_⟩
      exact q _ _ _ (made_num n0 n1) (df_tup ((lS.but (bb.trans b6) hF6).same (same_new hp)) (.inl (.inl upd_same)) (.cons (.str _) (.cons (.int _) .nil))) ((bb.trans b6).new hp) (hF6.same (same_new hp))
/-! ### _law_term -/
def spTerm (K : PySem.W.Frag) (n : Nat) : Sp := fun vs H Q _ => ∃ (f l : Addr) (S : List Addr) (ns : List Str) (r : Int) (d : Nat), vs = [.ref f, .int (d : Int), .ref l, .int r] ∧ f ∈ S ∧ LS H S ∧ d + 1 ≤ n ∧ l ≠ f ∧ NmAt H l ns ∧ r ≤ 1000 ∧ FeedAt H f ∧ Out K S f H r d Q
structure W3 (wd : Str) : Prop where
  l : leafy wd = false
  b : binds wd = false
  a : ats (.str wd) = true
  one : wd = "next" → table.lookup wd = some (kT, [kT])
  two : wd ≠ "next" → table.lookup wd = some (kT, [kT, kT])
theorem words3 : ∀ x ∈ ([.str "next", .str "plus", .str "times"] : List V), ∃ wd : Str, x = .str wd ∧ W3 wd := by
  intro x hx
  rcases List.mem_cons.mp hx with e | hx
  · exact ⟨_, e, by decide +kernel, by decide +kernel, by decide +kernel, fun _ => by decide +kernel, fun z => (z rfl).elim⟩
  rcases List.mem_cons.mp hx with e | hx
  · exact ⟨_, e, by decide +kernel, by decide +kernel, by decide +kernel, fun z => absurd z (by decide +kernel), fun _ => by decide +kernel⟩
  · exact ⟨_, List.mem_singleton.mp hx, by decide +kernel, by decide +kernel, by decide +kernel, fun z => absurd z (by decide +kernel), fun _ => by decide +kernel⟩
theorem no_calls {f : Addr} {fd : FuncData} {k : Nat} {ps : List Str} {sp : Sp} (no : ∀ vs H Q E, ¬ sp vs H Q E) : FnOk P w K mg base CX0 k f fd ps sp :=
  ⟨fun vs H Q E h => absurd h (no vs H Q E), fun A outer s H args us vs Q E _ _ _ _ h => absurd h (no vs H Q E)⟩
theorem ok_term {f ft fp fl : Addr} {fd dt dp dl : FuncData} {n : Nat} (F : Fun K "_law_term" "_law_term" sTerm f fd) (D : Draw P w K mg base ft fp dt dp)
    (L : FnOk P w K mg base CX0 3 fl dl ["feed", "names", "around"] (spLeaf K)) (bL : Binds K dl ["feed", "names", "around"] []) (kL : PySem.W.keepIn K (.ref fl) = true) (mL : mg "_law_leaf" = some (.ref fl))
    (S : FnOk P w K mg base CX0 (3 + n) f fd ["feed", "deep", "names", "around"] (spTerm K n)) (bS : Binds K fd ["feed", "deep", "names", "around"] []) (mS : mg "_law_term" = some (.ref f)) :
    FnOk P w K mg base CX0 (3 + n + 1) f fd ["feed", "deep", "names", "around"] (spTerm K (n + 1)) := by
  refine F.ok scTerm (fun vs H Q E h => ?_) (fun cdv A outer s H vs Q E hr h => ?_)
  · obtain ⟨a, l, S, ns, r, d, rfl, _⟩ := h
    rfl
  obtain ⟨f, l, U, ns, r, d, rfl, fS, lS, dn, apart, hN, r1, hF, q⟩ := h
  have h1 : Room 1 _ := hr.mono (by omega)
  have h2 : Room 2 _ := hr.mono (by omega)
  have h3 : Room 3 _ := hr.mono (by omega)
  refine ⟨_, pss_cons (ps_if (PW.pt (pw_or (pt_cmpR op_eq (pv 1) pe_int (nomark _)) (pw_or1 (pt_cmpR op_eq (pe_call D.T h1 (by rfl) D.mT D.kT D.bT .nil pass0 (pa_cons (pv 0) (pa_cons pe_int pa_nil))) pe_int (nomark _)))))
      (pss_one (ps_ret (pe_call L h3 (by rfl) mL kL bL .nil pass0 (pa_cons (pv 0) (pa_cons (pv 2) (pa_cons (pv 3) pa_nil)))))) pss_nil)
    (pss_cons (ps_set (i := 4) scTerm.nd rfl (.inl rfl) (pe_call D.Pk h2 (by rfl) D.mP D.kP D.bP .nil pass0 (pa_cons (pv 0) (pa_cons (pe_lst (pa_cons pe_str (pa_cons pe_str (pa_cons pe_str pa_nil)))) pa_nil))))
    (pss_cons (ps_set (i := 5) scTerm.nd rfl (.inl rfl) (pe_call S hr (by rfl) mS F.kp bS .nil pass0 (pa_cons (pv 0) (pa_cons (pe_op op_sub (pv 1) pe_int) (pa_cons (pv 2) (pa_cons (pv 3) pa_nil))))))
    (pss_cons (ps_if (pt_cmpR op_eq (pv 4) pe_str (nomark _)) (pss_one (ps_ret (pe_tup (pa_cons (pv 4) (pa_cons (pv 5) pa_nil))))) pss_nil)
    (pss_one (ps_ret (pe_tup (pa_cons (pv 4) (pa_cons (pv 5) (pa_cons (pe_call S hr (by rfl) mS F.kp bS .nil pass0 (pa_cons (pv 0) (pa_cons (pe_op op_sub (pv 1) pe_int) (pa_cons (pv 2) (pa_cons (pv 3) pa_nil))))) pa_nil))))))))), ?_⟩
  -- a leaf, at any heap behind
  have leaf : ∀ H1 : Hp, But f H H1 → FeedAt H1 f → Out K U f H1 r 0 Q := fun H1 b1 _ t v H' m a b hF' => q t v H' (m.up (by omega)) a (b1.trans b) hF'
  refine ⟨_, rfl, rfl, _, rfl, ?_⟩
  refine ite2 (fun c => ?_) (fun c => ?_)
  · exact iteT ⟨_, rfl, _, rfl, _, rfl, f, l, U, ns, r, rfl, fS, lS, apart, hN, r1, hF, leaf H (But.refl f H) hF⟩
  have dpos : 0 < d := by
    rcases Nat.eq_zero_or_pos d with e | e
    · exact absurd (show decide (V.int (d : Int) = V.int 0) = true from decide_eq_true (by rw [e]; rfl)) c
    · exact e
  refine ⟨_, rfl, f, 3, rfl, by decide, by decide, hF, fun k H1 _ _ b1 hF1 => ?_⟩
  have hN1 := hN.keep apart b1
  refine ⟨rfl, _, rfl, ?_⟩
  refine ite2 (fun _ => ?_) (fun _ => ?_)
  · exact ⟨_, rfl, _, rfl, _, rfl, f, l, U, ns, r, rfl, fS, lS.but b1 hF1, apart, hN1, r1, hF1, leaf H1 b1 hF1⟩
  refine ⟨_, rfl, (by show 3 ≤ sizeLine; decide), fun g hg => ?_⟩
  refine ⟨f, g, _, rfl, hF1.ne hg, .inl (.inl upd_same), by decide, by decide, hF1.same (same_new hg), fun x hx H2 b2 hF2 => ?_⟩
  obtain ⟨wd, rfl, W⟩ := words3 x hx
  have bb2 : But f H H2 := (b1.new hg).trans b2
  have ed : (d : Int) - 1 = ((d - 1 : Nat) : Int) := by omega
  refine ⟨_, rfl, _, rfl, _, _, rfl, rfl, _, rfl, _, rfl, f, l, U, ns, r, d - 1, (by show [V.ref f, V.int ((d : Int) - 1), V.ref l, V.int r] = _; rw [ed]), fS, lS.but bb2 hF2, by omega, apart, hN.keep apart bb2, r1, hF2, fun t1 v1 H3 m1 a1 b3 hF3 => ?_⟩
  have bb3 := bb2.trans b3
  refine ⟨_, rfl, rfl, _, rfl, ?_⟩
  refine ite2 (fun cw => ?_) (fun cw => ?_)
  · refine ⟨_, rfl, _, rfl, (by show 2 ≤ sizeLine; decide), fun p hp => ?_⟩
    exact q _ _ _ ((made_one W.l (W.one (by have z := of_decide_eq_true cw; injection z)) W.b W.a m1).up (by omega)) (df_tup ((lS.but bb3 hF3).same (same_new hp)) (.inl (.inl upd_same)) (.cons (.str _) (.cons (a1.same (same_new hp)) .nil))) (bb3.new hp) (hF3.same (same_new hp))
  · refine ⟨_, rfl, _, rfl, _, rfl, _, rfl, _, _, rfl, rfl, _, rfl, _, rfl, f, l, U, ns, r, d - 1, (by show [V.ref f, V.int ((d : Int) - 1), V.ref l, V.int r] = _; rw [ed]), fS, lS.but bb3 hF3, by omega, apart, hN.keep apart bb3, r1, hF3, fun t2 v2 H4 m2 a2 b4 hF4 => ?_⟩
    refine ⟨(by show 3 ≤ sizeLine; decide), fun p hp => ?_⟩
    have k1 : Df K U H4 v1 t1 := a1.but fS b4
    exact q _ _ _ ((made_two W.l (W.two fun e => cw (by rw [e]; exact decide_eq_true rfl)) W.b W.a m1 m2).up (by omega)) (df_tup ((lS.but (bb3.trans b4) hF4).same (same_new hp)) (.inl (.inl upd_same)) (.cons (.str _) (.cons (k1.same (same_new hp)) (.cons (a2.same (same_new hp)) .nil)))) ((bb3.trans b4).new hp) (hF4.same (same_new hp))
theorem ok_terms {f ft fp fl : Addr} {fd dt dp dl : FuncData} (F : Fun K "_law_term" "_law_term" sTerm f fd) (D : Draw P w K mg base ft fp dt dp)
    (L : FnOk P w K mg base CX0 3 fl dl ["feed", "names", "around"] (spLeaf K)) (bL : Binds K dl ["feed", "names", "around"] []) (kL : PySem.W.keepIn K (.ref fl) = true) (mL : mg "_law_leaf" = some (.ref fl))
    (bS : Binds K fd ["feed", "deep", "names", "around"] []) (mS : mg "_law_term" = some (.ref f)) : ∀ n : Nat, FnOk P w K mg base CX0 (3 + n) f fd ["feed", "deep", "names", "around"] (spTerm K n)
  | 0 => no_calls fun vs H Q E h => by
    obtain ⟨a, l, S, ns, r, d, _, _, _, dn, _⟩ := h
    omega
  | n + 1 => ok_term F D L bL kL mL (ok_terms F D L bL kL mL bS mS n) bS mS
end
end Kf
set_option Elab.async false
set_option linter.all false
set_option maxRecDepth 100000
set_option maxHeartbeats 8000000
set_option pp.maxSteps 600
/-! Written things: tuples and lists of constants and names, read at once as data. -/
namespace Kf
open PySem PySem.Spec PyProof.Rows L2 Sx
theorem pe_imp {X : Cx} {e : Expr} {t t' : TE} (h : PE X e t) (i : ∀ σ H Q, t' σ H Q → t σ H Q) : PE X e t' := ⟨fun pins s σ H Q I z => h.run pins s σ H Q I (i σ H Q z)⟩
theorem pe_ex {X : Cx} {e : Expr} {α : Type} {t : α → TE} (h : ∀ a, PE X e (t a)) : PE X e (fun σ H Q => ∃ a, t a σ H Q) := ⟨fun pins s σ H Q I ⟨a, z⟩ => (h a).run pins s σ H Q I z⟩
theorem pa_imp {X : Cx} {e : List Expr} {t t' : TA} (h : PA X e t) (i : ∀ σ H Q, t' σ H Q → t σ H Q) : PA X e t' := ⟨fun pos pins s σ H Q I z => h.run pos pins s σ H Q I (i σ H Q z)⟩
/-- names that stand for data -/
def Kn (K : PySem.W.Frag) (S : List Addr) (tb : List (Nat × PyData)) (σ : L2.St) (H : Hp) : Prop := LS H S ∧ ∀ r ∈ tb, ∃ v, σ[r.1]? = some (some v) ∧ Df K S H v r.2
theorem Kn.same {K : PySem.W.Frag} {S : List Addr} {tb : List (Nat × PyData)} {σ : L2.St} {H H' : Hp} (h : Kn K S tb σ H) (s : Same H H') : Kn K S tb σ H' := ⟨h.1.same s, fun r hr => by
  obtain ⟨v, a, b⟩ := h.2 r hr
  exact ⟨v, a, b.same s⟩⟩
section
variable {X : Cx} {S : List Addr} {tb : List (Nat × PyData)}
def tLit (K : PySem.W.Frag) (S : List Addr) (tb : List (Nat × PyData)) (d : PyData) : TE := fun σ H Q => Kn K S tb σ H ∧ ∀ v H', Same H H' → Df K S H' v d → Q v H'
def tLits (K : PySem.W.Frag) (S : List Addr) (tb : List (Nat × PyData)) (ds : List PyData) : TA := fun σ H Q => Kn K S tb σ H ∧ ∀ vs H', Same H H' → DfAll K S H' vs ds → Q vs H'
abbrev Lit (X : Cx) (S : List Addr) (tb : List (Nat × PyData)) (e : Expr) (d : PyData) : Prop := PE X e (tLit X.K S tb d)
abbrev Lits (X : Cx) (S : List Addr) (tb : List (Nat × PyData)) (es : List Expr) (ds : List PyData) : Prop := PA X es (tLits X.K S tb ds)
theorem lit_int {i j pos} : Lit X S tb (.Constant (.int i) j pos) (.int i) := pe_imp pe_int fun σ H Q ⟨_, q⟩ => q _ _ (Same.refl H) (.int _)
theorem lit_str {x j pos} : Lit X S tb (.Constant (.str x) j pos) (.str x) := pe_imp pe_str fun σ H Q ⟨_, q⟩ => q _ _ (Same.refl H) (.str _)
theorem lit_bl {b j pos} : Lit X S tb (.Constant (.bool b) j pos) (.bool b) := pe_imp pe_bl fun σ H Q ⟨_, q⟩ => q _ _ (Same.refl H) (.bl _)
theorem lit_non {j pos} : Lit X S tb (.Constant .none j pos) .none := pe_imp pe_non fun σ H Q ⟨_, q⟩ => q _ _ (Same.refl H) .non
theorem lit_neg {i j p pos} : Lit X S tb (.UnaryOp .USub (.Constant (.int i) j p) pos) (.int (-i)) := pe_imp (pe_un un_neg pe_int) fun σ H Q ⟨_, q⟩ => ⟨_, rfl, q _ _ (Same.refl H) (.int _)⟩
theorem lit_pow {i k j j2 p p2 pos} (c : CPow i k) : Lit X S tb (.BinOp (.Constant (.int i) j p) .Pow (.Constant (.int k) j2 p2) pos) (.int (i ^ k.toNat)) := pe_imp (pe_op op_pow pe_int pe_int) fun σ H Q ⟨_, q⟩ => ⟨_, _, rfl, rfl, c, q _ _ (Same.refl H) (.int _)⟩
theorem lit_var (i : Nat) {x : Str} {pos : Pos} {d : PyData} (h : PE X (.Name x pos) (tVar i)) (m : (i, d) ∈ tb) : Lit X S tb (.Name x pos) d := pe_imp h fun σ H Q ⟨c, q⟩ => by
  obtain ⟨v, a, b⟩ := c.2 _ m
  exact ⟨v, a, q _ _ (Same.refl H) b⟩
theorem lit_add {a b : Expr} {x y : Str} {pos : Pos} (ha : Lit X S tb a (.str x)) (hb : Lit X S tb b (.str y)) (l : x.length + y.length ≤ 1000) : Lit X S tb (.BinOp a .Add b pos) (.str (x ++ y)) :=
  pe_imp (pe_op op_add_str ha hb) fun σ H Q ⟨c, q⟩ => ⟨c, fun v H1 s1 h1 => ⟨c.same s1, fun v2 H2 s2 h2 => by
    cases h1
    cases h2
    exact ⟨x, y, rfl, rfl, Nat.le_trans l (by decide), q _ _ (s1.trans s2) (.str _)⟩⟩⟩
theorem len_add {x y : Str} : (x ++ y).length = x.length + y.length := Array.size_append
theorem lits_nil : Lits X S tb [] [] := pa_imp pa_nil fun σ H Q ⟨_, q⟩ => q _ _ (Same.refl H) .nil
theorem lits_cons {e : Expr} {es : List Expr} {d : PyData} {ds : List PyData} (h : Lit X S tb e d) (r : Lits X S tb es ds) (hs : starEach (e :: es) X.env = (false, eval e X.env) :: starEach es X.env := by rfl) : Lits X S tb (e :: es) (d :: ds) :=
  pa_imp (pa_cons h r hs) fun σ H Q ⟨c, q⟩ => ⟨c, fun v H1 s1 hd => ⟨c.same s1, fun vs H2 s2 hv => q _ _ (s1.trans s2) (.cons (hd.same s2) hv)⟩⟩
theorem small_len {n : Nat} (h : n ≤ 1000) : n ≤ sizeLine := Nat.le_trans h (by decide)
theorem lit_tup {es : List Expr} {ds : List PyData} {x1 pos} (h : Lits X S tb es ds) (l : ds.length ≤ 1000 := by exact Nat.le_of_ble_eq_true rfl) : Lit X S tb (.Tuple es x1 pos) (.tuple ds) :=
  pe_imp (pe_tup h) fun σ H Q ⟨c, q⟩ => ⟨c, fun vs H1 s1 hv => ⟨small_len (by rw [dps_len hv]; exact l), fun p np => q _ _ (s1.trans (same_new np)) (df_tup ((c.same s1).1.same (same_new np)) (.inl (.inl upd_same)) (hv.same (same_new np)))⟩⟩
theorem lit_lst {es : List Expr} {ds : List PyData} {pos} (h : Lits X S tb es ds) (l : ds.length ≤ 1000 := by exact Nat.le_of_ble_eq_true rfl) : Lit X S tb (.List es pos) (.list ds) :=
  pe_imp (pe_lst h) fun σ H Q ⟨c, q⟩ => ⟨c, fun vs H1 s1 hv => ⟨small_len (by rw [dps_len hv]; exact l), fun p np => q _ _ (s1.trans (same_new np)) (df_lst ((c.same s1).1.nin np) upd_same (hv.same (same_new np)))⟩⟩
/-- a list of things, as a list of its own -/
def tRow (K : PySem.W.Frag) (S : List Addr) (tb : List (Nat × PyData)) (ds : List PyData) : TE := fun σ H Q => Kn K S tb σ H ∧ ∀ vs H' p, Same H H' → H p = none → H' p = some (.lst vs) → DfAll K S H' vs ds → Q (.ref p) H'
theorem row {es : List Expr} {ds : List PyData} {pos} (h : Lits X S tb es ds) (l : ds.length ≤ 1000 := by exact Nat.le_of_ble_eq_true rfl) : PE X (.List es pos) (tRow X.K S tb ds) :=
  pe_imp (pe_lst h) fun σ H Q ⟨c, q⟩ => ⟨c, fun vs H1 s1 hv => ⟨small_len (by rw [dps_len hv]; exact l), fun p np => q vs _ p (s1.trans (same_new np)) (s1.free np) upd_same (hv.same (same_new np))⟩⟩
theorem cut_whole {xs : List V} {lo hi : Option Int} (h : HT.sIx xs.length 0 lo = 0 ∧ HT.sIx xs.length xs.length hi = xs.length) : cutV xs lo hi = xs := by
  unfold cutV
  rw [h.1, h.2]
  simp
theorem sl_out {K : PySem.W.Frag} {x : V} {a : Addr} {xs : List V} {lo hi : Option Int} {H : Hp} {Q : VK} (ex : x = .ref a) (h : SqT K H a xs) (q : ∀ b H', Same H H' → SqT K H' b (cutV xs lo hi) → Q (.ref b) H') : rSlA K x lo hi H Q := by
  refine ⟨a, xs, ex, h, fun e => q a H (fun _ _ e => e) (by rw [cut_whole e]; exact h), fun _ b nb => q b _ (same_new nb) (.inl (.inl upd_same))⟩
theorem cat_out {K : PySem.W.Frag} {a b : Addr} {xs ys : List V} {H : Hp} {Q : VK} (h : SqT K H a xs) (g : SqT K H b ys) (len : xs.length + ys.length ≤ sizeLine) (q : ∀ c H', Same H H' → SqT K H' c (xs ++ ys) → Q (.ref c) H') : rCatA K (.ref a) (.ref b) H Q := by
  refine ⟨a, b, xs, ys, rfl, rfl, h, g, len, fun e => ?_, fun _ e => ?_, fun _ _ c nc => q c _ (same_new nc) (.inl (.inl upd_same))⟩
  · subst e
    exact q b H (fun _ _ e => e) g
  · subst e
    exact q a H (fun _ _ e => e) (by rw [List.append_nil]; exact h)
theorem cut_to {xs : List V} {k : Nat} : cutV xs none (some (k : Int)) = xs.take k := by
  unfold cutV
  rw [HT.sIx_none, HT.sIx_nat, List.drop_zero, Nat.sub_zero]
  rcases Nat.le_total k xs.length with h | h
  · rw [Nat.min_eq_left h]
  · rw [Nat.min_eq_right h, List.take_length, List.take_of_length_le h]
theorem cut_from {xs : List V} {k : Nat} : cutV xs (some (k : Int)) none = xs.drop k := by
  unfold cutV
  rw [HT.sIx_none, HT.sIx_nat]
  rcases Nat.le_total k xs.length with h | h
  · rw [Nat.min_eq_left h]
    exact List.take_of_length_le (by rw [List.length_drop]; exact Nat.le_refl _)
  · rw [Nat.min_eq_right h, Nat.sub_self, List.take_zero, List.drop_of_length_le h]
def cutD (xs : List PyData) (lo hi : Option Int) : List PyData := (xs.drop (HT.sIx xs.length 0 lo)).take (HT.sIx xs.length xs.length hi - HT.sIx xs.length 0 lo)
theorem cutD_mem {xs : List PyData} {lo hi : Option Int} {x : PyData} (h : x ∈ cutD xs lo hi) : x ∈ xs := List.mem_of_mem_drop (List.mem_of_mem_take h)
theorem dps_cut {K : PySem.W.Frag} {H : Hp} {xs : List V} {ds : List PyData} {lo hi : Option Int} (h : DpAll K H xs ds) : DpAll K H (cutV xs lo hi) (cutD ds lo hi) := by
  unfold cutV cutD
  rw [dps_len h]
  exact dps_take _ (dps_drop _ h)
theorem Df.tup {K : PySem.W.Frag} {H : Hp} {v : V} {ds : List PyData} (h : Df K S H v (.tuple ds)) : ∃ a xs, v = .ref a ∧ SqT K H a xs ∧ DfAll K S H xs ds := by
  have h2 : Dp K (del H S) v (.tuple ds) := h
  cases h2 with
  | tup h1 h2 => exact ⟨_, _, rfl, sqT_up del_same h1, h2⟩
theorem Df.lst {K : PySem.W.Frag} {H : Hp} {v : V} {ds : List PyData} (h : Df K S H v (.list ds)) : ∃ a xs, v = .ref a ∧ SqL K H a xs ∧ DfAll K S H xs ds := by
  have h2 : Dp K (del H S) v (.list ds) := h
  cases h2 with
  | lst h1 h2 => exact ⟨_, _, rfl, sqL_up del_same h1, h2⟩
theorem lit_cat {a b : Expr} {ds es : List PyData} {pos : Pos} (ha : Lit X S tb a (.tuple ds)) (hb : Lit X S tb b (.tuple es)) (l : ds.length + es.length ≤ 1000) : Lit X S tb (.BinOp a .Add b pos) (.tuple (ds ++ es)) :=
  pe_imp (pe_op op_catA ha hb) fun σ H Q ⟨c, q⟩ => ⟨c, fun v H1 s1 h1 => ⟨c.same s1, fun v2 H2 s2 h2 => by
    obtain ⟨x, xs, rfl, hx, gx⟩ := h1.tup
    obtain ⟨y, ys, rfl, hy, gy⟩ := h2.tup
    refine cat_out (sqT_up s2 hx) hy (small_len (by rw [dps_len gx, dps_len gy]; exact l)) fun z H3 s3 hz => ?_
    exact q _ _ (s1.trans (s2.trans s3)) (df_tup (((c.same s1).same s2).1.same s3) hz (dps_app ((gx.same s2).same s3) (gy.same s3)))⟩⟩
theorem lit_cut {e : Expr} {ds : List PyData} {p pos p2 j} {i : Int} (h : Lit X S tb e (.tuple ds)) : Lit X S tb (.Subscript e (.Slice none (some (.UnaryOp .USub (.Constant (.int i) j p) pos)) none p2) p2') (.tuple (cutD ds none (some (-i)))) :=
  pe_imp (pe_slice sl_tupA h po_none (po_some (pe_un un_neg pe_int))) fun σ H Q ⟨c, q⟩ => ⟨c, fun v H1 s1 h1 => by
    obtain ⟨x, xs, rfl, hx, gx⟩ := h1.tup
    dsimp only [tNoPart]
    refine ⟨i, rfl, -i, rfl, ?_⟩
    refine sl_out rfl hx fun b H2 s2 h2 => ?_
    exact q _ _ (s1.trans s2) (df_tup ((c.same s1).1.same s2) h2 (dps_cut (gx.same s2)))⟩
end
end Kf
set_option Elab.async false
set_option linter.all false
set_option maxRecDepth 100000
set_option maxHeartbeats 8000000
set_option pp.maxSteps 600
/-! The law's own look: words, numbers, the size of a term. -/
namespace Kf
open PySem PySem.Spec PyProof.Rows L2 Sx
abbrev sLW : Stmt := top 26
abbrev sLN : Stmt := top 27
abbrev sTS : Stmt := top 28
abbrev tsN : List Str := ["thing", "deep", "around", "word", "part", "right", "found", "one", "size"]
theorem scLW : FnScope ["thing", "sign"] ["thing"] (defScope sLW) := ⟨rfl, rfl, rfl, by decide +kernel, rfl, by decide +kernel, by decide +kernel⟩
theorem scLN : FnScope ["thing"] ["thing"] (defScope sLN) := ⟨rfl, rfl, rfl, by decide +kernel, rfl, by decide +kernel, by decide +kernel⟩
theorem scTS : FnScope tsN ["thing", "deep", "around"] (defScope sTS) := ⟨rfl, rfl, rfl, by decide +kernel, rfl, by decide +kernel, by decide +kernel⟩
def sgn (z : Str) (n : Nat) : List Str := ((z.cps.toList.take n).filter fun c => !Gx.among abc c).map fun c => ⟨#[c]⟩
theorem sgn_add {z : Str} {n c : Nat} (h : z.cps[n]? = some c) : sgn z (n + 1) = if Gx.among abc c = true then sgn z n else sgn z n ++ [⟨#[c]⟩] := by
  have h2 : z.cps.toList[n]? = some c := by
    rw [Array.getElem?_toList]
    exact h
  unfold sgn
  rw [List.take_add_one, h2, List.filter_append, List.map_append]
  cases e : Gx.among abc c with
  | true =>
    rw [if_pos rfl]
    have e2 : (some c).toList.filter (fun c => !Gx.among abc c) = [] := by simp [e]
    rw [e2]
    simp
  | false =>
    rw [if_neg Bool.false_ne_true]
    have e2 : (some c).toList.filter (fun c => !Gx.among abc c) = [c] := by simp [e]
    rw [e2]
    rfl
theorem sgn_len (z : Str) (n : Nat) : (sgn z n).length ≤ n := by
  unfold sgn
  rw [List.length_map]
  refine Nat.le_trans (List.length_filter_le _ _) ?_
  rw [List.length_take]
  omega
theorem sgn_all (z : Str) : decide (sgn z z.cps.size = ([] : List Str)) = z.cps.toList.all (Gx.among abc) := by
  have e : z.cps.toList.take z.cps.size = z.cps.toList := by
    rw [← Array.length_toList]
    exact List.take_length
  unfold sgn
  rw [e]
  cases h : z.cps.toList.all (Gx.among abc) with
  | true =>
    rw [decide_eq_true_eq, List.map_eq_nil_iff, List.filter_eq_nil_iff]
    intro c hc
    have z2 := List.all_eq_true.mp h c hc
    rw [z2]
    simp
  | false =>
    rw [decide_eq_false_iff_not, List.map_eq_nil_iff, List.filter_eq_nil_iff]
    intro all
    have h2 : z.cps.toList.all (Gx.among abc) = true := List.all_eq_true.mpr fun c hc => by
      have z2 := all c hc
      cases e2 : Gx.among abc c with
      | true => rfl
      | false =>
        rw [e2] at z2
        exact (z2 rfl).elim
    rw [h] at h2
    cases h2
theorem sgn_ok {z : Str} {n : Nat} (h : NmOk z) : ∀ y ∈ sgn z n, NmOk y := fun y hy => by
  unfold sgn at hy
  obtain ⟨c, hc, rfl⟩ := List.mem_map.mp hy
  have m : c ∈ z.cps.toList := List.mem_of_mem_take (List.mem_filter.mp hc).1
  have q := (Array.all_eq_true_iff_forall_mem.mp h) c (Array.mem_toList_iff.mp m)
  show (#[c] : Array Nat).all (· < 0x110000) = true
  simpa using q
structure Blt (mg : Str → Option Value) : Prop where
  zIs : mg "isinstance" = none
  zInt : mg "int" = none
  zBool : mg "bool" = none
  zStr : mg "str" = none
  zTuple : mg "tuple" = none
  zList : mg "list" = none
  zLen : mg "len" = none
section
variable {P : Program} {w : World} {K : PySem.W.Frag} {mg : Str → Option Value} {base : Heap}
def spLW (K : PySem.W.Frag) : Sp := fun vs H Q _ => ∃ (v : V) (d : PyData), vs = [v] ∧ Dp K H v d ∧ ats d = true ∧ ∀ H', Same H H' → Q (.bl (wordD d)) H'
theorem ok_lw {f : Addr} {fd : FuncData} {j : Nat} (F : Fun K "_law_is_word" "_law_is_word" sLW f fd) (T : Blt mg) : FnOk P w K mg base CX0 (j + 1) f fd ["thing"] (spLW K) := by
  refine F.ok scLW (fun vs H Q E h => ?_) (fun cdv A outer s H vs Q E hr h => ?_)
  · obtain ⟨v, d, rfl, _⟩ := h
    rfl
  obtain ⟨v, d, rfl, hd, at_, q⟩ := h
  refine ⟨_, pss_cons (ps_if (PW.pt (pw_or (pt_not (pt_val (pe_callB call_isi (by rfl) T.zIs (by decide +kernel) (pa_cons (pv 0) (pa_cons (pe_bltn (v := .ty "str") (by rfl) T.zStr (by decide +kernel) rfl) pa_nil)))))
      (pw_or1 (pt_not (pt_chain op_le op_le pe_int (pe_callB call_len_str (by rfl) T.zLen PySem.boot_len (pa_cons (pv 0) pa_nil)) pe_int))))) (pss_one (ps_ret pe_bl)) pss_nil)
    (pss_one (ps_ret (pe_cmpR (op_eqD hr.units) (pe_lc (own := [("sign", 1)]) (g := gName 1) rfl scLW.nd (pi_str (pv 0)) (blkOk_by (N := ["thing", "sign"]) (sc := defScope sLW) (by decide +kernel)) (fun _ _ _ _ _ => pg_name (i := 1) scLW.nd rfl (Or.inl rfl)) (fun _ _ _ _ _ => pts_one (pt_cmpR op_notIn_str (pv 1) pe_str (by rfl))) (fun _ _ _ _ _ => pv 1)) (pe_lst pa_nil) (nomark _)))), ?_⟩
  refine ⟨_, rfl, _, _, _, _, isS d, rfl, .ty "str", dp_ty hd, kit_s d, _, rfl, ?_⟩
  have q0 := q H (Same.refl H)
  cases hs : isS d with
  | false =>
    have e : wordD d = false := by
      cases d with
      | str _ => cases hs
      | _ => rfl
    rw [e] at q0
    exact iteT q0
  | true =>
    obtain ⟨z, rfl⟩ : ∃ z, d = .str z := by
      cases d with
      | str z => exact ⟨z, rfl⟩
      | _ => cases hs
    cases hd
    refine iteF ?_
    have ln := str_len at_
    have nm : NmOk z := by
      have h2 : (z.cps.all (· < 0x110000) && decide (z.length ≤ 10)) = true := at_
      rw [Bool.and_eq_true] at h2
      exact h2.1
    refine ⟨_, rfl, _, rfl, Nat.le_trans ln (by decide), _, _, rfl, rfl, _, rfl, ?_⟩
    have ew : wordD (.str z) = ((decide ((1 : Int) ≤ ((z.length : Nat) : Int)) && decide (((z.length : Nat) : Int) ≤ 8)) && z.cps.toList.all (Gx.among abc)) := rfl
    rw [ew] at q0 q
    cases h1 : decide ((1 : Int) ≤ ((z.length : Nat) : Int)) with
    | false =>
      rw [h1] at q0
      exact iteF ⟨_, rfl, iteT q0⟩
    | true =>
      rw [h1] at q0 q
      refine iteT ⟨_, _, rfl, rfl, _, rfl, ?_⟩
      cases h2 : decide (((z.length : Nat) : Int) ≤ 8) with
      | false =>
        rw [h2] at q0
        exact iteT q0
      | true =>
        rw [h2] at q
        refine iteF ⟨_, rfl, z, rfl, fun D nD => ?_⟩
        refine lc_it (walk_str (z := z)) (fun i H' => H' D = some (.lst ((sgn z i).map V.str)) ∧ Same H H') ⟨upd_same, same_new nD⟩ (fun _ _ _ _ => trivial) ?_ ?_
        · rintro i x Y Y' hi ⟨eD, sm⟩ ⟨rfl, c, hc, rfl⟩
          refine ⟨rfl, ?_⟩
          refine ⟨_, rfl, _, _, rfl, rfl, _, rfl, ?_⟩
          have ad := sgn_add hc
          show if (!Gx.among abc c) = true then _ else _
          cases ha : Gx.among abc c with
          | true =>
            rw [ha, if_pos rfl] at ad
            refine iteF ⟨?_, sm⟩
            rw [ad]
            exact eD
          | false =>
            rw [ha, if_neg Bool.false_ne_true] at ad
            have sl := sgn_len z i
            refine iteT ⟨_, rfl, _, eD, Nat.lt_of_le_of_lt (show ((sgn z i).map V.str).length ≤ 10 by rw [List.length_map]; have : z.cps.size ≤ 10 := ln; omega) (by decide), ?_, fun b o e => ?_⟩
            · rw [upd_same, ad, List.map_append]
              rfl
            · rw [upd_ne (ne_of_none e nD)]
              exact sm _ _ e
        · rintro Y ⟨eD, sm⟩
          refine ⟨Nat.zero_le _, fun e0 ne0 => ?_⟩
          have s2 := same_new (o := .lst []) ne0
          refine ⟨_, _, dp_strs (.inl (.inl (s2 _ _ eD))), dp_strs (ns := []) (.inl (.inl upd_same)), shaped_strs (sgn_ok nm), shaped_strs (fun y hy => by cases hy), ?_⟩
          have e : PyData.eqv (.list ((sgn z z.cps.size).map .str)) (.list (([] : List Str).map .str)) = z.cps.toList.all (Gx.among abc) := by
            show PyData.eqvAll ((sgn z z.cps.size).map .str) (([] : List Str).map .str) = _
            rw [eqv_strs, sgn_all]
          rw [e]
          exact q _ (sm.trans s2)
def natD : PyData → Bool
  | .int n => decide (n ≥ 0)
  | _ => false
def spLN (K : PySem.W.Frag) : Sp := fun vs H Q _ => ∃ (v : V) (d : PyData), vs = [v] ∧ Dp K H v d ∧ Q (.bl (natD d)) H
theorem ok_ln {f : Addr} {fd : FuncData} {j : Nat} (F : Fun K "_law_is_number" "_law_is_number" sLN f fd) (T : Blt mg) : FnOk P w K mg base CX0 (j + 1) f fd ["thing"] (spLN K) := by
  refine F.ok scLN (fun vs H Q E h => ?_) (fun cdv A outer s H vs Q E hr h => ?_)
  · obtain ⟨v, d, rfl, _⟩ := h
    rfl
  obtain ⟨v, d, rfl, hd, q⟩ := h
  refine ⟨_, pss_one (ps_ret (pe_and (pe_callB call_isi (by rfl) T.zIs (by decide +kernel) (pa_cons (pv 0) (pa_cons (pe_bltn (v := .ty "int") (by rfl) T.zInt (by decide +kernel) rfl) pa_nil)))
    (pe_and (pe_not (pe_callB call_isi (by rfl) T.zIs (by decide +kernel) (pa_cons (pv 0) (pa_cons (pe_bltn (v := .ty "bool") (by rfl) T.zBool (by decide +kernel) rfl) pa_nil)))) (pe_one (pe_cmpR op_ge (pv 0) pe_int (nomark _)))))), ?_⟩
  refine ⟨_, rfl, _, _, _, _, isI d, rfl, .ty "int", dp_ty hd, kit_i d, _, rfl, ?_⟩
  cases d with
  | int n =>
    cases hd
    exact iteT ⟨_, rfl, _, _, _, _, false, rfl, .ty "bool", .base (.int n), kit_ty (by decide +kernel), _, rfl, _, rfl, iteT ⟨_, rfl, _, _, rfl, rfl, q⟩⟩
  | bool b =>
    cases hd
    exact iteT ⟨_, rfl, _, _, _, _, true, rfl, .ty "bool", .base (.bl b), kit_ty (by decide +kernel), _, rfl, _, rfl, iteF q⟩
  | none => exact iteF q
  | str z => exact iteF q
  | list _ => exact iteF q
  | tuple _ => exact iteF q
  | dict _ => exact iteF q
end
/-! ### rows of the table -/
theorem look_mem {α β : Type} [BEq α] [LawfulBEq α] : ∀ {l : List (α × β)} {a : α} {b : β}, l.lookup a = some b → (a, b) ∈ l
  | [], a, b, h => by cases h
  | (x, y) :: l, a, b, h => by
    rw [List.lookup_cons] at h
    cases e : a == x with
    | true =>
      rw [e] at h
      have h2 : some y = some b := h
      injection h2 with h2
      rw [LawfulBEq.eq_of_beq e, h2]
      exact List.mem_cons_self
    | false =>
      rw [e] at h
      exact List.mem_cons_of_mem _ (look_mem h)
theorem ks_ne : kS ≠ kT := by decide +kernel
theorem termRow {w : Str} {ks : List Str} (h : table.lookup w = some (kT, ks)) : (w = "next" ∧ ks = [kT]) ∨ ((w = "plus" ∨ w = "times") ∧ ks = [kT, kT]) := by
  have m := look_mem h
  have no : ∀ {x : Str} {l : List Str}, (w, kT, ks) = (x, kS, l) → False := fun e => ks_ne ((congrArg (fun p : Str × Str × List Str => p.2.1) e).symm)
  rcases List.mem_cons.mp m with e | m
  · exact .inl ⟨congrArg (fun p : Str × Str × List Str => p.1) e, congrArg (fun p : Str × Str × List Str => p.2.2) e⟩
  rcases List.mem_cons.mp m with e | m
  · exact .inr ⟨.inl (congrArg (fun p : Str × Str × List Str => p.1) e), congrArg (fun p : Str × Str × List Str => p.2.2) e⟩
  rcases List.mem_cons.mp m with e | m
  · exact .inr ⟨.inr (congrArg (fun p : Str × Str × List Str => p.1) e), congrArg (fun p : Str × Str × List Str => p.2.2) e⟩
  rcases List.mem_cons.mp m with e | m
  · exact (no e).elim
  rcases List.mem_cons.mp m with e | m
  · exact (no e).elim
  rcases List.mem_cons.mp m with e | m
  · exact (no e).elim
  rcases List.mem_cons.mp m with e | m
  · exact (no e).elim
  rcases List.mem_cons.mp m with e | m
  · exact (no e).elim
  rcases List.mem_cons.mp m with e | m
  · exact (no e).elim
  · exact (no (List.mem_singleton.mp m)).elim
theorem wf_row {w : Str} {ds : List PyData} {k : Str} {r : Int} (l : leafy w = false) (h : wf (.tuple (.str w :: ds)) k r = true) : ∃ ks, table.lookup w = some (k, ks) := by
  have e : wf (.tuple (.str w :: ds)) k r = (match table.lookup w with
      | none => false
      | some kk => decide (kk.1 = k) && wfs ds kk.2 (up w r)) := if_neg (by rw [l]; exact Bool.false_ne_true)
  rw [e] at h
  revert h
  cases table.lookup w with
  | none => exact fun z => (Bool.false_ne_true z).elim
  | some kk =>
    intro h
    have h3 : (decide (kk.1 = k) && wfs ds kk.2 (up w r)) = true := h
    rw [Bool.and_eq_true] at h3
    exact ⟨kk.2, by rw [← of_decide_eq_true h3.1]⟩
theorem all_same : ∀ {ds : List PyData} {ks : List Str} {k : Str} {r : Int}, (∀ x ∈ ks, x = k) → ds.length = ks.length → (wfs ds ks r = true ↔ ∀ x ∈ ds, wf x k r = true)
  | [], [], k, r, _, _ => ⟨fun _ x h => (List.not_mem_nil h).elim, fun _ => rfl⟩
  | [], _ :: _, k, r, _, h => by simp at h
  | _ :: _, [], k, r, _, h => by simp at h
  | d :: ds, y :: ks, k, r, hk, h => by
    have ih := all_same (ds := ds) (ks := ks) (k := k) (r := r) (fun x hx => hk x (List.mem_cons_of_mem _ hx)) (by simpa using h)
    have ey := hk y List.mem_cons_self
    subst ey
    show (wf d y r && wfs ds ks r) = true ↔ _
    rw [Bool.and_eq_true, ih]
    constructor
    · rintro ⟨a, b⟩ x hx
      rcases List.mem_cons.mp hx with rfl | hx
      · exact a
      · exact b x hx
    · intro z
      exact ⟨z d List.mem_cons_self, fun x hx => z x (List.mem_cons_of_mem _ hx)⟩
end Kf
set_option Elab.async false
set_option linter.all false
set_option maxRecDepth 100000
set_option maxHeartbeats 4000000
set_option pp.maxSteps 600
/-! The sayings that the law draws, as data. -/
namespace Kf
open PySem PySem.Spec PyProof.Rows L2 Sx
abbrev sSay : Stmt := top 25
theorem scSay : FnScope ["feed", "deep", "names", "around", "way", "word"] ["feed", "deep", "names", "around"] (defScope sSay) := ⟨rfl, rfl, rfl, by decide +kernel, rfl, by decide +kernel, by decide +kernel⟩
mutual
theorem pc_wf : ∀ {d : PyData} {k : Str} {r : Int}, wf d k r = true → 2 * (pc d).1 ≤ psz d
  | .tuple [], k, r, h => (Bool.false_ne_true h).elim
  | .tuple (x :: ds), k, r, h => by
    obtain ⟨w, ds2, e, what⟩ := form_is (wf_form h)
    injection e with e
    injection e with e1 e2
    subst e1 e2
    have e3 : psz (.tuple (.str w :: ds)) = 1 + (1 + pszs ds) := rfl
    rcases what with ⟨l, _, _⟩ | ⟨l, ks, t, _⟩
    · rw [pc_leaf l, e3]
      show 2 * 1 ≤ _
      omega
    · rw [pc_in l, e3]
      rw [wf_in l t] at h
      have z := pcs_wf h
      show 2 * (1 + (pcs ds).1) ≤ _
      omega
  | .list _, k, r, h => (Bool.false_ne_true h).elim
  | .none, k, r, h => (Bool.false_ne_true h).elim
  | .bool _, k, r, h => (Bool.false_ne_true h).elim
  | .int _, k, r, h => (Bool.false_ne_true h).elim
  | .str _, k, r, h => (Bool.false_ne_true h).elim
  | .dict _, k, r, h => (Bool.false_ne_true h).elim
theorem pcs_wf : ∀ {ds : List PyData} {ks : List Str} {r : Int}, wfs ds ks r = true → 2 * (pcs ds).1 ≤ pszs ds
  | [], ks, r, h => Nat.le_refl _
  | d :: ds, [], r, h => (Bool.false_ne_true h).elim
  | d :: ds, k :: ks, r, h => by
    have h2 : (wf d k r && wfs ds ks r) = true := h
    rw [Bool.and_eq_true] at h2
    have a := pc_wf h2.1
    have b := pcs_wf h2.2
    show 2 * ((pc d).1 + (pcs ds).1) ≤ psz d + pszs ds
    omega
end
theorem okM_small {d : PyData} {k : Str} {r : Int} (h1 : psz d ≤ 800) (h2 : d.depth + 1 ≤ 60) : okM d k r = wf d k r := by
  obtain ⟨_, b⟩ := pc_le d
  unfold okM
  cases h : wf d k r with
  | false => rfl
  | true =>
    have a := pc_wf h
    rw [decide_eq_true (show (pc d).1 ≤ 400 by omega), decide_eq_true (show (pc d).2 ≤ 60 by omega)]
    rfl
def cy (d : Nat) : Nat := 40 * 2 ^ d - 2
theorem cy_pos (d : Nat) : 38 ≤ cy d := by
  have := Nat.one_le_two_pow (n := d)
  unfold cy
  omega
theorem cy_up (d : Nat) : cy (d + 1) = 2 + (cy d + cy d) := by
  have := Nat.one_le_two_pow (n := d)
  unfold cy
  rw [Nat.pow_succ]
  omega
theorem cy_mono {d e : Nat} (l : d ≤ e) : cy d ≤ cy e := by
  have z : 2 ^ d ≤ 2 ^ e := Nat.pow_le_pow_right (by decide) l
  unfold cy
  omega
structure Sd (r : Int) (d : Nat) (t : PyData) : Prop where
  wf : wf t kS r = true
  th : Th (d + 4) (cy d) t
theorem sd_no {r : Int} {d : Nat} : Sd r d (.tuple [.str "no"]) := by
  have := cy_pos d
  refine ⟨?_, by decide +kernel, ?_, ?_⟩
  · rw [wf_in (k := kS) (ks := []) (by decide +kernel) (by decide +kernel)]
    rfl
  · show max 0 0 + 1 ≤ d + 4
    omega
  · show 1 + (1 + 0) ≤ cy d
    omega
theorem th_1 {n m : Nat} {w : Str} {a : PyData} (hw : ats (.str w) = true) (h : Th n m a) : Th (n + 1) (2 + m) (.tuple [.str w, a]) := by
  have h1 := h.deep
  have h2 := h.sz
  refine ⟨?_, ?_, ?_⟩
  · show (ats (.str w) && (ats a && true)) = true
    rw [hw, h.ats]
    rfl
  · show max 0 (max a.depth 0) + 1 ≤ _
    omega
  · show 1 + (1 + (psz a + 0)) ≤ _
    omega
theorem th_2 {n m : Nat} {w : Str} {a b : PyData} (hw : ats (.str w) = true) (h : Th n m a) (g : Th n m b) : Th (n + 1) (2 + (m + m)) (.tuple [.str w, a, b]) := by
  have h1 := h.deep
  have h2 := h.sz
  have g1 := g.deep
  have g2 := g.sz
  refine ⟨?_, ?_, ?_⟩
  · show (ats (.str w) && (ats a && (ats b && true))) = true
    rw [hw, h.ats, g.ats]
    rfl
  · show max 0 (max a.depth (max b.depth 0)) + 1 ≤ _
    omega
  · show 1 + (1 + (psz a + (psz b + 0))) ≤ _
    omega
theorem sd_same {r : Int} {d : Nat} {a b : PyData} (h : Made r 2 a) (g : Made r 2 b) : Sd r d (.tuple [.str "same", a, b]) := by
  refine ⟨?_, ((th_2 (w := "same") (by decide +kernel) h.th g.th).mono (by omega) ?_)⟩
  · rw [wf_in (k := kS) (ks := [kT, kT]) (by decide +kernel) (by decide +kernel)]
    have e : Kf.up "same" r = r := if_neg (by decide +kernel)
    rw [e]
    show (Kf.wf a kT r && (Kf.wf b kT r && true)) = true
    rw [h.wf, g.wf]
    rfl
  · have z : cz 2 = 18 := by decide
    have := cy_pos d
    omega
theorem sd_all {r : Int} {d : Nat} {w : Str} {a : PyData} (hl : leafy w = false) (ht : table.lookup w = some (kS, [kS])) (hb : binds w = true) (hw : ats (.str w) = true) (h : Sd (r + 1) d a) : Sd r (d + 1) (.tuple [.str w, a]) := by
  refine ⟨?_, ((th_1 hw h.th).mono (by omega) ?_)⟩
  · rw [wf_in hl ht]
    have e : Kf.up w r = r + 1 := if_pos hb
    rw [e]
    show (Kf.wf a kS (r + 1) && true) = true
    rw [h.wf]
    rfl
  · have := cy_up d
    have := cy_pos d
    omega
theorem sd_two {r : Int} {d : Nat} {w : Str} {a b : PyData} (hl : leafy w = false) (ht : table.lookup w = some (kS, [kS, kS])) (hb : binds w = false) (hw : ats (.str w) = true) (h : Sd r d a) (g : Sd r d b) : Sd r (d + 1) (.tuple [.str w, a, b]) := by
  refine ⟨?_, ((th_2 hw h.th g.th).mono (by omega) ?_)⟩
  · rw [wf_in hl ht]
    have e : Kf.up w r = r := if_neg (by rw [hb]; exact Bool.false_ne_true)
    rw [e]
    show (Kf.wf a kS r && (Kf.wf b kS r && true)) = true
    rw [h.wf, g.wf]
    rfl
  · have := cy_up d
    omega
theorem words2 : ∀ x ∈ ([.str "all", .str "some"] : List V), ∃ wd : Str, x = .str wd ∧ leafy wd = false ∧ table.lookup wd = some (kS, [kS]) ∧ binds wd = true ∧ ats (.str wd) = true := by
  intro x hx
  rcases List.mem_cons.mp hx with e | hx
  · exact ⟨_, e, by decide +kernel, by decide +kernel, by decide +kernel, by decide +kernel⟩
  · exact ⟨_, List.mem_singleton.mp hx, by decide +kernel, by decide +kernel, by decide +kernel, by decide +kernel⟩
theorem words3s : ∀ x ∈ ([.str "and", .str "or", .str "if"] : List V), ∃ wd : Str, x = .str wd ∧ leafy wd = false ∧ table.lookup wd = some (kS, [kS, kS]) ∧ binds wd = false ∧ ats (.str wd) = true := by
  intro x hx
  rcases List.mem_cons.mp hx with e | hx
  · exact ⟨_, e, by decide +kernel, by decide +kernel, by decide +kernel, by decide +kernel⟩
  rcases List.mem_cons.mp hx with e | hx
  · exact ⟨_, e, by decide +kernel, by decide +kernel, by decide +kernel, by decide +kernel⟩
  · exact ⟨_, List.mem_singleton.mp hx, by decide +kernel, by decide +kernel, by decide +kernel, by decide +kernel⟩
section
variable {P : Program} {w : World} {K : PySem.W.Frag} {mg : Str → Option Value} {base : Heap}
def OutS (K : PySem.W.Frag) (S : List Addr) (f : Addr) (H : Hp) (r : Int) (d : Nat) (Q : VK) : Prop := ∀ t v H', Sd r d t → Df K S H' v t → But f H H' → FeedAt H' f → Q v H'
def spSay (K : PySem.W.Frag) (n : Nat) : Sp := fun vs H Q _ => ∃ (f l : Addr) (S : List Addr) (ns : List Str) (r : Int) (d : Nat), vs = [.ref f, .int (d : Int), .ref l, .int r] ∧ f ∈ S ∧ LS H S ∧ d + 1 ≤ n ∧ l ≠ f ∧ NmAt H l ns ∧ r + (d : Int) ≤ 900 ∧ FeedAt H f ∧ OutS K S f H r d Q
theorem ok_say {f ft fp fm : Addr} {fd dt dp dm : FuncData} {n : Nat} (F : Fun K "_law_saying" "_law_saying" sSay f fd) (D : Draw P w K mg base ft fp dt dp)
    (M : FnOk P w K mg base CX0 (3 + 3) fm dm ["feed", "deep", "names", "around"] (spTerm K 3)) (bM : Binds K dm ["feed", "deep", "names", "around"] []) (kM : PySem.W.keepIn K (.ref fm) = true) (mM : mg "_law_term" = some (.ref fm))
    (Sf : FnOk P w K mg base CX0 (6 + n) f fd ["feed", "deep", "names", "around"] (spSay K n)) (bS : Binds K fd ["feed", "deep", "names", "around"] []) (mS : mg "_law_saying" = some (.ref f)) :
    FnOk P w K mg base CX0 (6 + n + 1) f fd ["feed", "deep", "names", "around"] (spSay K (n + 1)) := by
  refine F.ok scSay (fun vs H Q E h => ?_) (fun cdv A outer s H vs Q E hr h => ?_)
  · obtain ⟨a, l, S, ns, r, d, rfl, _⟩ := h
    rfl
  obtain ⟨f, l, S, ns, r, d, rfl, fS, lS, dn, apart, hN, r1, hF, q⟩ := h
  have h1 : Room 1 _ := hr.mono (by omega)
  have h2 : Room 2 _ := hr.mono (by omega)
  have h6 : Room (3 + 3) _ := hr.mono (by omega)
  refine ⟨_, (pss_cons (ps_set (i := 4) scSay.nd rfl (.inl rfl) (pe_call D.T h1 (by rfl) D.mT D.kT D.bT .nil pass0 (pa_cons (pv 0) (pa_cons pe_int pa_nil))))
    (pss_cons (ps_if (PW.pt (pw_or (pt_cmpR op_eq (pv 1) pe_int (nomark _)) (pw_or1 (pt_cmpR op_lt (pv 4) pe_int (nomark _))))) (pss_cons (ps_if (pt_cmpR op_eq (pe_call D.T h1 (by rfl) D.mT D.kT D.bT .nil pass0 (pa_cons (pv 0) (pa_cons pe_int pa_nil))) pe_int (nomark _)) (pss_one (ps_ret (pe_tup (pa_cons pe_str pa_nil)))) pss_nil)
    (pss_one (ps_ret (pe_tup (pa_cons pe_str (pa_cons (pe_call M h6 (by rfl) mM kM bM .nil pass0 (pa_cons (pv 0) (pa_cons pe_int (pa_cons (pv 2) (pa_cons (pv 3) pa_nil))))) (pa_cons (pe_call M h6 (by rfl) mM kM bM .nil pass0 (pa_cons (pv 0) (pa_cons pe_int (pa_cons (pv 2) (pa_cons (pv 3) pa_nil))))) pa_nil))))))) pss_nil)
    (pss_cons (ps_if (pt_cmpR op_lt (pv 4) pe_int (nomark _)) (pss_one (ps_ret (pe_tup (pa_cons (pe_call D.Pk h2 (by rfl) D.mP D.kP D.bP .nil pass0 (pa_cons (pv 0) (pa_cons (pe_lst (pa_cons pe_str (pa_cons pe_str pa_nil))) pa_nil))) (pa_cons (pe_call Sf hr (by rfl) mS F.kp bS .nil pass0 (pa_cons (pv 0) (pa_cons (pe_op op_sub (pv 1) pe_int) (pa_cons (pv 2) (pa_cons (pe_op op_add (pv 3) pe_int) pa_nil))))) pa_nil))))) pss_nil)
    (pss_cons (ps_set (i := 5) scSay.nd rfl (.inl rfl) (pe_call D.Pk h2 (by rfl) D.mP D.kP D.bP .nil pass0 (pa_cons (pv 0) (pa_cons (pe_lst (pa_cons pe_str (pa_cons pe_str (pa_cons pe_str pa_nil)))) pa_nil))))
    (pss_one (ps_ret (pe_tup (pa_cons (pv 5) (pa_cons (pe_call Sf hr (by rfl) mS F.kp bS .nil pass0 (pa_cons (pv 0) (pa_cons (pe_op op_sub (pv 1) pe_int) (pa_cons (pv 2) (pa_cons (pv 3) pa_nil))))) (pa_cons (pe_call Sf hr (by rfl) mS F.kp bS .nil pass0 (pa_cons (pv 0) (pa_cons (pe_op op_sub (pv 1) pe_int) (pa_cons (pv 2) (pa_cons (pv 3) pa_nil))))) pa_nil)))))))))), ?_⟩
  refine ⟨_, rfl, f, 9, rfl, by decide, by decide, hF, fun way H1 _ _ b1 hF1 => ?_⟩
  apply join (C := fun X => X = H1 ∧ 0 < d)
  · intro rest
    refine ⟨_, rfl, rfl, _, rfl, ?_⟩
    by_cases c : d = 0
    · rw [show decide (V.int (d : Int) = V.int 0) = true from decide_eq_true (by rw [c]; rfl)]
      refine iteT ?_
      refine ⟨_, rfl, f, 6, rfl, by decide, by decide, hF1, fun k H2 _ _ b2 hF2 => ⟨rfl, _, rfl, ?_⟩⟩
      have bb2 := b1.trans b2
      refine ite2 (fun _ => ?_) (fun _ => ?_)
      · exact ⟨(by show 1 ≤ sizeLine; decide), fun p hp => q _ _ _ sd_no (df_tup ((lS.but bb2 hF2).same (same_new hp)) (.inl (.inl upd_same)) (.cons (.str _) .nil)) (bb2.new hp) (hF2.same (same_new hp))⟩
      · refine ⟨_, rfl, _, rfl, _, rfl, f, l, S, ns, r, 2, rfl, fS, lS.but bb2 hF2, by decide, apart, hN.keep apart bb2, by omega, hF2, fun t3 v3 H3 m3 a3 b3 hF3 => ?_⟩
        have bb3 := bb2.trans b3
        refine ⟨_, rfl, _, rfl, _, rfl, f, l, S, ns, r, 2, rfl, fS, lS.but bb3 hF3, by decide, apart, hN.keep apart bb3, by omega, hF3, fun t4 v4 H4 m4 a4 b4 hF4 => ?_⟩
        have bb4 := bb3.trans b4
        have k3 : Df K S H4 v3 t3 := a3.but fS b4
        exact ⟨(by show 3 ≤ sizeLine; decide), fun p hp => q _ _ _ (sd_same m3 m4) (df_tup ((lS.but bb4 hF4).same (same_new hp)) (.inl (.inl upd_same)) (.cons (.str _) (.cons (k3.same (same_new hp)) (.cons (a4.same (same_new hp)) .nil)))) (bb4.new hp) (hF4.same (same_new hp))⟩
    · rw [show decide (V.int (d : Int) = V.int 0) = false from decide_eq_false (fun z => c (by injection z with z; omega))]
      refine iteF ⟨_, rfl, _, _, rfl, rfl, _, rfl, ?_⟩
      refine ite2 (fun _ => ?_) (fun _ => rest _ ⟨rfl, by omega⟩)
      refine ⟨_, rfl, f, 6, rfl, by decide, by decide, hF1, fun k H2 _ _ b2 hF2 => ⟨rfl, _, rfl, ?_⟩⟩
      have bb2 := b1.trans b2
      refine ite2 (fun _ => ?_) (fun _ => ?_)
      · exact ⟨(by show 1 ≤ sizeLine; decide), fun p hp => q _ _ _ sd_no (df_tup ((lS.but bb2 hF2).same (same_new hp)) (.inl (.inl upd_same)) (.cons (.str _) .nil)) (bb2.new hp) (hF2.same (same_new hp))⟩
      · refine ⟨_, rfl, _, rfl, _, rfl, f, l, S, ns, r, 2, rfl, fS, lS.but bb2 hF2, by decide, apart, hN.keep apart bb2, by omega, hF2, fun t3 v3 H3 m3 a3 b3 hF3 => ?_⟩
        have bb3 := bb2.trans b3
        refine ⟨_, rfl, _, rfl, _, rfl, f, l, S, ns, r, 2, rfl, fS, lS.but bb3 hF3, by decide, apart, hN.keep apart bb3, by omega, hF3, fun t4 v4 H4 m4 a4 b4 hF4 => ?_⟩
        have bb4 := bb3.trans b4
        have k3 : Df K S H4 v3 t3 := a3.but fS b4
        exact ⟨(by show 3 ≤ sizeLine; decide), fun p hp => q _ _ _ (sd_same m3 m4) (df_tup ((lS.but bb4 hF4).same (same_new hp)) (.inl (.inl upd_same)) (.cons (.str _) (.cons (k3.same (same_new hp)) (.cons (a4.same (same_new hp)) .nil)))) (bb4.new hp) (hF4.same (same_new hp))⟩
  · rintro X ⟨rfl, dpos⟩
    obtain ⟨e, rfl⟩ : ∃ e, d = e + 1 := ⟨d - 1, by omega⟩
    have ed : ((e + 1 : Nat) : Int) - 1 = (e : Int) := by omega
    refine ⟨_, rfl, _, _, rfl, rfl, _, rfl, ?_⟩
    refine ite2 (fun _ => ?_) (fun _ => ?_)
    · refine ⟨_, rfl, (by show 2 ≤ sizeLine; decide), fun g hg => ?_⟩
      refine ⟨f, g, _, rfl, hF1.ne hg, .inl (.inl upd_same), by decide, by decide, hF1.same (same_new hg), fun x hx H2 b2 hF2 => ?_⟩
      obtain ⟨wd, rfl, w1, w2, w3, w4⟩ := words2 x hx
      have bb2 := (b1.new hg).trans b2
      refine ⟨_, rfl, _, rfl, _, _, rfl, rfl, _, rfl, _, rfl, _, _, rfl, rfl, f, l, S, ns, r + 1, e, (by show [V.ref f, V.int (((e + 1 : Nat) : Int) - 1), V.ref l, V.int (r + 1)] = _; rw [ed]), fS, lS.but bb2 hF2, by omega, apart, hN.keep apart bb2, by omega, hF2, fun t3 v3 H3 m3 a3 b3 hF3 => ?_⟩
      have bb3 := bb2.trans b3
      exact ⟨(by show 2 ≤ sizeLine; decide), fun p hp => q _ _ _ (sd_all w1 w2 w3 w4 m3) (df_tup ((lS.but bb3 hF3).same (same_new hp)) (.inl (.inl upd_same)) (.cons (.str _) (.cons (a3.same (same_new hp)) .nil))) (bb3.new hp) (hF3.same (same_new hp))⟩
    · refine ⟨_, rfl, (by show 3 ≤ sizeLine; decide), fun g hg => ?_⟩
      refine ⟨f, g, _, rfl, hF1.ne hg, .inl (.inl upd_same), by decide, by decide, hF1.same (same_new hg), fun x hx H2 b2 hF2 => ?_⟩
      obtain ⟨wd, rfl, w1, w2, w3, w4⟩ := words3s x hx
      have bb2 := (b1.new hg).trans b2
      refine ⟨_, rfl, _, rfl, _, rfl, _, _, rfl, rfl, _, rfl, _, rfl, f, l, S, ns, r, e, (by show [V.ref f, V.int (((e + 1 : Nat) : Int) - 1), V.ref l, V.int r] = _; rw [ed]), fS, lS.but bb2 hF2, by omega, apart, hN.keep apart bb2, by omega, hF2, fun t3 v3 H3 m3 a3 b3 hF3 => ?_⟩
      have bb3 := bb2.trans b3
      refine ⟨_, rfl, _, rfl, _, _, rfl, rfl, _, rfl, _, rfl, f, l, S, ns, r, e, (by show [V.ref f, V.int (((e + 1 : Nat) : Int) - 1), V.ref l, V.int r] = _; rw [ed]), fS, lS.but bb3 hF3, by omega, apart, hN.keep apart bb3, by omega, hF3, fun t4 v4 H4 m4 a4 b4 hF4 => ?_⟩
      have bb4 := bb3.trans b4
      have k3 : Df K S H4 v3 t3 := a3.but fS b4
      exact ⟨(by show 3 ≤ sizeLine; decide), fun p hp => q _ _ _ (sd_two w1 w2 w3 w4 m3 m4) (df_tup ((lS.but bb4 hF4).same (same_new hp)) (.inl (.inl upd_same)) (.cons (.str _) (.cons (k3.same (same_new hp)) (.cons (a4.same (same_new hp)) .nil)))) (bb4.new hp) (hF4.same (same_new hp))⟩
theorem ok_says {f ft fp fm : Addr} {fd dt dp dm : FuncData} (F : Fun K "_law_saying" "_law_saying" sSay f fd) (D : Draw P w K mg base ft fp dt dp)
    (M : FnOk P w K mg base CX0 (3 + 3) fm dm ["feed", "deep", "names", "around"] (spTerm K 3)) (bM : Binds K dm ["feed", "deep", "names", "around"] []) (kM : PySem.W.keepIn K (.ref fm) = true) (mM : mg "_law_term" = some (.ref fm))
    (bS : Binds K fd ["feed", "deep", "names", "around"] []) (mS : mg "_law_saying" = some (.ref f)) : ∀ n : Nat, FnOk P w K mg base CX0 (6 + n) f fd ["feed", "deep", "names", "around"] (spSay K n)
  | 0 => no_calls fun vs H Q E h => by
    obtain ⟨a, l, S, ns, r, d, _, _, _, dn, _⟩ := h
    omega
  | n + 1 => ok_say F D M bM kM mM (ok_says F D M bM kM mM bS mS n) bS mS
end
end Kf
set_option Elab.async false
set_option linter.all false
set_option maxRecDepth 100000
set_option maxHeartbeats 8000000
set_option pp.maxSteps 600
/-! The law's own size of a term. -/
namespace Kf
open PySem PySem.Spec PyProof.Rows L2 Sx
section
variable {P : Program} {w : World} {K : PySem.W.Frag} {mg : Str → Option Value} {base : Heap}
/-- .. with bounds below r -/
def spTS (K : PySem.W.Frag) (n : Nat) : Sp := fun vs H Q _ => ∃ (v : V) (d : PyData) (deep r : Int), vs = [v, .int deep, .int r] ∧ Dp K H v d ∧ ats d = true ∧ deep + (d.depth : Int) ≤ 61 ∧ d.depth + 1 ≤ n ∧ psz d ≤ 900 ∧ ∀ (z : Int) H', Same H H' → 0 ≤ z → (0 < z ↔ wf d kT r = true) → Q (.int z) H'
structure Look (P : Program) (w : World) (K : PySem.W.Frag) (mg : Str → Option Value) (base : Heap) (fw fn : Addr) (dw dn : FuncData) : Prop where
  W : FnOk P w K mg base CX0 1 fw dw ["thing"] (spLW K)
  bW : Binds K dw ["thing"] []
  kW : PySem.W.keepIn K (.ref fw) = true
  mW : mg "_law_is_word" = some (.ref fw)
  N : FnOk P w K mg base CX0 1 fn dn ["thing"] (spLN K)
  bN : Binds K dn ["thing"] []
  kN : PySem.W.keepIn K (.ref fn) = true
  mN : mg "_law_is_number" = some (.ref fn)
theorem nopart {σ : L2.St} {H : Hp} {Q : Option Int → Hp → Prop} (h : Q none H) : tNoPart σ H Q := h
theorem three_or {wd : Str} (h : inV (.str wd) [.str "next", .str "plus", .str "times"] = true) : wd = "next" ∨ wd = "plus" ∨ wd = "times" := by
  have h2 : ((("next" : Str) == wd) || ((("plus" : Str) == wd) || ((("times" : Str) == wd) || false))) = true := h
  rw [Bool.or_eq_true, Bool.or_eq_true, Bool.or_eq_true] at h2
  rcases h2 with h2 | h2 | h2 | h2
  · exact .inl (LawfulBEq.eq_of_beq h2).symm
  · exact .inr (.inl (LawfulBEq.eq_of_beq h2).symm)
  · exact .inr (.inr (LawfulBEq.eq_of_beq h2).symm)
  · cases h2
theorem up_id {wd : Str} {r : Int} (h : wd = "next" ∨ wd = "plus" ∨ wd = "times") : up wd r = r := by
  have hb : binds wd = false := by
    rcases h with rfl | rfl | rfl <;> decide +kernel
  exact if_neg (by rw [hb]; exact Bool.false_ne_true)
theorem in_three {wd : Str} (h : wd = "next" ∨ wd = "plus" ∨ wd = "times") : inV (.str wd) [.str "next", .str "plus", .str "times"] = true := by
  rcases h with rfl | rfl | rfl <;> decide +kernel
theorem ok_ts {f fw fn : Addr} {fd dw dn : FuncData} {n : Nat} (F : Fun K "_law_term_size" "_law_term_size" sTS f fd) (T : Blt mg) (L : Look P w K mg base fw fn dw dn) (Sf : FnOk P w K mg base CX0 (1 + n) f fd ["thing", "deep", "around"] (spTS K n)) (bS : Binds K fd ["thing", "deep", "around"] []) (mS : mg "_law_term_size" = some (.ref f)) :
    FnOk P w K mg base CX0 (1 + n + 1) f fd ["thing", "deep", "around"] (spTS K (n + 1)) := by
  refine F.ok scTS (fun vs H Q E h => ?_) (fun cdv A outer s H vs Q E hr h => ?_)
  · obtain ⟨v, d, deep, r, rfl, _⟩ := h
    rfl
  obtain ⟨v, d, deep, r, rfl, hd, hat, hdeep, hn, hsz, q⟩ := h
  have h1 : Room 1 _ := hr.mono (by omega)
  refine ⟨_, (pss_cons (ps_if (PW.pt (pw_or (pt_cmpR op_gt (pv 1) pe_int (nomark _)) (pw_or (pt_not (pt_val (pe_callB call_isi (by rfl) T.zIs (by decide +kernel) (pa_cons (pv 0) (pa_cons (pe_bltn (v := .ty "tuple") (by rfl) T.zTuple (by decide +kernel) rfl) pa_nil))))) (pw_or (pt_cmpR op_lt (pe_callB call_len_seq (by rfl) T.zLen PySem.boot_len (pa_cons (pv 0) pa_nil)) pe_int (nomark _)) (pw_or1 (pt_not (pt_val (pe_callB call_isi (by rfl) T.zIs (by decide +kernel) (pa_cons (pe_ix ix_tup (pv 0) pe_int (fun _ _ => rfl)) (pa_cons (pe_bltn (v := .ty "str") (by rfl) T.zStr (by decide +kernel) rfl) pa_nil)))))))))) (pss_one (ps_ret pe_int)) pss_nil)
    (pss_cons (ps_asg (pe_slice sl_tupA (pv 0) po_none (po_some pe_int)) (pg_tup (by rfl) (pgs_cons (pg_name (i := 3) scTS.nd rfl (.inl rfl)) (pgs_cons (pg_name (i := 4) scTS.nd rfl (.inl rfl)) pgs_nil))))
    (pss_cons (ps_if (pt_cmpR op_in_seq (pv 3) (pe_tup (pa_cons pe_str (pa_cons pe_str (pa_cons pe_str pa_nil)))) (by rfl)) (pss_cons (ps_set (i := 5) scTS.nd rfl (.inl rfl) (pe_ifExp (pt_cmpR op_eq (pv 3) pe_str (nomark _)) (pe_call L.W h1 (by rfl) L.mW L.kW L.bW .nil pass0 (pa_cons (pv 4) pa_nil)) (pe_call L.N h1 (by rfl) L.mN L.kN L.bN .nil pass0 (pa_cons (pv 4) pa_nil))))
    (pss_cons (ps_if (PW.pt (pw_and (pt_val (pv 5)) (pw_and1 (pt_cmpR op_ne (pv 3) pe_str (nomark _))))) (pss_one (ps_set (i := 5) scTS.nd rfl (.inl rfl) (pe_cmpR op_lt (pv 4) (pe_ifExp (pt_cmpR op_eq (pv 3) pe_str (nomark _)) (pe_op op_pow pe_int pe_int) (pv 2)) (nomark _)))) pss_nil)
    (pss_one (ps_ret (pe_callTy call_int1 (by rfl) T.zInt (by decide +kernel) (pa_cons (pe_and (pv 5) (pe_one (pe_cmpR op_eq (pe_callB call_len_seq (by rfl) T.zLen PySem.boot_len (pa_cons (pv 0) pa_nil)) pe_int (nomark _)))) pa_nil)))))) pss_nil)
    (pss_cons (ps_if (PW.pt (pw_or (pt_cmpR op_notIn_seq (pv 3) (pe_tup (pa_cons pe_str (pa_cons pe_str (pa_cons pe_str pa_nil)))) (by rfl)) (pw_or1 (pt_cmpR op_ne (pe_callB call_len_seq (by rfl) T.zLen PySem.boot_len (pa_cons (pv 0) pa_nil)) (pe_op op_sub pe_int (pe_callTy call_int1 (by rfl) T.zInt (by decide +kernel) (pa_cons (pe_cmpR op_eq (pv 3) pe_str (nomark _)) pa_nil))) (nomark _))))) (pss_one (ps_ret pe_int)) pss_nil)
    (pss_cons (ps_set (i := 6) scTS.nd rfl (.inl rfl) pe_int)
    (pss_cons (ps_for PassesOwn.never rfl (pi_tup (pe_slice sl_tupA (pv 0) (po_some pe_int) po_none)) (pg_name (i := 7) scTS.nd rfl (.inl rfl)) (pss_cons (ps_set (i := 8) scTS.nd rfl (.inl rfl) (pe_call Sf hr (by rfl) mS F.kp bS .nil pass0 (pa_cons (pv 7) (pa_cons (pe_op op_add (pv 1) pe_int) (pa_cons (pv 2) pa_nil)))))
    (pss_cons (ps_if (pt_cmpR op_eq (pv 8) pe_int (nomark _)) (pss_one (ps_ret pe_int)) pss_nil)
    (pss_one (ps_set (i := 6) scTS.nd rfl (.inl rfl) (pe_op op_add (pv 6) (pv 8)))))))
    (pss_one (ps_ret (pv 6))))))))), ?_⟩
  have zero : wf d kT r = false → Q (.int 0) H := fun e => q 0 H (Same.refl H) (Int.le_refl 0) (by rw [e]; exact ⟨fun z => absurd z (by decide), fun z => by cases z⟩)
  refine ⟨_, rfl, _, _, rfl, rfl, _, rfl, ?_⟩
  refine ite2 (fun c => ?_) (fun c => ?_)
  · have z : deep > 60 := of_decide_eq_true c
    have e : wf d kT r = false := by
      cases d with
      | tuple ds =>
        have e2 : (PyData.tuple ds).depth = PyData.depthAll ds + 1 := rfl
        omega
      | _ => rfl
    exact iteT (zero e)
  refine ⟨_, rfl, _, _, _, _, isTu d, rfl, .ty "tuple", dp_ty hd, kit_tu d, _, rfl, ?_⟩
  cases ht : isTu d with
  | false =>
    refine iteT (zero ?_)
    cases d with
    | tuple _ => cases ht
    | _ => rfl
  | true =>
  obtain ⟨ds, rfl⟩ : ∃ ds, d = .tuple ds := by
    cases d with
    | tuple ds => exact ⟨ds, rfl⟩
    | _ => cases ht
  cases hd with
  | @tup p xs _ hs ha =>
  have lx := dps_len ha
  have fewer : ds.length ≤ 900 := by
    have z := len_pszs ds
    have e : psz (.tuple ds) = 1 + pszs ds := rfl
    omega
  refine iteF ⟨_, rfl, p, xs, rfl, .inr hs, _, _, rfl, rfl, _, rfl, ?_⟩
  cases ha with
  | nil => exact iteT (zero rfl)
  | @cons x us a dr hx hr_ =>
  cases hr_ with
  | nil =>
    refine iteT (zero ?_)
    cases a with
    | str wd =>
      by_cases l : leafy wd = true
      · rw [wf_leaf l]
        show (decide (kT = kT) && false) = false
        exact Bool.and_false _
      · have l' := Bool.eq_false_iff.mpr l
        cases h : wf (.tuple [.str wd]) kT r with
        | false => rfl
        | true =>
          obtain ⟨ks, t⟩ := wf_row l' h
          rw [wf_in l' t] at h
          have z := wfs_len h
          rcases termRow t with ⟨_, e⟩ | ⟨_, e⟩ <;> (rw [e] at z; cases z)
    | _ => rfl
  | @cons y us b dr hy hr_ =>
  rw [show decide ((((x :: y :: us).length : Nat) : Int) < 2) = false from decide_eq_false (fun z => by simp only [List.length_cons] at z; omega)]
  refine iteF ⟨_, rfl, p, _, 0, _, rfl, rfl, hs, head_at _ _, _, _, _, _, isS a, rfl, .ty "str", dp_ty hx, kit_s a, _, rfl, ?_⟩
  cases hS : isS a with
  | false =>
    refine iteT (zero ?_)
    cases a with
    | str _ => cases hS
    | _ => rfl
  | true =>
  obtain ⟨wd, rfl⟩ : ∃ w, a = .str w := by
    cases a with
    | str w => exact ⟨w, rfl⟩
    | _ => cases hS
  cases hx
  have hat2 : ats b = true ∧ atss dr = true := by
    have h2 : (ats (.str wd) && (ats b && atss dr)) = true := hat
    rw [Bool.and_eq_true, Bool.and_eq_true] at h2
    exact h2.2
  refine iteF ⟨_, rfl, ?_⟩
  show ∃ i, V.int 2 = V.int i ∧ _
  refine ⟨2, rfl, sl_out rfl hs fun c1 H1 s1 t1 => ?_⟩
  have t1 : SqT K H1 c1 (cutV (.str wd :: y :: us) none (some (2 : Int))) := t1
  rw [show (2 : Int) = ((2 : Nat) : Int) from rfl, cut_to] at t1
  have t1 : SqT K H1 c1 [.str wd, y] := t1
  refine ⟨c1, [.str wd, y], rfl, t1, rfl, .str wd, [y], rfl, y, [], rfl, rfl, ?_⟩
  refine ⟨_, rfl, (by show 3 ≤ sizeLine; decide), fun c2 n2 => ?_⟩
  have s2 := same_new (o := .tup [.str "num", .str "name", .str "bound"]) n2
  have e2 : upd H1 c2 (.tup [.str "num", .str "name", .str "bound"]) c2 = _ := upd_same
  have s02 := s1.trans s2
  generalize upd H1 c2 (.tup [.str "num", .str "name", .str "bound"]) = H2 at s2 e2 s02
  have hy2 := dp_up s02 _ _ hy
  have hs2 := sqT_up s02 hs
  refine ⟨c2, _, rfl, .inr (.inl (.inl e2)), rfl, rfl, _, rfl, ?_⟩
  show if leafy wd = true then _ else _
  by_cases hl : leafy wd = true
  · rw [if_pos hl]
    have ewf : wf (.tuple (.str wd :: b :: dr)) kT r = leafD wd r (b :: dr) := by
      rw [wf_leaf hl, decide_eq_true rfl, Bool.true_and]
    rw [ewf] at q
    -- int(right and len(thing) == 2)
    have last : ∀ (rt : Bool) (Y : Hp), Same H Y → (rt = true ∧ dr = [] ↔ leafD wd r (b :: dr) = true) → (k5 : Bool) → True := fun _ _ _ _ _ => trivial
    apply joinS (C := fun σ Y => ∃ rt : Bool, σ = [some (.ref p), some (.int deep), some (.int r), some (.str wd), some y, some (.bl rt), none, none, none] ∧ Same H Y ∧ ((rt = true ∧ dr = []) ↔ leafD wd r (b :: dr) = true))
    · intro rest
      refine ⟨_, rfl, rfl, _, rfl, ?_⟩
      by_cases hnm : wd = "name"
      · subst hnm
        rw [show decide (V.str ("name" : Str) = V.str "name") = true from decide_eq_true rfl]
        refine iteT ⟨_, rfl, y, b, rfl, hy2, hat2.1, fun H3 s3 => ?_⟩
        have fit_ : (wordD b = true ∧ dr = []) ↔ leafD "name" r (b :: dr) = true := by
          cases dr with
          | nil =>
            rw [leafD_name]
            exact ⟨fun z => z.1, fun z => ⟨z, rfl⟩⟩
          | cons _ _ => exact ⟨fun z => (List.cons_ne_nil _ _ z.2).elim, fun z => (Bool.false_ne_true z).elim⟩
        refine ⟨_, rfl, _, rfl, ?_⟩
        cases hw : wordD b with
        | false =>
          rw [hw] at fit_
          exact iteF (iteF (rest _ _ ⟨false, rfl, s02.trans s3, fit_⟩))
        | true =>
          rw [hw] at fit_
          refine iteT ⟨_, rfl, rfl, _, rfl, ?_⟩
          rw [show (!decide (V.str ("name" : Str) = V.str "name")) = false by rw [decide_eq_true rfl]; rfl]
          exact iteF (rest _ _ ⟨true, rfl, s02.trans s3, fit_⟩)
      · rw [show decide (V.str wd = V.str "name") = false from decide_eq_false (fun z => hnm (by injection z))]
        refine iteF ⟨_, rfl, y, b, rfl, hy2, ?_⟩
        refine ⟨_, rfl, _, rfl, ?_⟩
        cases hnat : natD b with
        | false =>
          refine iteF (iteF (rest _ _ ⟨false, rfl, s02, ?_⟩))
          refine ⟨fun z => (Bool.false_ne_true z.1).elim, fun z => ?_⟩
          cases dr with
          | cons _ _ => exact (Bool.false_ne_true z).elim
          | nil =>
            rw [leafD_num hnm] at z
            cases b with
            | int n =>
              have z2 : (!decide (n < 0) && decide (n < if wd = "num" then 10 ^ 60 else r)) = true := z
              rw [Bool.and_eq_true] at z2
              have z3 : decide (n ≥ 0) = false := hnat
              have z4 := of_decide_eq_false z3
              have z5 : decide (n < 0) = true := decide_eq_true (by omega)
              rw [z5] at z2
              exact (Bool.false_ne_true z2.1).elim
            | _ => exact (Bool.false_ne_true z).elim
        | true =>
          obtain ⟨n, rfl, n0⟩ : ∃ n : Int, b = .int n ∧ 0 ≤ n := by
            cases b with
            | int n => exact ⟨n, rfl, of_decide_eq_true hnat⟩
            | _ => exact (Bool.false_ne_true hnat).elim
          cases hy
          refine iteT ⟨_, rfl, rfl, _, rfl, ?_⟩
          rw [show (!decide (V.str wd = V.str "name")) = true by rw [decide_eq_false (fun z => hnm (by injection z))]; rfl]
          refine iteT ⟨_, rfl, _, rfl, rfl, _, rfl, ?_⟩
          have fit_ : ∀ g : Int, (if wd = "num" then (10 : Int) ^ 60 else r) = g → ((decide (n < g) = true ∧ dr = []) ↔ leafD wd r (.int n :: dr) = true) := fun g eg => by
            cases dr with
            | cons _ _ => exact ⟨fun z => (List.cons_ne_nil _ _ z.2).elim, fun z => (Bool.false_ne_true z).elim⟩
            | nil =>
              rw [leafD_num hnm]
              show _ ↔ (!decide (n < 0) && decide (n < if wd = "num" then 10 ^ 60 else r)) = true
              rw [eg, decide_eq_false (show ¬ n < 0 by omega)]
              exact ⟨fun z => by rw [z.1]; rfl, fun z => ⟨by simpa using z, rfl⟩⟩
          by_cases hm : wd = "num"
          · rw [decide_eq_true (show V.str wd = V.str "num" by rw [hm])]
            refine iteT ⟨_, _, rfl, rfl, ⟨by decide, by decide, by decide⟩, _, _, rfl, rfl, ?_⟩
            exact rest _ _ ⟨_, rfl, s02, fit_ _ (if_pos hm)⟩
          · rw [decide_eq_false (show V.str wd ≠ V.str "num" from fun z => hm (by injection z))]
            refine iteF ⟨_, rfl, _, _, rfl, rfl, ?_⟩
            exact rest _ _ ⟨_, rfl, s02, fit_ _ (if_neg hm)⟩
    · rintro σ Y ⟨rt, rfl, sY, fit_⟩
      refine ⟨_, rfl, _, rfl, ?_⟩
      have out : ∀ k : Bool, (k = true ↔ (rt = true ∧ dr = [])) → Q (.int (if k then 1 else 0)) Y := fun k ek => by
        cases k with
        | true => exact q 1 Y sY (by decide) ⟨fun _ => fit_.1 (ek.1 rfl), fun _ => by decide⟩
        | false => exact q 0 Y sY (by decide) ⟨fun z => absurd z (by decide), fun z => by
            have := ek.2 (fit_.2 z)
            cases this⟩
      cases rt with
      | false => exact iteF (.inr ⟨false, rfl, out false ⟨fun z => (by cases z), fun z => by cases z.1⟩⟩)
      | true =>
        refine iteT ⟨_, rfl, p, _, rfl, .inr (sqT_up sY hs), rfl, .inr ⟨_, rfl, out _ ?_⟩⟩
        have l2 : us.length = dr.length := dps_len hr_
        constructor
        · intro z
          refine ⟨rfl, ?_⟩
          have z2 := of_decide_eq_true z
          injection z2 with z2
          have z3 : dr.length = 0 := by
            simp only [List.length_cons] at z2
            omega
          exact List.length_eq_zero_iff.mp z3
        · rintro ⟨_, e⟩
          rw [e] at l2
          have e3 : us = [] := List.length_eq_zero_iff.mp l2
          rw [e3]
          rfl
  · rw [if_neg hl]
    have hl' := Bool.eq_false_iff.mpr hl
    have l2 : us.length = dr.length := dps_len hr_
    refine ⟨_, rfl, (by show 3 ≤ sizeLine; decide), fun c3 n3 => ?_⟩
    have s3 := same_new (o := .tup [.str "next", .str "plus", .str "times"]) n3
    have e3 : upd H2 c3 (.tup [.str "next", .str "plus", .str "times"]) c3 = _ := upd_same
    have s03 := s02.trans s3
    generalize upd H2 c3 (.tup [.str "next", .str "plus", .str "times"]) = H3 at s3 e3 s03
    have zero3 : wf (.tuple (.str wd :: b :: dr)) kT r = false → Q (.int 0) H3 := fun e => q 0 H3 s03 (Int.le_refl 0) (by rw [e]; exact ⟨fun z => absurd z (by decide), fun z => by cases z⟩)
    refine ⟨c3, _, rfl, .inr (.inl (.inl e3)), rfl, rfl, _, rfl, ?_⟩
    show if (!inV (.str wd) [.str "next", .str "plus", .str "times"]) = true then _ else _
    cases h3 : inV (.str wd) [.str "next", .str "plus", .str "times"] with
    | false =>
      refine iteT (zero3 ?_)
      cases h : wf (.tuple (.str wd :: b :: dr)) kT r with
      | false => rfl
      | true =>
        obtain ⟨ks, t⟩ := wf_row hl' h
        have w3 : wd = "next" ∨ wd = "plus" ∨ wd = "times" := by
          rcases termRow t with ⟨e, _⟩ | ⟨e | e, _⟩
          · exact .inl e
          · exact .inr (.inl e)
          · exact .inr (.inr e)
        rw [in_three w3] at h3
        cases h3
    | true =>
    have w3 := three_or h3
    obtain ⟨ks, row, ksl, ksk⟩ : ∃ ks, table.lookup wd = some (kT, ks) ∧ (((ks.length : Nat) : Int) = 2 - (if decide (V.str wd = V.str "next") then 1 else 0)) ∧ ∀ k ∈ ks, k = kT := by
      rcases w3 with rfl | rfl | rfl
      · exact ⟨[kT], by decide +kernel, by decide +kernel, fun k hk => List.mem_singleton.mp hk⟩
      · exact ⟨[kT, kT], by decide +kernel, by decide +kernel, fun k hk => (List.mem_cons.mp hk).elim id fun z => List.mem_singleton.mp z⟩
      · exact ⟨[kT, kT], by decide +kernel, by decide +kernel, fun k hk => (List.mem_cons.mp hk).elim id fun z => List.mem_singleton.mp z⟩
    have ewf : wf (.tuple (.str wd :: b :: dr)) kT r = wfs (b :: dr) ks r := by
      rw [wf_in hl' row, up_id w3]
    refine iteF ⟨_, rfl, p, _, rfl, .inr (sqT_up s03 hs), _, rfl, rfl, .inr ⟨_, rfl, _, _, rfl, rfl, rfl, _, rfl, ?_⟩⟩
    show if (!decide (V.int (((V.str wd :: y :: us).length : Nat) : Int) = V.int (3 - (if decide (V.str wd = V.str "next") then 1 else 0)))) = true then _ else _
    have lens : (b :: dr).length = ks.length ∨ decide (V.int (((V.str wd :: y :: us).length : Nat) : Int) = V.int (3 - (if decide (V.str wd = V.str "next") then 1 else 0))) = false := by
      by_cases e : (b :: dr).length = ks.length
      · exact .inl e
      · refine .inr (decide_eq_false fun z => e ?_)
        injection z with z
        simp only [List.length_cons] at z ⊢
        omega
    rcases lens with hlen | hne
    rotate_left
    · rw [hne]
      refine iteT (zero3 ?_)
      rw [ewf]
      cases h : wfs (b :: dr) ks r with
      | false => rfl
      | true =>
        have z := wfs_len h
        have z2 := of_decide_eq_false hne
        refine (z2 ?_).elim
        congr 1
        simp only [List.length_cons] at z ⊢
        omega
    have heq : decide (V.int (((V.str wd :: y :: us).length : Nat) : Int) = V.int (3 - (if decide (V.str wd = V.str "next") then 1 else 0))) = true := by
      refine decide_eq_true ?_
      congr 1
      simp only [List.length_cons] at hlen ⊢
      omega
    rw [heq]
    refine iteF ⟨_, rfl, 1, rfl, ?_⟩
    refine nopart (sl_out (lo := some 1) (hi := none) rfl (sqT_up s03 hs) fun c4 H4 s4 t4 => ?_)
    have t4 : SqT K H4 c4 (cutV (.str wd :: y :: us) (some (1 : Int)) none) := t4
    rw [cut_one] at t4
    have s04 := s03.trans s4
    have all := all_same (ds := b :: dr) (ks := ks) (k := kT) (r := r) ksk hlen
    rw [ewf] at q
    have hus : DpAll K H (y :: us) (b :: dr) := .cons hy hr_
    have hatB : ∀ x ∈ b :: dr, ats x = true := fun x hx => atss_mem (ds := b :: dr) (by show (ats b && atss dr) = true; rw [hat2.1, hat2.2]; rfl) hx
    refine ⟨c4, rfl, ⟨_, t4⟩, for_tup (K := K) (a := c4) (xs := y :: us) (fun i σ H' => ∃ (fo : Int) (y7 y8 : Option V), σ = [some (.ref p), some (.int deep), some (.int r), some (.str wd), some y, none, some (.int fo), y7, y8] ∧ Same H4 H' ∧ 1 ≤ fo ∧ ∀ x ∈ (b :: dr).take i, wf x kT r = true)
      ⟨1, none, none, rfl, Same.refl H4, by decide, fun x hx => (List.not_mem_nil hx).elim⟩ (fun i σ H' _ ⟨_, _, _, _, sm, _⟩ => sqT_up sm t4) ?_ ?_⟩
    · rintro i x σ H5 hx ⟨fo, y7, y8, rfl, s5, f1, fa⟩
      obtain ⟨dx, hdx, hvx⟩ := dps_get hus hx
      have memx := List.mem_of_getElem? hdx
      have s05 := s04.trans s5
      refine ⟨_, rfl, _, rfl, _, _, rfl, rfl, _, rfl, x, dx, deep + 1, r, rfl, dp_up s05 _ _ hvx, hatB dx memx, ?_, ?_, ?_, fun z H6 s6 z0 zw => ?_⟩
      · have a1 : dx.depth ≤ PyData.depthAll (.str wd :: b :: dr) := dep_mem (List.mem_cons_of_mem _ memx)
        have a2 : (PyData.tuple (.str wd :: b :: dr)).depth = PyData.depthAll (.str wd :: b :: dr) + 1 := rfl
        omega
      · have a1 : dx.depth ≤ PyData.depthAll (.str wd :: b :: dr) := dep_mem (List.mem_cons_of_mem _ memx)
        have a2 : (PyData.tuple (.str wd :: b :: dr)).depth = PyData.depthAll (.str wd :: b :: dr) + 1 := rfl
        omega
      · have a1 : psz dx ≤ pszs (.str wd :: b :: dr) := pszs_mem (List.mem_cons_of_mem _ memx)
        have a2 : psz (.tuple (.str wd :: b :: dr)) = 1 + pszs (.str wd :: b :: dr) := rfl
        omega
      refine ⟨_, rfl, rfl, _, rfl, ?_⟩
      by_cases zz : z = 0
      · rw [decide_eq_true (show V.int z = V.int 0 by rw [zz])]
        refine iteT (q 0 H6 (s05.trans s6) (Int.le_refl 0) ⟨fun z => absurd z (by decide), fun h => ?_⟩)
        have y := all.1 h dx memx
        have y2 := zw.2 y
        omega
      · rw [decide_eq_false (show V.int z ≠ V.int 0 from fun e => zz (by injection e))]
        refine iteF ⟨_, rfl, _, rfl, _, _, rfl, rfl, fo + z, _, _, rfl, s5.trans s6, by omega, fun x2 hx2 => ?_⟩
        rw [List.take_add_one, hdx] at hx2
        rcases List.mem_append.mp hx2 with hx2 | hx2
        · exact fa x2 hx2
        · have e : x2 = dx := by simpa using hx2
          rw [e]
          exact zw.1 (by omega)
    · rintro σ H5 ⟨fo, y7, y8, rfl, s5, f1, fa⟩
      refine ⟨_, rfl, q fo H5 (s04.trans s5) (by omega) ⟨fun _ => ?_, fun _ => by omega⟩⟩
      refine all.2 fun x hx => fa x ?_
      have e : (y :: us).length = (b :: dr).length := dps_len hus
      rw [e, List.take_length]
      exact hx
theorem ok_tss {f fw fn : Addr} {fd dw dn : FuncData} (F : Fun K "_law_term_size" "_law_term_size" sTS f fd) (T : Blt mg) (L : Look P w K mg base fw fn dw dn) (bS : Binds K fd ["thing", "deep", "around"] []) (mS : mg "_law_term_size" = some (.ref f)) : ∀ n : Nat, FnOk P w K mg base CX0 (1 + n) f fd ["thing", "deep", "around"] (spTS K n)
  | 0 => no_calls fun vs H Q E h => by
    obtain ⟨v, d, deep, r, _, _, _, _, hn, _⟩ := h
    omega
  | n + 1 => ok_ts F T L (ok_tss F T L bS mS n) bS mS
end
end Kf
set_option Elab.async false
set_option linter.all false
set_option maxRecDepth 100000
set_option maxHeartbeats 8000000
set_option pp.maxSteps 600
/-! The law's own size of a saying. -/
namespace Kf
open PySem PySem.Spec PyProof.Rows L2 Sx
abbrev sZ : Stmt := top 29
abbrev zN : List Str := ["thing", "deep", "around", "many", "word", "found", "one", "size"]
theorem scZ : FnScope zN ["thing", "deep", "around"] (defScope sZ) := ⟨rfl, rfl, rfl, by decide +kernel, rfl, by decide +kernel, by decide +kernel⟩
def D0 : List (Key × V) := [(.inr "no", .int 1), (.inr "same", .int 3), (.inr "and", .int 3), (.inr "or", .int 3), (.inr "if", .int 3), (.inr "all", .int 2), (.inr "some", .int 2)]
theorem d0_merge : mergeK [] D0 = D0 := by decide +kernel
theorem val_mem {kvs : List (Key × V)} {k : Key} {v : V} (h : valV kvs k = some v) : (k, v) ∈ kvs := by
  unfold valV at h
  obtain ⟨p, hp, e⟩ := Option.map_eq_some_iff.mp h
  have m := List.mem_of_find?_eq_some hp
  have q := List.find?_some hp
  have q2 : p.1 = k := of_decide_eq_true q
  obtain ⟨a, b⟩ := p
  dsimp only at e q2
  subst e q2
  exact m
/-- a saying's word: how many parts, of which kind -/
structure Rw (wd : Str) (n : Int) (ks : List Str) : Prop where
  look : table.lookup wd = some (kS, ks)
  leaf : leafy wd = false
  len : n = ((ks.length : Nat) : Int) + 1
  same : wd = "same" → ∀ k ∈ ks, k = kT
  not : wd ≠ "same" → ∀ k ∈ ks, k = kS
theorem rw_of {wd : Str} {v : V} (h : valV D0 (.inr wd) = some v) : ∃ n ks, v = .int n ∧ Rw wd n ks := by
  have m := val_mem h
  have go : ∀ (w2 : Str) (n : Int) (ks : List Str), ((.inr wd : Key), v) = (.inr w2, .int n) → Rw w2 n ks → ∃ n ks, v = .int n ∧ Rw wd n ks := fun w2 n ks e r => by
    injection e with e1 e2
    injection e1 with e1
    subst e1 e2
    exact ⟨n, ks, rfl, r⟩
  have one : ∀ k ∈ [kS], k = kS := fun k hk => List.mem_singleton.mp hk
  have two : ∀ k ∈ [kS, kS], k = kS := fun k hk => (List.mem_cons.mp hk).elim id fun z => List.mem_singleton.mp z
  have twoT : ∀ k ∈ [kT, kT], k = kT := fun k hk => (List.mem_cons.mp hk).elim id fun z => List.mem_singleton.mp z
  rcases List.mem_cons.mp m with e | m
  · exact go _ _ [] e ⟨by decide +kernel, by decide +kernel, by decide, fun z k hk => (List.not_mem_nil hk).elim, fun z k hk => (List.not_mem_nil hk).elim⟩
  rcases List.mem_cons.mp m with e | m
  · exact go _ _ [kT, kT] e ⟨by decide +kernel, by decide +kernel, by decide, fun _ => twoT, fun z => (z rfl).elim⟩
  rcases List.mem_cons.mp m with e | m
  · exact go _ _ [kS, kS] e ⟨by decide +kernel, by decide +kernel, by decide, fun z => absurd z (by decide +kernel), fun _ => two⟩
  rcases List.mem_cons.mp m with e | m
  · exact go _ _ [kS, kS] e ⟨by decide +kernel, by decide +kernel, by decide, fun z => absurd z (by decide +kernel), fun _ => two⟩
  rcases List.mem_cons.mp m with e | m
  · exact go _ _ [kS, kS] e ⟨by decide +kernel, by decide +kernel, by decide, fun z => absurd z (by decide +kernel), fun _ => two⟩
  rcases List.mem_cons.mp m with e | m
  · exact go _ _ [kS] e ⟨by decide +kernel, by decide +kernel, by decide, fun z => absurd z (by decide +kernel), fun _ => one⟩
  · exact go _ _ [kS] (List.mem_singleton.mp m) ⟨by decide +kernel, by decide +kernel, by decide, fun z => absurd z (by decide +kernel), fun _ => one⟩
theorem rw_has {wd : Str} {ks : List Str} (h : table.lookup wd = some (kS, ks)) : (valV D0 (.inr wd)).isSome = true := by
  have m := look_mem h
  have no : ∀ {x : Str} {l : List Str}, (wd, kS, ks) = (x, kT, l) → False := fun e => ks_ne (congrArg (fun p : Str × Str × List Str => p.2.1) e)
  have yes : ∀ {x : Str} {l : List Str}, (wd, kS, ks) = (x, kS, l) → (valV D0 (.inr x)).isSome = true → (valV D0 (.inr wd)).isSome = true := fun {x l} e z => by
    have e2 : wd = x := congrArg (fun p : Str × Str × List Str => p.1) e
    rw [e2]
    exact z
  rcases List.mem_cons.mp m with e | m
  · exact (no e).elim
  rcases List.mem_cons.mp m with e | m
  · exact (no e).elim
  rcases List.mem_cons.mp m with e | m
  · exact (no e).elim
  rcases List.mem_cons.mp m with e | m
  · exact yes e (by decide +kernel)
  rcases List.mem_cons.mp m with e | m
  · exact yes e (by decide +kernel)
  rcases List.mem_cons.mp m with e | m
  · exact yes e (by decide +kernel)
  rcases List.mem_cons.mp m with e | m
  · exact yes e (by decide +kernel)
  rcases List.mem_cons.mp m with e | m
  · exact yes e (by decide +kernel)
  rcases List.mem_cons.mp m with e | m
  · exact yes e (by decide +kernel)
  · exact yes (List.mem_singleton.mp m) (by decide +kernel)
theorem wf_leafS {w : Str} {ds : List PyData} {r : Int} (l : leafy w = true) : wf (.tuple (.str w :: ds)) kS r = false := by
  rw [wf_leaf l, decide_eq_false ks_ne]
  rfl
section
variable {P : Program} {w : World} {K : PySem.W.Frag} {mg : Str → Option Value} {base : Heap}
def spZ (K : PySem.W.Frag) (n : Nat) : Sp := fun vs H Q _ => ∃ (v : V) (d : PyData) (deep r : Int), vs = [v, .int deep, .int r] ∧ Dp K H v d ∧ ats d = true ∧ deep + (d.depth : Int) ≤ 61 ∧ d.depth ≤ 18 ∧ d.depth + 1 ≤ n ∧ psz d ≤ 900 ∧ ∀ (z : Int) H', Same H H' → 0 ≤ z → (0 < z ↔ wf d kS r = true) → Q (.int z) H'
theorem ok_z {f ft : Addr} {fd dt : FuncData} {n : Nat} (F : Fun K "_law_size" "_law_size" sZ f fd) (T : Blt mg) (TS : FnOk P w K mg base CX0 (1 + 20) ft dt ["thing", "deep", "around"] (spTS K 20)) (bTS : Binds K dt ["thing", "deep", "around"] []) (kTS : PySem.W.keepIn K (.ref ft) = true) (mTS : mg "_law_term_size" = some (.ref ft))
    (Sf : FnOk P w K mg base CX0 (21 + n) f fd ["thing", "deep", "around"] (spZ K n)) (bS : Binds K fd ["thing", "deep", "around"] []) (mS : mg "_law_size" = some (.ref f)) :
    FnOk P w K mg base CX0 (21 + n + 1) f fd ["thing", "deep", "around"] (spZ K (n + 1)) := by
  refine F.ok scZ (fun vs H Q E h => ?_) (fun cdv A outer s H vs Q E hr h => ?_)
  · obtain ⟨v, d, deep, r, rfl, _⟩ := h
    rfl
  obtain ⟨v, d, deep, r, rfl, hd, hat, hdeep, h18, hn, hsz, q⟩ := h
  have h21 : Room (1 + 20) _ := hr.mono (by omega)
  have u1 : (A.deeper (envOfC "_law_size" (defScope sZ) s.heap.objs.size f cdv)).units + 1 < cLine := by
    have := hr.un
    omega
  have u2 : (A.deeper (envOfC "_law_size" (defScope sZ) s.heap.objs.size f cdv)).units + 130 < cLine := by
    have := hr.un
    omega
  refine ⟨_, (pss_cons (ps_if (PW.pt (pw_or (pt_cmpR op_gt (pv 1) pe_int (nomark _)) (pw_or (pt_not (pt_val (pe_callB call_isi (by rfl) T.zIs (by decide +kernel) (pa_cons (pv 0) (pa_cons (pe_bltn (v := .ty "tuple") (by rfl) T.zTuple (by decide +kernel) rfl) pa_nil))))) (pw_or (pt_cmpR (op_eqW u2) (pv 0) (pe_tup pa_nil) (nomark _)) (pw_or1 (pt_not (pt_val (pe_callB call_isi (by rfl) T.zIs (by decide +kernel) (pa_cons (pe_ix ix_tup (pv 0) pe_int (fun _ _ => rfl)) (pa_cons (pe_bltn (v := .ty "str") (by rfl) T.zStr (by decide +kernel) rfl) pa_nil)))))))))) (pss_one (ps_ret pe_int)) pss_nil)
    (pss_cons (ps_set (i := 3) scZ.nd rfl (.inl rfl) (pe_disp (pps_cons pe_str pe_int (pps_cons pe_str pe_int (pps_cons pe_str pe_int (pps_cons pe_str pe_int (pps_cons pe_str pe_int (pps_cons pe_str pe_int (pps_cons pe_str pe_int pps_nil))))))) (by rfl) (by rfl) (fun z => by cases z) (by decide)))
    (pss_cons (ps_set (i := 4) scZ.nd rfl (.inl rfl) (pe_ix ix_tup (pv 0) pe_int (fun _ _ => rfl)))
    (pss_cons (ps_if (PW.pt (pw_or (pt_cmp (pc_dnotin u1 (pv 4) (pv 3))) (pw_or1 (pt_cmpR op_ne (pe_callB call_len_seq (by rfl) T.zLen PySem.boot_len (pa_cons (pv 0) pa_nil)) (pe_dget u1 (pv 3) (pv 4) (fun _ _ => rfl)) (nomark _))))) (pss_one (ps_ret pe_int)) pss_nil)
    (pss_cons (ps_set (i := 5) scZ.nd rfl (.inl rfl) pe_int)
    (pss_cons (ps_for PassesOwn.never rfl (pi_tup (pe_slice sl_tupA (pv 0) (po_some pe_int) po_none)) (pg_name (i := 6) scZ.nd rfl (.inl rfl)) (pss_cons (ps_if (pt_cmpR op_eq (pv 4) pe_str (nomark _)) (pss_one (ps_set (i := 7) scZ.nd rfl (.inl rfl) (pe_call TS h21 (by rfl) mTS kTS bTS .nil pass0 (pa_cons (pv 6) (pa_cons (pe_op op_add (pv 1) pe_int) (pa_cons (pv 2) pa_nil)))))) (pss_one (ps_set (i := 7) scZ.nd rfl (.inl rfl) (pe_call Sf hr (by rfl) mS F.kp bS .nil pass0 (pa_cons (pv 6) (pa_cons (pe_op op_add (pv 1) pe_int) (pa_cons (pe_op op_add (pv 2) (pe_callTy call_int1 (by rfl) T.zInt (by decide +kernel) (pa_cons (pe_cmpR op_in_seq (pv 4) (pe_tup (pa_cons pe_str (pa_cons pe_str pa_nil))) (by rfl)) pa_nil))) pa_nil)))))))
    (pss_cons (ps_if (pt_cmpR op_eq (pv 7) pe_int (nomark _)) (pss_one (ps_ret pe_int)) pss_nil)
    (pss_one (ps_set (i := 5) scZ.nd rfl (.inl rfl) (pe_op op_add (pv 5) (pv 7)))))))
    (pss_one (ps_ret (pv 5))))))))), ?_⟩
  have zero : ∀ X, Same H X → wf d kS r = false → Q (.int 0) X := fun X sX e => q 0 X sX (Int.le_refl 0) (by rw [e]; exact ⟨fun z => absurd z (by decide), fun z => by cases z⟩)
  refine ⟨_, rfl, _, _, rfl, rfl, _, rfl, ?_⟩
  refine ite2 (fun c => ?_) (fun c => ?_)
  · have z : deep > 60 := of_decide_eq_true c
    have e : wf d kS r = false := by
      cases d with
      | tuple ds =>
        have e2 : (PyData.tuple ds).depth = PyData.depthAll ds + 1 := rfl
        omega
      | _ => rfl
    exact iteT (zero H (Same.refl H) e)
  refine ⟨_, rfl, _, _, _, _, isTu d, rfl, .ty "tuple", dp_ty hd, kit_tu d, _, rfl, ?_⟩
  cases ht : isTu d with
  | false =>
    refine iteT (zero H (Same.refl H) ?_)
    cases d with
    | tuple _ => cases ht
    | _ => rfl
  | true =>
  obtain ⟨ds, rfl⟩ : ∃ ds, d = .tuple ds := by
    cases d with
    | tuple ds => exact ⟨ds, rfl⟩
    | _ => cases ht
  have ft_ := fit _ hat
  cases hd with
  | @tup p xs _ hs ha =>
  refine iteF ⟨_, rfl, (by show 0 ≤ sizeLine; decide), fun e0 ne0 => ?_⟩
  have s0 := same_new (o := .tup []) ne0
  have ee0 : upd H e0 (.tup []) e0 = _ := upd_same
  generalize upd H e0 (.tup []) = H0 at s0 ee0
  refine ⟨.tuple ds, .tuple [], .tup (sqT_up s0 hs) (dps_up s0 _ _ ha), .tup (.inl (.inl ee0)) .nil, ft_.lay, (by decide +kernel), by omega, _, rfl, ?_⟩
  cases ha with
  | nil => exact iteT (zero H0 s0 rfl)
  | @cons x us a dr hx hr_ =>
  refine iteF ⟨_, rfl, p, _, 0, _, rfl, rfl, sqT_up s0 hs, head_at _ _, _, _, _, _, isS a, rfl, .ty "str", dp_ty (dp_up s0 _ _ hx), kit_s a, _, rfl, ?_⟩
  cases hS : isS a with
  | false =>
    refine iteT (zero H0 s0 ?_)
    cases a with
    | str _ => cases hS
    | _ => rfl
  | true =>
  obtain ⟨wd, rfl⟩ : ∃ w, a = .str w := by
    cases a with
    | str w => exact ⟨w, rfl⟩
    | _ => cases hS
  cases hx
  have hatr : atss dr = true := by
    have h2 : (ats (.str wd) && atss dr) = true := hat
    rw [Bool.and_eq_true] at h2
    exact h2.2
  refine iteF ?_
  refine fun d0 nd => ⟨upd_same, D0, rfl, (by decide), ?_⟩
  rw [d0_merge]
  have s1 : Same H (upd (upd H0 d0 (.dK [])) d0 (.dK D0)) := fun b o e => by
    have n := ne_of_none (s0 _ _ e) nd
    rw [upd_ne n, upd_ne n]
    exact s0 _ _ e
  have ed : upd (upd H0 d0 (.dK [])) d0 (.dK D0) d0 = some (.dK D0) := upd_same
  generalize upd (upd H0 d0 (.dK [])) d0 (.dK D0) = H1 at s1 ed
  have hs1 := sqT_up s1 hs
  refine ⟨_, rfl, p, _, 0, _, rfl, rfl, hs1, head_at _ _, ?_⟩
  refine ⟨_, rfl, _, rfl, d0, _, rfl, DGet.k (k := .inr wd) ed, _, rfl, ?_⟩
  have zero1 := zero H1 s1
  cases hv : valV D0 (.inr wd) with
  | none =>
    refine iteT (zero1 ?_)
    cases h : wf (.tuple (.str wd :: dr)) kS r with
    | false => rfl
    | true =>
      by_cases l : leafy wd = true
      · rw [wf_leafS l] at h
        cases h
      · obtain ⟨ks, t⟩ := wf_row (Bool.eq_false_iff.mpr l) h
        have z := rw_has t
        rw [hv] at z
        cases z
  | some v0 =>
  obtain ⟨m, ks, rfl, R⟩ := rw_of hv
  have ewf : wf (.tuple (.str wd :: dr)) kS r = wfs dr ks (up wd r) := wf_in R.leaf R.look
  have l2 : us.length = dr.length := dps_len hr_
  have g1 : DGet H1 d0 (.str wd) (some (.int m)) := by
    rw [← hv]
    exact DGet.k (k := .inr wd) ed
  refine iteF ⟨_, rfl, p, _, rfl, .inr hs1, _, rfl, _, rfl, d0, _, rfl, g1, rfl, _, rfl, ?_⟩
  by_cases hlen : dr.length = ks.length
  rotate_left
  · have ne : (!decide (V.int (((V.str wd :: us).length : Nat) : Int) = V.int m)) = true := by
      rw [decide_eq_false (fun z => hlen (by injection z with z; have := R.len; simp only [List.length_cons] at z; omega))]
      rfl
    rw [ne]
    refine iteT (zero1 ?_)
    rw [ewf]
    cases h : wfs dr ks (up wd r) with
    | false => rfl
    | true => exact (hlen (wfs_len h)).elim
  have eq : (!decide (V.int (((V.str wd :: us).length : Nat) : Int) = V.int m)) = false := by
    rw [decide_eq_true (show V.int (((V.str wd :: us).length : Nat) : Int) = V.int m by
      congr 1
      have := R.len
      simp only [List.length_cons]
      omega)]
    rfl
  rw [eq]
  refine iteF ⟨_, rfl, 1, rfl, ?_⟩
  refine nopart (sl_out (lo := some 1) (hi := none) rfl hs1 fun c4 H4 s4 t4 => ?_)
  have t4 : SqT K H4 c4 (cutV (.str wd :: us) (some (1 : Int)) none) := t4
  rw [cut_one] at t4
  have s04 := s1.trans s4
  rw [ewf] at q
  have all : (wfs dr ks (up wd r) = true ↔ ∀ x ∈ dr, wf x (if wd = "same" then kT else kS) (up wd r) = true) := by
    by_cases e : wd = "same"
    · rw [if_pos e]
      exact all_same (R.same e) hlen
    · rw [if_neg e]
      exact all_same (R.not e) hlen
  refine ⟨c4, rfl, ⟨_, t4⟩, for_tup (K := K) (a := c4) (xs := us) (fun i σ H' => ∃ (fo : Int) (y6 y7 : Option V), σ = [some (.ref p), some (.int deep), some (.int r), some (.ref d0), some (.str wd), some (.int fo), y6, y7] ∧ Same H4 H' ∧ 1 ≤ fo ∧ ∀ x ∈ dr.take i, wf x (if wd = "same" then kT else kS) (up wd r) = true)
    ⟨1, none, none, rfl, Same.refl H4, by decide, fun x hx => (List.not_mem_nil hx).elim⟩ (fun i σ H' _ ⟨_, _, _, _, sm, _⟩ => sqT_up sm t4) ?_ ?_⟩
  · rintro i x σ H5 hx ⟨fo, y6, y7, rfl, s5, f1, fa⟩
    obtain ⟨dx, hdx, hvx⟩ := dps_get hr_ hx
    have memx := List.mem_of_getElem? hdx
    have s05 := s04.trans s5
    have a1 : dx.depth ≤ PyData.depthAll (.str wd :: dr) := dep_mem (List.mem_cons_of_mem _ memx)
    have a2 : (PyData.tuple (.str wd :: dr)).depth = PyData.depthAll (.str wd :: dr) + 1 := rfl
    have a3 : psz dx ≤ pszs (.str wd :: dr) := pszs_mem (List.mem_cons_of_mem _ memx)
    have a4 : psz (.tuple (.str wd :: dr)) = 1 + pszs (.str wd :: dr) := rfl
    have atx := atss_mem hatr memx
    apply joinS (C := fun σ Y => ∃ z : Int, σ = [some (.ref p), some (.int deep), some (.int r), some (.ref d0), some (.str wd), some (.int fo), some x, some (.int z)] ∧ Same H5 Y ∧ 0 ≤ z ∧ (0 < z ↔ wf dx (if wd = "same" then kT else kS) (up wd r) = true))
    · intro rest
      refine ⟨_, rfl, rfl, _, rfl, ?_⟩
      by_cases e : wd = "same"
      · rw [decide_eq_true (show V.str wd = V.str "same" by rw [e])]
        have eu : up wd r = r := by
          rw [e]
          exact if_neg (by decide +kernel)
        refine iteT ⟨_, rfl, _, rfl, _, _, rfl, rfl, _, rfl, x, dx, deep + 1, r, rfl, dp_up s05 _ _ hvx, atx, by omega, by omega, by omega, fun z H6 s6 z0 zw => ?_⟩
        exact rest _ _ ⟨z, rfl, s6, z0, by rw [if_pos e, eu]; exact zw⟩
      · rw [decide_eq_false (show V.str wd ≠ V.str "same" from fun z => e (by injection z))]
        refine iteF ⟨_, rfl, _, rfl, _, _, rfl, rfl, _, rfl, _, rfl, (by show 2 ≤ sizeLine; decide), fun c5 n5 => ?_⟩
        have s6 := same_new (o := .tup [.str "all", .str "some"]) n5
        have e6 : upd H5 c5 (.tup [.str "all", .str "some"]) c5 = _ := upd_same
        generalize upd H5 c5 (.tup [.str "all", .str "some"]) = H6 at s6 e6
        refine ⟨c5, _, rfl, .inr (.inl (.inl e6)), rfl, rfl, .inr ⟨_, rfl, _, _, rfl, rfl, ?_⟩⟩
        have eu : r + (if inV (.str wd) [.str "all", .str "some"] = true then 1 else 0) = up wd r := by
          show r + (if binds wd = true then 1 else 0) = if binds wd = true then r + 1 else r
          split
          · rfl
          · exact Int.add_zero r
        refine ⟨x, dx, deep + 1, up wd r, ?_, dp_up (s05.trans s6) _ _ hvx, atx, by omega, by omega, by omega, by omega, fun z H7 s7 z0 zw => ?_⟩
        · show [x, V.int (deep + 1), V.int (r + (if inV (.str wd) [.str "all", .str "some"] = true then 1 else 0))] = _
          rw [eu]
        · exact rest _ _ ⟨z, rfl, s6.trans s7, z0, by rw [if_neg e]; exact zw⟩
    · rintro σ Y ⟨z, rfl, sY, z0, zw⟩
      refine ⟨_, rfl, rfl, _, rfl, ?_⟩
      by_cases zz : z = 0
      · rw [decide_eq_true (show V.int z = V.int 0 by rw [zz])]
        refine iteT (q 0 Y (s05.trans sY) (Int.le_refl 0) ⟨fun z => absurd z (by decide), fun h => ?_⟩)
        have y := all.1 h dx memx
        have y2 := zw.2 y
        omega
      · rw [decide_eq_false (show V.int z ≠ V.int 0 from fun e => zz (by injection e))]
        refine iteF ⟨_, rfl, _, rfl, _, _, rfl, rfl, fo + z, _, _, rfl, s5.trans sY, by omega, fun x2 hx2 => ?_⟩
        rw [List.take_add_one, hdx] at hx2
        rcases List.mem_append.mp hx2 with hx2 | hx2
        · exact fa x2 hx2
        · have e : x2 = dx := by simpa using hx2
          rw [e]
          exact zw.1 (by omega)
  · rintro σ H5 ⟨fo, y6, y7, rfl, s5, f1, fa⟩
    refine ⟨_, rfl, q fo H5 (s04.trans s5) (by omega) ⟨fun _ => ?_, fun _ => by omega⟩⟩
    refine all.2 fun x hx => fa x ?_
    rw [l2, List.take_length]
    exact hx
theorem ok_zs {f ft : Addr} {fd dt : FuncData} (F : Fun K "_law_size" "_law_size" sZ f fd) (T : Blt mg) (TS : FnOk P w K mg base CX0 (1 + 20) ft dt ["thing", "deep", "around"] (spTS K 20)) (bTS : Binds K dt ["thing", "deep", "around"] []) (kTS : PySem.W.keepIn K (.ref ft) = true) (mTS : mg "_law_term_size" = some (.ref ft))
    (bS : Binds K fd ["thing", "deep", "around"] []) (mS : mg "_law_size" = some (.ref f)) : ∀ n : Nat, FnOk P w K mg base CX0 (21 + n) f fd ["thing", "deep", "around"] (spZ K n)
  | 0 => no_calls fun vs H Q E h => by
    obtain ⟨v, d, deep, r, _, _, _, _, _, hn, _⟩ := h
    omega
  | n + 1 => ok_z F T TS bTS kTS mTS (ok_zs F T TS bTS kTS mTS bS mS n) bS mS
end
end Kf
set_option Elab.async false
set_option linter.all false
set_option maxRecDepth 100000
set_option maxHeartbeats 16000000
set_option pp.maxSteps 600
/-! Something near a term or saying; something otherwise at a drawn place. -/
namespace Kf
open PySem PySem.Spec PyProof.Rows L2 Sx
abbrev sOdd : Stmt := top 30
abbrev sBent : Stmt := top 31
abbrev oddN : List Str := ["feed", "thing", "one", "no", "some"]
theorem scOdd : FnScope oddN ["feed", "thing"] (defScope sOdd) := ⟨rfl, rfl, rfl, by decide +kernel, rfl, by decide +kernel, by decide +kernel⟩
theorem scBent : FnScope ["feed", "thing", "at"] ["feed", "thing"] (defScope sBent) := ⟨rfl, rfl, rfl, by decide +kernel, rfl, by decide +kernel, by decide +kernel⟩
/-- what comes of a thing -/
structure Nx (d e : PyData) : Prop where
  ats : ats e = true
  deep : e.depth ≤ d.depth + 3
  sz : psz e ≤ psz d + 11
def okc (d : PyData) : Bool := ats d && (decide (d.depth ≤ 2) && decide (psz d ≤ 11))
theorem okc_nx {d e : PyData} (h : okc e = true) : Nx d e := by
  unfold okc at h
  rw [Bool.and_eq_true, Bool.and_eq_true, decide_eq_true_eq, decide_eq_true_eq] at h
  exact ⟨h.1, by omega, by omega⟩
def Its (K : PySem.W.Frag) (S : List Addr) (H : Hp) (d : PyData) (xs : List V) : Prop := ∀ x ∈ xs, ∃ e, Df K S H x e ∧ Nx d e
/-- the menu so far -/
structure Acc (K : PySem.W.Frag) (S : List Addr) (d : PyData) (H0 X : Hp) (l : Addr) (n : Nat) : Prop where
  sm : Same H0 X
  at_ : ∃ xs, X l = some (.lst xs) ∧ xs.length = n ∧ Its K S X d xs
theorem its_of {K : PySem.W.Frag} {S : List Addr} {H : Hp} {d : PyData} {xs : List V} {ds : List PyData} (h : DfAll K S H xs ds) (ok : ∀ e ∈ ds, Nx d e) : Its K S H d xs := fun x hx => by
  obtain ⟨e, m, he⟩ := dps_mem h hx
  exact ⟨e, he, ok e m⟩
theorem acc_cat {K : PySem.W.Frag} {S : List Addr} {d : PyData} {H0 X X' : Hp} {l p : Addr} {n m : Nat} {vs : List V} {ds : List PyData} {Q : VK} (A : Acc K S d H0 X l n) (s : Same X X') (hp : X' p = some (.lst vs)) (hv : DfAll K S X' vs ds) (ok : ∀ e ∈ ds, Nx d e) (len : ds.length = m) (few : n + m ≤ 1000)
    (q : ∀ l' Z, Acc K S d H0 Z l' (n + m) → Same X Z → X l' = none → Q (.ref l') Z) : rCat (.ref l) (.ref p) X' Q := by
  obtain ⟨xs, hl, lx, its⟩ := A.at_
  refine ⟨l, p, xs, vs, rfl, rfl, s _ _ hl, hp, small_len (by rw [dps_len hv]; omega), fun z nz => ?_⟩
  have sz := same_new (o := .lst (xs ++ vs)) nz
  refine q z _ ⟨A.sm.trans (s.trans sz), xs ++ vs, upd_same, by rw [List.length_append, dps_len hv, lx, len], fun x hx => ?_⟩ (s.trans sz) (s.free nz)
  rcases List.mem_append.mp hx with hx | hx
  · obtain ⟨e, he, g⟩ := its x hx
    exact ⟨e, (he.same s).same sz, g⟩
  · obtain ⟨e, he, g⟩ := its_of hv ok x hx
    exact ⟨e, he.same sz, g⟩
theorem all_ok {d : PyData} {ds : List PyData} (h : ds.all okc = true) : ∀ e ∈ ds, Nx d e := fun e he => okc_nx (List.all_eq_true.mp h e he)
theorem nx_of {ds es : List PyData} {b : Bool} (h : ats (.tuple ds) = true) (ha : atss es = true) (hd : PyData.depthAll es ≤ PyData.depthAll ds + 3) (hz : pszs es ≤ pszs ds + 11) : Nx (.tuple ds) (.tuple es) := by
  refine ⟨ha, ?_, ?_⟩
  · show PyData.depthAll es + 1 ≤ PyData.depthAll ds + 1 + 3
    omega
  · show 1 + pszs es ≤ 1 + pszs ds + 11
    omega
theorem pszs_take (k : Nat) (xs : List PyData) : pszs (xs.take k) ≤ pszs xs := by
  have z := pszs_app (xs.take k) (xs.drop k)
  rw [List.take_append_drop] at z
  omega
theorem pszs_drop (k : Nat) (xs : List PyData) : pszs (xs.drop k) ≤ pszs xs := by
  have z := pszs_app (xs.take k) (xs.drop k)
  rw [List.take_append_drop] at z
  omega
theorem nx_list {ds : List PyData} (h : ats (.tuple ds) = true) : Nx (.tuple ds) (.list ds) := ⟨h, Nat.le_add_right _ _, Nat.le_add_right _ _⟩
theorem nx_cut {ds : List PyData} {lo hi : Option Int} (h : ats (.tuple ds) = true) : Nx (.tuple ds) (.tuple (cutD ds lo hi)) := by
  refine nx_of (b := true) h (atss_of fun d m => atss_mem (ds := ds) h (cutD_mem m)) (Nat.le_trans (dep_of fun d m => dep_mem (cutD_mem m)) (Nat.le_add_right _ _)) ?_
  exact Nat.le_trans (Nat.le_trans (pszs_take _ _) (pszs_drop _ _)) (Nat.le_add_right _ _)
theorem nx_app {ds es : List PyData} (h : ats (.tuple ds) = true) (ok : (atss es && (decide (PyData.depthAll es ≤ 3) && decide (pszs es ≤ 11))) = true) : Nx (.tuple ds) (.tuple (ds ++ es)) := by
  rw [Bool.and_eq_true, Bool.and_eq_true, decide_eq_true_eq, decide_eq_true_eq] at ok
  have h2 : atss ds = true := h
  refine nx_of (b := true) h (by rw [atss_app, h2, ok.1]; rfl) (dep_of fun d m => ?_) (by rw [pszs_app]; omega)
  rcases List.mem_append.mp m with m | m
  · exact Nat.le_trans (dep_mem m) (Nat.le_add_right _ _)
  · exact Nat.le_trans (dep_mem m) (Nat.le_trans ok.2.1 (Nat.le_add_left _ _))
theorem nx_w {ds : List PyData} {w : Str} (h : ats (.tuple ds) = true) (hw : ats (.str w) = true) : Nx (.tuple ds) (.tuple [.str w, .tuple ds]) := by
  have h2 : atss ds = true := h
  refine ⟨?_, ?_, ?_⟩
  · show (ats (.str w) && (atss ds && true)) = true
    rw [hw, h2]
    rfl
  · show max 0 (max (PyData.depthAll ds + 1) 0) + 1 ≤ PyData.depthAll ds + 1 + 3
    omega
  · show 1 + (1 + (1 + pszs ds + 0)) ≤ 1 + pszs ds + 11
    omega
theorem nx_1 {ds : List PyData} (h : ats (.tuple ds) = true) : Nx (.tuple ds) (.tuple [.tuple ds]) := by
  have h2 : atss ds = true := h
  refine ⟨?_, ?_, ?_⟩
  · show (atss ds && true) = true
    rw [h2]
    rfl
  · show max (PyData.depthAll ds + 1) 0 + 1 ≤ PyData.depthAll ds + 1 + 3
    omega
  · show 1 + (1 + pszs ds + 0) ≤ 1 + pszs ds + 11
    omega
theorem all_nx {d : PyData} {e : PyData} {es : List PyData} (h : Nx d e) (r : ∀ x ∈ es, Nx d x) : ∀ x ∈ e :: es, Nx d x := fun x hx => by
  rcases List.mem_cons.mp hx with rfl | hx
  · exact h
  · exact r x hx
theorem nil_nx {d : PyData} : ∀ x ∈ ([] : List PyData), Nx d x := fun x hx => (List.not_mem_nil hx).elim
theorem psz_put {k : Nat} : ∀ {ds : List PyData} {x : PyData}, ds[k]? = some x → pszs (ds.take k) + psz x + pszs (ds.drop (k + 1)) = pszs ds := by
  induction k with
  | zero =>
    intro ds x h
    cases ds with
    | nil => simp at h
    | cons y ys =>
      have e : y = x := by simpa using h
      subst e
      show 0 + psz y + pszs ys = psz y + pszs ys
      omega
  | succ k ih =>
    intro ds x h
    cases ds with
    | nil => simp at h
    | cons y ys =>
      have z := ih (ds := ys) (x := x) (by simpa using h)
      show psz y + pszs (ys.take k) + psz x + pszs (ys.drop (k + 1)) = psz y + pszs ys
      omega
theorem nx_put {k : Nat} {ds : List PyData} {x e : PyData} (h : ats (.tuple ds) = true) (hx : ds[k]? = some x) (n : Nx x e) : Nx (.tuple ds) (.tuple ((ds.take k ++ [e]) ++ ds.drop (k + 1))) := by
  have z := psz_put hx
  have h2 : atss ds = true := h
  have dx := dep_mem (List.mem_of_getElem? hx)
  have cases_ : ∀ d ∈ (ds.take k ++ [e]) ++ ds.drop (k + 1), d ∈ ds ∨ d = e := fun d m => by
    rcases List.mem_append.mp m with m | m
    · rcases List.mem_append.mp m with m | m
      · exact .inl (List.mem_of_mem_take m)
      · exact .inr (List.mem_singleton.mp m)
    · exact .inl (List.mem_of_mem_drop m)
  refine nx_of (b := true) h (atss_of fun d m => ?_) (dep_of fun d m => ?_) ?_
  · rcases cases_ d m with m | m
    · exact atss_mem h2 m
    · rw [m]
      exact n.ats
  · rcases cases_ d m with m | m
    · exact Nat.le_trans (dep_mem m) (Nat.le_add_right _ _)
    · rw [m]
      have := n.deep
      omega
  · rw [pszs_app, pszs_app]
    have e1 : pszs [e] = psz e + 0 := rfl
    have := n.sz
    omega
section
variable {P : Program} {w : World} {K : PySem.W.Frag} {mg : Str → Option Value} {base : Heap}
theorem lit_listof {X : Cx} {S : List Addr} {tb : List (Nat × PyData)} {ds : List PyData} {x : Str} {p pos p2} (mT : (1, .tuple ds) ∈ tb) (zl : X.mg "list" = none) (ha : PE X (.Name x p2) (tVar 1)) (hg : Gl X "list" := by rfl) : Lit X S tb (.Call (.Name "list" p) [.Name x p2] [] pos) (.list ds) :=
  pe_imp (pe_callTy call_list_of hg zl (by decide +kernel) (pa_cons ha pa_nil)) fun σ H Q ⟨c, q⟩ => by
    obtain ⟨v, av, bv⟩ := c.2 _ mT
    obtain ⟨x, xs, ev, hx, gx⟩ := bv.tup
    exact ⟨v, av, x, xs, by rw [ev], .inr hx, fun l nl => q _ _ (same_new nl) (df_lst (c.1.nin nl) upd_same (gx.same (same_new nl)))⟩
def signs : Str := " "
def okz (c : Nat) : Bool := okc (.tuple [.str "name", .str ("x" ++ ⟨#[c]⟩)]) && (okc (.tuple [.str "name", .str (⟨#[c]⟩ ++ "x")]) && okc (.tuple [.str "name", .str ("a" ++ ⟨#[c]⟩ ++ "b")]))
theorem signs_ok : signs.cps.toList.all okz = true := by decide +kernel
theorem sign_ats {c : Nat} (h : c ∈ signs.cps.toList) : okz c = true := List.all_eq_true.mp signs_ok c h
def spOdd (K : PySem.W.Frag) : Sp := fun vs H Q _ => ∃ (f : Addr) (S : List Addr) (v : V) (d : PyData), vs = [.ref f, v] ∧ f ∈ S ∧ LS H S ∧ Df K S H v d ∧ ats d = true ∧ psz d ≤ 900 ∧ FeedAt H f ∧ ∀ v' e H', Df K S H' v' e → Nx d e → But f H H' → FeedAt H' f → Q v' H'
def oneD : PyData := .tuple [.str "num", .int 1]
def noD : PyData := .tuple [.str "no"]
theorem ok_odd {f ft fp : Addr} {fd dt dp : FuncData} (F : Fun K "_law_odd" "_law_odd" sOdd f fd) (D : Draw P w K mg base ft fp dt dp) (zIs : mg "isinstance" = none) (zTuple : mg "tuple" = none) (zl : mg "list" = none) : FnOk P w K mg base CX0 3 f fd ["feed", "thing"] (spOdd K) := by
  refine F.ok scOdd (fun vs H Q E h => ?_) (fun cdv A outer s H vs Q E hr h => ?_)
  · obtain ⟨f, S, v, d, rfl, _⟩ := h
    rfl
  obtain ⟨f, S, v, d, rfl, fS, lS, hd, hat, hsz, hF, q⟩ := h
  have h2 : Room 2 _ := hr.mono (by decide)
  refine ⟨_, (pss_cons (ps_set (i := 2) scOdd.nd rfl (.inl rfl) (lit_tup (S := S) (tb := []) (lits_cons lit_str (lits_cons lit_int lits_nil))))
    (pss_cons (ps_set (i := 3) scOdd.nd rfl (.inl rfl) (lit_tup (S := S) (tb := []) (lits_cons lit_str lits_nil)))
    (pss_cons (ps_set (i := 4) scOdd.nd rfl (.inl rfl) (row (S := S) (tb := [(2, oneD), (3, noD)]) (lits_cons lit_non (lits_cons lit_bl (lits_cons lit_neg (lits_cons lit_str (lits_cons (lit_tup lits_nil) (lits_cons (lit_lst lits_nil) (lits_cons lit_int (lits_cons (lit_tup (lits_cons lit_str lits_nil)) (lits_cons (lit_tup (lits_cons lit_str (lits_cons lit_neg lits_nil))) (lits_cons (lit_tup (lits_cons lit_str (lits_cons lit_bl lits_nil))) (lits_cons (lit_tup (lits_cons lit_str (lits_cons (lit_pow ⟨by decide, by decide, by decide⟩) lits_nil))) lits_nil)))))))))))))
    (pss_cons (ps_set (i := 4) scOdd.nd rfl (.inl rfl) (pe_op op_cat (pv 4) (row (S := S) (tb := [(2, oneD), (3, noD)]) (lits_cons (lit_tup (lits_cons lit_str (lits_cons lit_str lits_nil))) (lits_cons (lit_tup (lits_cons lit_str (lits_cons lit_str lits_nil))) (lits_cons (lit_tup (lits_cons lit_str (lits_cons lit_str lits_nil))) (lits_cons (lit_tup (lits_cons lit_str (lits_cons lit_str lits_nil))) (lits_cons (lit_tup (lits_cons lit_str (lits_cons lit_int lits_nil))) lits_nil))))))))
    (pss_cons (ps_set (i := 4) scOdd.nd rfl (.inl rfl) (pe_op op_cat (pv 4) (row (S := S) (tb := [(2, oneD), (3, noD)]) (lits_cons (lit_tup (lits_cons lit_str (lits_cons lit_str lits_nil))) (lits_cons (lit_tup (lits_cons lit_str lits_nil)) (lits_cons (lit_tup (lits_cons lit_str (lits_cons lit_str lits_nil))) (lits_cons (lit_tup (lits_cons lit_str (lits_cons lit_int lits_nil))) (lits_cons (lit_tup (lits_cons lit_str (lits_cons lit_int lits_nil))) lits_nil))))))))
    (pss_cons (ps_set (i := 4) scOdd.nd rfl (.inl rfl) (pe_op op_cat (pv 4) (row (S := S) (tb := [(2, oneD), (3, noD)]) (lits_cons (lit_tup (lits_cons lit_str (lits_cons lit_int lits_nil))) (lits_cons (lit_tup (lits_cons lit_str (lits_cons lit_neg lits_nil))) (lits_cons (lit_tup (lits_cons lit_str (lits_cons lit_bl lits_nil))) (lits_cons (lit_tup (lits_cons lit_str (lits_cons lit_int lits_nil))) (lits_cons (lit_tup (lits_cons lit_str lits_nil)) (lits_cons (lit_tup (lits_cons lit_str (lits_cons lit_int lits_nil))) lits_nil)))))))))
    (pss_cons (ps_set (i := 4) scOdd.nd rfl (.inl rfl) (pe_op op_cat (pv 4) (row (S := S) (tb := [(2, oneD), (3, noD)]) (lits_cons (lit_tup (lits_cons lit_str (lits_cons (lit_var 2 (pv 2) List.mem_cons_self) (lits_cons (lit_var 2 (pv 2) List.mem_cons_self) lits_nil)))) (lits_cons (lit_tup (lits_cons lit_str (lits_cons (lit_var 2 (pv 2) List.mem_cons_self) lits_nil))) (lits_cons (lit_tup (lits_cons lit_str (lits_cons (lit_var 2 (pv 2) List.mem_cons_self) (lits_cons (lit_var 2 (pv 2) List.mem_cons_self) (lits_cons (lit_var 2 (pv 2) List.mem_cons_self) lits_nil))))) (lits_cons (lit_tup (lits_cons lit_str (lits_cons (lit_var 2 (pv 2) List.mem_cons_self) (lits_cons lit_non lits_nil)))) lits_nil)))))))
    (pss_cons (ps_set (i := 4) scOdd.nd rfl (.inl rfl) (pe_op op_cat (pv 4) (row (S := S) (tb := [(2, oneD), (3, noD)]) (lits_cons (lit_tup (lits_cons lit_str (lits_cons (lit_var 2 (pv 2) List.mem_cons_self) lits_nil))) (lits_cons (lit_lst (lits_cons lit_str (lits_cons (lit_var 2 (pv 2) List.mem_cons_self) lits_nil))) (lits_cons (lit_var 3 (pv 3) (List.mem_cons_of_mem _ List.mem_cons_self)) (lits_cons (lit_tup (lits_cons lit_str (lits_cons (lit_var 2 (pv 2) List.mem_cons_self) lits_nil))) (lits_cons (lit_tup (lits_cons lit_str (lits_cons (lit_var 2 (pv 2) List.mem_cons_self) lits_nil))) (lits_cons (lit_tup (lits_cons lit_str (lits_cons (lit_var 2 (pv 2) List.mem_cons_self) (lits_cons (lit_var 2 (pv 2) List.mem_cons_self) lits_nil)))) lits_nil)))))))))
    (pss_cons (ps_set (i := 4) scOdd.nd rfl (.inl rfl) (pe_op op_cat (pv 4) (row (S := S) (tb := [(2, oneD), (3, noD)]) (lits_cons (lit_tup (lits_cons lit_str (lits_cons (lit_var 3 (pv 3) (List.mem_cons_of_mem _ List.mem_cons_self)) lits_nil))) (lits_cons (lit_tup (lits_cons lit_str (lits_cons (lit_var 3 (pv 3) (List.mem_cons_of_mem _ List.mem_cons_self)) lits_nil))) (lits_cons (lit_tup (lits_cons lit_str (lits_cons (lit_var 2 (pv 2) List.mem_cons_self) (lits_cons (lit_var 2 (pv 2) List.mem_cons_self) lits_nil)))) (lits_cons (lit_tup (lits_cons lit_str (lits_cons (lit_var 3 (pv 3) (List.mem_cons_of_mem _ List.mem_cons_self)) (lits_cons (lit_var 3 (pv 3) (List.mem_cons_of_mem _ List.mem_cons_self)) lits_nil)))) (lits_cons (lit_tup (lits_cons lit_str lits_nil)) (lits_cons (lit_tup (lits_cons lit_str lits_nil)) lits_nil)))))))))
    (pss_cons (ps_set (i := 4) scOdd.nd rfl (.inl rfl) (pe_op op_cat (pv 4) (row (S := S) (tb := [(2, oneD), (3, noD)]) (lits_cons (lit_tup (lits_cons lit_str (lits_cons lit_int (lits_cons lit_int lits_nil)))) (lits_cons (lit_tup (lits_cons lit_int (lits_cons (lit_var 2 (pv 2) List.mem_cons_self) lits_nil))) (lits_cons (lit_var 2 (pv 2) List.mem_cons_self) (lits_cons (lit_tup (lits_cons lit_str (lits_cons (lit_var 2 (pv 2) List.mem_cons_self) lits_nil))) (lits_cons (lit_tup (lits_cons (lit_lst (lits_cons lit_str lits_nil)) (lits_cons (lit_var 2 (pv 2) List.mem_cons_self) (lits_cons (lit_var 2 (pv 2) List.mem_cons_self) lits_nil)))) (lits_cons (lit_tup (lits_cons (lit_lst lits_nil) lits_nil)) lits_nil)))))))))
    (pss_cons (ps_if (pt_val (pe_callB call_isi (by rfl) zIs (by decide +kernel) (pa_cons (pv 1) (pa_cons (pe_bltn (v := .ty "tuple") (by rfl) zTuple (by decide +kernel) rfl) pa_nil)))) (pss_cons (ps_set (i := 4) scOdd.nd rfl (.inl rfl) (pe_op op_cat (pv 4) (pe_ex fun ds : {xs : List PyData // xs.length ≤ 900} => row (S := S) (tb := [(2, oneD), (3, noD), (1, .tuple ds.1)]) (lits_cons (lit_listof (List.mem_cons_of_mem _ (List.mem_cons_of_mem _ List.mem_cons_self)) zl (pv 1)) (lits_cons (lit_cut (lit_var 1 (pv 1) (List.mem_cons_of_mem _ (List.mem_cons_of_mem _ List.mem_cons_self)))) (lits_cons (lit_cat (lit_var 1 (pv 1) (List.mem_cons_of_mem _ (List.mem_cons_of_mem _ List.mem_cons_self))) (lit_tup (lits_cons (lit_var 2 (pv 2) List.mem_cons_self) lits_nil)) (by have z := ds.2; show ds.1.length + _ ≤ 1000; first | (show ds.1.length + 1 ≤ 1000; omega) | (show ds.1.length + 0 ≤ 1000; omega))) (lits_cons (lit_cat (lit_var 1 (pv 1) (List.mem_cons_of_mem _ (List.mem_cons_of_mem _ List.mem_cons_self))) (lit_tup lits_nil) (by have z := ds.2; show ds.1.length + _ ≤ 1000; first | (show ds.1.length + 1 ≤ 1000; omega) | (show ds.1.length + 0 ≤ 1000; omega))) (lits_cons (lit_tup (lits_cons lit_str (lits_cons (lit_var 1 (pv 1) (List.mem_cons_of_mem _ (List.mem_cons_of_mem _ List.mem_cons_self))) lits_nil))) lits_nil)))))))) (pss_one (ps_set (i := 4) scOdd.nd rfl (.inl rfl) (pe_op op_cat (pv 4) (pe_ex fun ds : {xs : List PyData // xs.length ≤ 900} => row (S := S) (tb := [(2, oneD), (3, noD), (1, .tuple ds.1)]) (lits_cons (lit_tup (lits_cons lit_str (lits_cons (lit_var 1 (pv 1) (List.mem_cons_of_mem _ (List.mem_cons_of_mem _ List.mem_cons_self))) lits_nil))) (lits_cons (lit_tup (lits_cons (lit_var 1 (pv 1) (List.mem_cons_of_mem _ (List.mem_cons_of_mem _ List.mem_cons_self))) lits_nil)) lits_nil))))))) pss_nil)
    (pss_one (ps_ret (pe_call D.Pk h2 (by rfl) D.mP D.kP D.bP .nil pass0 (pa_cons (pv 0) (pa_cons (pv 4) pa_nil)))))))))))))))), ?_⟩
  refine ⟨⟨lS, fun r hr => (List.not_mem_nil hr).elim⟩, fun vo H1 s1 ho => ?_⟩
  refine ⟨⟨lS.same s1, fun r hr => (List.not_mem_nil hr).elim⟩, fun vn H2 s2 hn => ?_⟩
  have ho2 : Df K S H2 vo oneD := ho.same s2
  have hn2 : Df K S H2 vn noD := hn
  have LS2 := (lS.same s1).same s2
  have hF2 := (hF.same s1).same s2
  have hd2 := (hd.same s1).same s2
  have b2 : But f H H2 := but_same (s1.trans s2)
  have kn : ∀ (σ : L2.St) (Z : Hp), σ[2]? = some (some vo) → σ[3]? = some (some vn) → Same H2 Z → Kn K S [(2, oneD), (3, noD)] σ Z := fun σ Z e2 e3 s => ⟨LS2.same s, fun r hr => by
    rcases List.mem_cons.mp hr with rfl | hr
    · exact ⟨vo, e2, ho2.same s⟩
    · rw [List.mem_singleton.mp hr]
      exact ⟨vn, e3, hn2.same s⟩⟩
  refine ⟨kn _ _ rfl rfl (Same.refl H2), fun vs Z0 l0 s n0 h0 g0 => ?_⟩
  have A0 : Acc K S d H2 Z0 l0 (11) := ⟨s, vs, h0, dps_len g0, its_of g0 (all_ok (by decide +kernel))⟩
  have fr0 : H2 l0 = none := n0
  refine ⟨_, rfl, kn _ _ rfl rfl A0.sm, fun vs W p s _ hp hv => acc_cat (m := 5) A0 s hp hv (all_ok (by decide +kernel)) rfl (by decide) fun l1 Z1 A1 sZ1 nl1 => ?_⟩
  refine ⟨_, rfl, kn _ _ rfl rfl A1.sm, fun vs W p s _ hp hv => acc_cat (m := 5) A1 s hp hv (all_ok (by decide +kernel)) rfl (by decide) fun l2 Z2 A2 sZ2 nl2 => ?_⟩
  refine ⟨_, rfl, kn _ _ rfl rfl A2.sm, fun vs W p s _ hp hv => acc_cat (m := 6) A2 s hp hv (all_ok (by decide +kernel)) rfl (by decide) fun l3 Z3 A3 sZ3 nl3 => ?_⟩
  refine ⟨_, rfl, kn _ _ rfl rfl A3.sm, fun vs W p s _ hp hv => acc_cat (m := 4) A3 s hp hv (all_ok (by decide +kernel)) rfl (by decide) fun l4 Z4 A4 sZ4 nl4 => ?_⟩
  refine ⟨_, rfl, kn _ _ rfl rfl A4.sm, fun vs W p s _ hp hv => acc_cat (m := 6) A4 s hp hv (all_ok (by decide +kernel)) rfl (by decide) fun l5 Z5 A5 sZ5 nl5 => ?_⟩
  refine ⟨_, rfl, kn _ _ rfl rfl A5.sm, fun vs W p s _ hp hv => acc_cat (m := 6) A5 s hp hv (all_ok (by decide +kernel)) rfl (by decide) fun l6 Z6 A6 sZ6 nl6 => ?_⟩
  refine ⟨_, rfl, kn _ _ rfl rfl A6.sm, fun vs W p s _ hp hv => acc_cat (m := 6) A6 s hp hv (all_ok (by decide +kernel)) rfl (by decide) fun l7 Z7 A7 sZ7 nl7 => ?_⟩
  have nlf : l7 ≠ f := (hF2.same A6.sm).ne nl7
  have hFY := hF2.same A7.sm
  have b0 : But f H2 Z7 := but_same A7.sm
  have lY := LS2.same A7.sm
  have hoY : Df K S Z7 vo oneD := ho2.same A7.sm
  have hnY : Df K S Z7 vn noD := hn2.same A7.sm
  have hdZ : Df K S Z7 v d := hd2.same A7.sm
  have hdY := hdZ
  have AZ : Acc K S d Z7 Z7 l7 49 := ⟨Same.refl _, A7.at_⟩
  have nlzf := nlf
  generalize Z7 = Y at hFY b0 lY hoY hnY hdZ hdY AZ
  generalize l7 = lz at AZ nlzf
  refine ⟨_, rfl, _, _, _, _, isTu d, rfl, .ty "tuple", dp_ty hdZ.dp, kit_tu d, _, rfl, ?_⟩
  apply joinS (C := fun σ U => ∃ (l : Addr) (n : Nat), σ = [some (.ref f), some v, some vo, some vn, some (.ref l)] ∧ Acc K S d Y U l n ∧ l ≠ f ∧ 0 < n ∧ n ≤ 1000)
  · intro rest
    cases ht : isTu d with
    | false => exact iteF (rest _ _ ⟨lz, _, rfl, AZ, nlzf, by decide, by decide⟩)
    | true =>
      obtain ⟨ds, ed⟩ : ∃ ds, d = .tuple ds := by
        cases d with
        | tuple ds => exact ⟨ds, rfl⟩
        | _ => cases ht
      have hats : ats (.tuple ds) = true := by rw [← ed]; exact hat
      have hlen : ds.length ≤ 900 := by
        have z := len_pszs ds
        rw [ed] at hsz
        have e : psz (.tuple ds) = 1 + pszs ds := rfl
        omega
      have knT : ∀ (σ : L2.St) (U : Hp), σ[1]? = some (some v) → σ[2]? = some (some vo) → σ[3]? = some (some vn) → Same Y U → Kn K S [(2, oneD), (3, noD), (1, .tuple ds)] σ U := fun σ U e1 e2 e3 s => ⟨lY.same s, fun r hr => by
        rcases List.mem_cons.mp hr with rfl | hr
        · exact ⟨vo, e2, hoY.same s⟩
        rcases List.mem_cons.mp hr with rfl | hr
        · exact ⟨vn, e3, hnY.same s⟩
        · rw [List.mem_singleton.mp hr]
          exact ⟨v, e1, by rw [← ed]; exact hdY.same s⟩⟩
      refine iteT ⟨_, rfl, ⟨ds, hlen⟩, knT _ _ rfl rfl rfl AZ.sm, fun vs W p s _ hp hv => acc_cat (m := 5) AZ s hp hv (by rw [ed]; exact (all_nx (nx_list hats) (all_nx (nx_cut hats) (all_nx (nx_app hats (by decide +kernel)) (all_nx (nx_app hats (by decide +kernel)) (all_nx (nx_w hats (by decide +kernel)) nil_nx)))))) rfl (by decide) fun la Za Aa sa na => ?_⟩
      refine ⟨_, rfl, ⟨ds, hlen⟩, knT _ _ rfl rfl rfl Aa.sm, fun vs W p s _ hp hv => acc_cat (m := 2) Aa s hp hv (by rw [ed]; exact (all_nx (nx_w hats (by decide +kernel)) (all_nx (nx_1 hats) nil_nx))) rfl (by decide) fun lb Zb Ab sb nb => ?_⟩
      exact rest _ _ ⟨lb, _, rfl, Ab, (hFY.same Aa.sm).ne nb, by decide, by decide⟩
  · rintro σ U ⟨l, n, rfl, AU, nl, n0, n1⟩
    have hFU := hFY.same AU.sm
    obtain ⟨xs, hl, lx, its⟩ := AU.at_
    refine ⟨_, rfl, _, rfl, f, l, xs, rfl, nl, .inl (.inl hl), by omega, by omega, hFU, fun x hx H' b hF' => ?_⟩
    obtain ⟨e, he, g⟩ := its x hx
    exact q x e H' (he.but fS b) g (((b2.trans b0).trans (but_same AU.sm)).trans b) hF'
def spBent (K : PySem.W.Frag) (k : Nat) : Sp := fun vs H Q _ => ∃ (f : Addr) (S : List Addr) (v : V) (d : PyData), vs = [.ref f, v] ∧ f ∈ S ∧ LS H S ∧ Df K S H v d ∧ ats d = true ∧ psz d ≤ 900 ∧ d.depth + 1 ≤ k ∧ FeedAt H f ∧ ∀ v' e H', Df K S H' v' e → Nx d e → But f H H' → FeedAt H' f → Q v' H'
theorem seqT_but {f a : Addr} {H H' : Hp} {xs : List V} (h : SqT K H a xs) (hF : FeedAt H f) (b : But f H H') : SqT K H' a xs := by
  obtain ⟨x, y, e, _⟩ := hF
  rcases h with (h | ⟨o, h⟩) | h
  · exact .inl (.inl (b _ _ (fun z => by rw [z, e] at h; cases h) h))
  · exact .inl (.inr ⟨o, b _ _ (fun z => by rw [z, e] at h; cases h) h⟩)
  · exact .inr h
theorem ok_bent {f fo ft fp : Addr} {fd do_ dt dp : FuncData} {k : Nat} (F : Fun K "_law_bent" "_law_bent" sBent f fd) (D : Draw P w K mg base ft fp dt dp) (O : FnOk P w K mg base CX0 3 fo do_ ["feed", "thing"] (spOdd K)) (bO : Binds K do_ ["feed", "thing"] []) (kO : PySem.W.keepIn K (.ref fo) = true) (mO : mg "_law_odd" = some (.ref fo))
    (zIs : mg "isinstance" = none) (zTuple : mg "tuple" = none) (zLen : mg "len" = none) (Sf : FnOk P w K mg base CX0 (3 + k) f fd ["feed", "thing"] (spBent K k)) (bS : Binds K fd ["feed", "thing"] []) (mS : mg "_law_bent" = some (.ref f)) : FnOk P w K mg base CX0 (3 + k + 1) f fd ["feed", "thing"] (spBent K (k + 1)) := by
  refine F.ok scBent (fun vs H Q E h => ?_) (fun cdv A outer s H vs Q E hr h => ?_)
  · obtain ⟨f, S, v, d, rfl, _⟩ := h
    rfl
  obtain ⟨f, S, v, d, rfl, fS, lS, hd, hat, hsz, hk, hF, q⟩ := h
  have h1 : Room 1 _ := hr.mono (by omega)
  have h3 : Room 3 _ := hr.mono (by omega)
  refine ⟨_, pss_cons (ps_if (PW.pt (pw_or (pt_not (pt_val (pe_callB call_isi (by rfl) zIs (by decide +kernel) (pa_cons (pv 1) (pa_cons (pe_bltn (v := .ty "tuple") (by rfl) zTuple (by decide +kernel) rfl) pa_nil))))) (pw_or (pt_cmpR op_lt (pe_callB call_len_seq (by rfl) zLen PySem.boot_len (pa_cons (pv 1) pa_nil)) pe_int (nomark _)) (pw_or1 (pt_cmpR op_eq (pe_call D.T h1 (by rfl) D.mT D.kT D.bT .nil pass0 (pa_cons (pv 0) (pa_cons pe_int pa_nil))) pe_int (nomark _))))))
      (pss_one (ps_ret (pe_call O h3 (by rfl) mO kO bO .nil pass0 (pa_cons (pv 0) (pa_cons (pv 1) pa_nil))))) pss_nil)
    (pss_cons (ps_set (i := 2) scBent.nd rfl (.inl rfl) (pe_op op_add pe_int (pe_call D.T h1 (by rfl) D.mT D.kT D.bT .nil pass0 (pa_cons (pv 0) (pa_cons (pe_op op_sub (pe_callB call_len_seq (by rfl) zLen PySem.boot_len (pa_cons (pv 1) pa_nil)) pe_int) pa_nil)))))
    (pss_cons (ps_if (PW.pt (pw_and (pt_not (pt_val (pe_callB call_isi (by rfl) zIs (by decide +kernel) (pa_cons (pe_ix ix_tup (pv 1) (pv 2) (fun _ _ => rfl)) (pa_cons (pe_bltn (v := .ty "tuple") (by rfl) zTuple (by decide +kernel) rfl) pa_nil))))) (pw_and1 (pt_cmpR op_eq (pe_call D.T h1 (by rfl) D.mT D.kT D.bT .nil pass0 (pa_cons (pv 0) (pa_cons pe_int pa_nil))) pe_int (nomark _)))))
      (pss_one (ps_ret (pe_call O h3 (by rfl) mO kO bO .nil pass0 (pa_cons (pv 0) (pa_cons (pv 1) pa_nil))))) pss_nil)
    (pss_one (ps_ret (pe_op op_catA (pe_op op_catA (pe_slice sl_tupA (pv 1) po_none (po_some (pv 2))) (pe_tup (pa_cons (pe_call Sf hr (by rfl) mS F.kp bS .nil pass0 (pa_cons (pv 0) (pa_cons (pe_ix ix_tup (pv 1) (pv 2) (fun _ _ => rfl)) pa_nil))) pa_nil)))
        (pe_slice sl_tupA (pv 1) (po_some (pe_op op_add (pv 2) pe_int)) po_none)))))), ?_⟩
  have oddQ : ∀ X : Hp, But f H X → ∀ v' e H', Df K S H' v' e → Nx d e → But f X H' → FeedAt H' f → Q v' H' := fun X bX v' e H' h1 h2 h3 h4 => q v' e H' h1 h2 (bX.trans h3) h4
  refine ⟨_, rfl, _, _, _, _, isTu d, rfl, .ty "tuple", dp_ty hd.dp, kit_tu d, _, rfl, ?_⟩
  cases ht : isTu d with
  | false => exact iteT ⟨_, rfl, _, rfl, f, S, v, d, rfl, fS, lS, hd, hat, hsz, hF, oddQ H (But.refl f H)⟩
  | true =>
  obtain ⟨ds, ed⟩ : ∃ ds, d = .tuple ds := by
    cases d with
    | tuple ds => exact ⟨ds, rfl⟩
    | _ => cases ht
  have hd' : Df K S H v (.tuple ds) := by rw [← ed]; exact hd
  obtain ⟨a, xs, ev, hs, hds⟩ := hd'.tup
  have hats : ats (.tuple ds) = true := by rw [← ed]; exact hat
  have hlen : ds.length ≤ 900 := by
    have z := len_pszs ds
    rw [ed] at hsz
    have e : psz (.tuple ds) = 1 + pszs ds := rfl
    omega
  have lx := dps_len hds
  refine iteF ⟨_, rfl, a, xs, by rw [ev], .inr hs, _, _, rfl, rfl, _, rfl, ?_⟩
  refine ite2 (fun c => ?_) (fun c => ?_)
  · exact iteT ⟨_, rfl, _, rfl, f, S, v, d, rfl, fS, lS, hd, hat, hsz, hF, oddQ H (But.refl f H)⟩
  have len2 : 2 ≤ xs.length := by
    have z : ¬ (((xs.length : Nat) : Int) < 2) := fun z => c (decide_eq_true z)
    omega
  refine ⟨_, rfl, f, 3, rfl, by decide, by decide, hF, fun r H1 _ _ b1 hF1 => ⟨rfl, _, rfl, ?_⟩⟩
  have l1 := lS.but b1 hF1
  have hd1 := hd.but fS b1
  refine ite2 (fun c2 => ?_) (fun c2 => ?_)
  · exact ⟨_, rfl, _, rfl, f, S, v, d, rfl, fS, l1, hd1, hat, hsz, hF1, oddQ H1 b1⟩
  have hs1 := seqT_but hs hF b1
  refine ⟨_, rfl, _, rfl, a, xs, by rw [ev], .inr hs1, _, _, rfl, rfl, f, _, rfl, (by show (0 : Int) < ((xs.length : Nat) : Int) - 1; omega), few1000 (by show (0 : Int) < ((xs.length : Nat) : Int) - 1; omega) (by show ((xs.length : Nat) : Int) - 1 ≤ 1000; omega), hF1, fun kI H2 k0 k1 b2 hF2 => ⟨_, _, rfl, rfl, ?_⟩⟩
  have bb := b1.trans b2
  obtain ⟨kz, rfl⟩ := Int.eq_ofNat_of_zero_le k0
  obtain ⟨kn, ekn⟩ : ∃ kn : Nat, kn = kz + 1 := ⟨_, rfl⟩
  have ek : (1 + (kz : Int)) = (kn : Int) := by omega
  have lt : kn < xs.length := by
    have k1' : (kz : Int) < ((xs.length : Nat) : Int) - 1 := k1
    omega
  have gx : xs[kn]? = some xs[kn] := List.getElem?_eq_getElem lt
  obtain ⟨dx, edx, hdx⟩ := dps_get hds gx
  have hs2 := seqT_but hs1 hF1 b2
  have hdx2 : Df K S H2 xs[kn] dx := Df.but fS bb hdx
  have mem := List.mem_of_getElem? edx
  apply join (C := fun X => But f H X ∧ FeedAt X f)
  · intro rest
    refine ⟨_, rfl, _, rfl, a, xs, 1 + (kz : Int), _, ev, rfl, hs2, (by rw [ek]; exact atI_nat gx), _, _, _, _, isTu dx, rfl, .ty "tuple", dp_ty hdx2.dp, kit_tu dx, _, rfl, ?_⟩
    cases htx : isTu dx with
    | true => exact iteF (iteF (rest H2 ⟨bb, hF2⟩))
    | false =>
      refine iteT ⟨_, rfl, f, 2, rfl, by decide, by decide, hF2, fun r2 H3 _ _ b3 hF3 => ⟨rfl, _, rfl, ?_⟩⟩
      refine ite2 (fun c3 => ?_) (fun c3 => rest H3 ⟨bb.trans b3, hF3⟩)
      exact ⟨_, rfl, _, rfl, f, S, v, d, rfl, fS, lS.but (bb.trans b3) hF3, hd.but fS (bb.trans b3), hat, hsz, hF3, oddQ H3 (bb.trans b3)⟩
  · rintro X ⟨bX, hFX⟩
    have hsX := seqT_but hs hF bX
    refine ⟨_, rfl, _, rfl, 1 + (kz : Int), rfl, sl_out ev hsX fun c1 X1 s1 t1 => ?_⟩
    have hX1 := hFX.same s1
    have bX1 : But f H X1 := bX.trans (but_same s1)
    rw [ek, cut_to] at t1
    refine ⟨_, rfl, _, rfl, _, rfl, a, xs, 1 + (kz : Int), _, ev, rfl, seqT_but hs hF bX1, (by rw [ek]; exact atI_nat gx), f, S, _, dx, rfl, fS, lS.but bX1 hX1, Df.but fS bX1 hdx, atss_mem (ds := ds) hats mem, ?_, ?_, hX1, fun v' e H4 he n b4 hF4 => ?_⟩
    · have z := pszs_mem mem
      rw [ed] at hsz
      have e : psz (.tuple ds) = 1 + pszs ds := rfl
      omega
    · have z := dep_mem mem
      rw [ed] at hk
      have e : (PyData.tuple ds).depth = PyData.depthAll ds + 1 := rfl
      omega
    refine ⟨(by show 1 ≤ sizeLine; decide), fun tq nq => ?_⟩
    have s5 := same_new (o := .tup [v']) nq
    have hD5 := hF4.same s5
    have bX5 : But f H (upd H4 tq (.tup [v'])) := (bX1.trans b4).trans (but_same s5)
    have t5 : SqT K (upd H4 tq (.tup [v'])) c1 (xs.take kn) := sqT_up s5 (seqT_but t1 hX1 b4)
    have e5 : SqT K (upd H4 tq (.tup [v'])) tq [v'] := .inl (.inl upd_same)
    have d5 := he.same s5
    generalize upd H4 tq (.tup [v']) = X5 at s5 hD5 bX5 t5 e5 d5
    refine cat_out t5 e5 (small_len (by rw [List.length_take, List.length_singleton]; omega)) fun c2 X6 s6 t6 => ?_
    refine ⟨_, rfl, _, rfl, _, _, rfl, rfl, _, rfl, ?_⟩
    dsimp only [tNoPart]
    refine sl_out (lo := some (1 + (kz : Int) + 1)) (hi := none) ev (seqT_but hs hF (bX5.trans (but_same s6))) fun c3 X7 s7 t7 => ?_
    have t7 : SqT K X7 c3 (cutV xs (some (1 + (kz : Int) + 1)) none) := t7
    rw [show (1 + (kz : Int) + 1) = ((kn + 1 : Nat) : Int) by omega, cut_from] at t7
    refine cat_out (sqT_up s7 t6) t7 (small_len (by rw [List.length_append, List.length_take, List.length_drop, List.length_singleton]; omega)) fun c4 X8 s8 t8 => ?_
    have s58 := s6.trans (s7.trans s8)
    have hD8 := hD5.same s58
    have b8 := bX5.trans (but_same s58)
    refine q _ (.tuple ((ds.take kn ++ [e]) ++ ds.drop (kn + 1))) _ (df_tup (lS.but b8 hD8) t8 (dps_app (dps_app (dps_take kn (DfAll.but fS b8 hds)) (.cons (d5.same s58) .nil)) (dps_drop (kn + 1) (DfAll.but fS b8 hds)))) ?_ b8 hD8
    rw [ed]
    exact nx_put hats edx n
theorem ok_bents {f fo ft fp : Addr} {fd do_ dt dp : FuncData} (F : Fun K "_law_bent" "_law_bent" sBent f fd) (D : Draw P w K mg base ft fp dt dp) (O : FnOk P w K mg base CX0 3 fo do_ ["feed", "thing"] (spOdd K)) (bO : Binds K do_ ["feed", "thing"] []) (kO : PySem.W.keepIn K (.ref fo) = true) (mO : mg "_law_odd" = some (.ref fo))
    (zIs : mg "isinstance" = none) (zTuple : mg "tuple" = none) (zLen : mg "len" = none) (bS : Binds K fd ["feed", "thing"] []) (mS : mg "_law_bent" = some (.ref f)) : ∀ k : Nat, FnOk P w K mg base CX0 (3 + k) f fd ["feed", "thing"] (spBent K k)
  | 0 => no_calls fun vs H Q E h => by
    obtain ⟨f, S, v, d, _, _, _, _, _, _, hk, _⟩ := h
    omega
  | k + 1 => ok_bent F D O bO kO mO zIs zTuple zLen (ok_bents F D O bO kO mO zIs zTuple zLen bS mS k) bS mS
end
end Kf
set_option Elab.async false
set_option linter.all false
set_option maxRecDepth 100000
set_option maxHeartbeats 3900000
/-! A lambda with parameters and captured names, handed as the second of two to a def, called there. Its frame is begun as that of a def within a def. -/
namespace LmY
open PySem PySem.Spec PyProof.Rows L2 LamX NdefX
/-- the lambda as a def within the def of X, whose code object is k -/
abbrev lamF (X : Cx) (ar : Arguments) (sc : Scope) (k : Addr) : NF := ⟨"<lambda>", X.env.qual ++ "<lambda>", ar, [], sc, cloFrom X.env.cells sc.names [], k⟩
/-- where its body runs: its names are N -/
abbrev lamX (X : Cx) (N : List Str) (ar : Arguments) (sc : Scope) (fo k : Addr) (A : Around) (outer : List Env) (sh : Shared) (hp : Hp) : Cx := ncx L2.CX0 X.prog X.w X.K X.mg X.base N (lamF X ar sc k) fo A outer sh hp L2.E0
/-- where the def runs that got it, entered from X's frame -/
abbrev gotX (X : Cx) (Ng : List Str) (x : Str) (sg : Scope) (g : Addr) (cg : Value) (sh : Shared) (hp : Hp) : Cx := (cxOf L2.CX0 X.prog X.w X.K X.mg X.base Ng x sg g cg X.A X.stack sh hp L2.E0).nox
/-- cells that no def of the text writes hold what they held -/
theorem cells_stay {cl : List (Str × Addr)} {fr : List Str} {ws : List (Option V)} {g g2 : Heap} {hp hp2 : Hp} {fs : List Addr} (un : Un fs [] hp hp2 g g2) (cs : CellsAt cl fr ws g hp) : CellsAt cl fr ws g2 hp2 := by
  have still : ∀ a, hp a = none → ∀ val, g.IsCell a val → g2.IsCell a val := fun a off val ⟨ob, at1, dat⟩ => by
    obtain ⟨_, at2⟩ := un.any at1 off List.not_mem_nil
    exact ⟨_, at2, dat⟩
  refine ⟨cs.len, fun nm a e => ?_, cs.inj, fun j nm e => ?_⟩
  · obtain ⟨off, val, cell⟩ := cs.all nm a e
    obtain ⟨ob, at1, _⟩ := id cell
    exact ⟨un.free a ob at1 off List.not_mem_nil, val, still a off val cell⟩
  · obtain ⟨a, e1, has⟩ := cs.has j nm e
    refine ⟨a, e1, fun z ez => ?_⟩
    obtain ⟨u, rz, cell⟩ := has z ez
    exact ⟨u, rz, still a (cs.all nm a e1).1 _ cell⟩
section
variable {X : Cx} {pins : List (Addr × Obj)} {σ : L2.St} {H : Hp} {s : Shared}
/-- a call that ends without an exception, told to its caller -/
theorem land {fo : Addr} {us : List Value} {Q : VK} (I : Inv X pins σ H s) (run : codeAny (model X.prog X.w) X.A (.call (.ref fo) ⟨us, []⟩) (CR L2.CX0 X.stack X.prog X.w H s Q L2.E0) s) :
    wpAny (model X.prog X.w) X.A (call (.ref fo) us) (EP X pins σ Q) X.xe s :=
  wpAny_call (codeAny_mono run fun res s2 told => match res, told with
    | .ok (.ret _), told => I.after told
    | .ok .next, told => told.elim
    | .ok .brk, told => told.elim
    | .ok .cont, told => told.elim
    | .error _, told => (show False from told).elim)
/-- x(e, ..), in the def that got the lambda as x -/
theorem pe_lact {N ps fr Ng : List Str} {js : List Nat} {qg : Str} {sg : Scope} {g fo k : Addr} {cg pm ctv : Value} {ar : Arguments} {body : Expr} {sc : Scope} {m i : Nat} {a : Str} {tb : TE} {p1 p2 : Pos} {e : Expr} {es : List Expr} {t : TA}
    (I : Inv X pins σ H s) (S : NScope N ps fr sc) (cp : Caps X (cloFrom X.env.cells sc.names []) fr js)
    (at_ : s.heap.get? fo = some (PySem.W.kla_obj "<lambda>" (X.env.qual ++ "<lambda>") ar body sc (cloFrom X.env.cells sc.names []) pm k ctv)) (off : H fo = none) (noF : fo ∉ frs X.stack)
    (bind : ∀ us : List Value, us.length = ps.length → bindArgs (PySem.W.kla_fn "<lambda>" (X.env.qual ++ "<lambda>") ar body sc (cloFrom X.env.cells sc.names []) pm (.ref k) ctv) ⟨us, []⟩ = pure (ps.zip us))
    (room : Room (m + 1) (X.A.deeper (envOfC qg sg s.heap.objs.size g cg)))
    (inner : ∀ (A : Around) (outer : List Env) (sh : Shared) (hp : Hp), Room m (A.deeper (envF (lamF X ar sc k) fo sh.heap.objs.size)) → PE (lamX X N ar sc fo k A outer sh hp) body tb)
    (hN : Ng[i]? = some a) (hv : Vis sg a) (pa : PA (gotX X Ng qg sg g cg s H) (e :: es) t)
    (h1 : (a == ("__debug__" : Str)) = false := by decide) (h2 : (a == ("__classdict__" : Str)) = false := by decide)
    (h3 : starEach (e :: es) (envOfC qg sg s.heap.objs.size g cg) = (false, eval e (envOfC qg sg s.heap.objs.size g cg)) :: starEach es (envOfC qg sg s.heap.objs.size g cg) := by rfl)
    (h4 : (backTo p2 (starEach es (envOfC qg sg s.heap.objs.size g cg))).any (·.1) = false := by rfl) :
    PE (gotX X Ng qg sg g cg s H) (.Call (.Name a p1) (e :: es) [] p2)
      (fun σZ HZ Q => σZ[i]? = some (some (.ref fo)) ∧ t σZ HZ fun vs H1 => vs.length = ps.length ∧ H1 k = some (CodeO k (X.env.qual ++ "<lambda>")) ∧ tb (startF N vs (js.map (slotAt σ))) H1 Q) := by
  refine ⟨fun pinsZ sZ σZ HZ Q IZ ⟨slot, rest⟩ => ?_⟩
  have same : ∀ {pn : List (Addr × Obj)} {τ : L2.St} {hp : Hp} {sh : Shared}, Inv (gotX X Ng qg sg g cg s H) pn τ hp sh → sh.heap.get? fo = some (PySem.W.kla_obj "<lambda>" (X.env.qual ++ "<lambda>") ar body sc (cloFrom X.env.cells sc.names []) pm k ctv) :=
    fun J => J.base.keep fo _ at_ off noF List.not_mem_nil
  have name := (pe_var (X := gotX X Ng qg sg g cg s H) (pos := p1) (i := i) hN hv h1 h2).run pinsZ sZ σZ HZ (fun val hp => val = .ref fo ∧ hp = HZ) IZ ⟨.ref fo, slot, rfl, rfl⟩
  refine wpAny_Call_Name_kw (thn name fun val s1 ⟨_, _, I1, rel, ev, eh⟩ => ?_)
  subst ev eh
  cases (show val = Value.ref fo from rel)
  refine PySem.W.callWith_F (first := []) ⟨_, _, _, _, same I1⟩ (thn (pa.run p2 pinsZ s1 σZ _ _ I1 rest) fun us s2 ⟨vs, H2, I2, rv, len, code, ht⟩ => ⟨⟨_, _, _, _, same I2⟩, land (us := us) I2 ?_⟩) h3 h4
  obtain ⟨⟨oc, fields, tq, o1, o2, o3⟩, _, _⟩ := I2.hok k _ code
  refine PySem.W.kla_callFunE room.depth (same I2) rfl S.co S.gen rfl ⟨k, oc, fields, tq, rfl, o1, o2, o3⟩ ?_
  rw [bind us (rv.length.symm.trans len)]
  refine wpAny_pure (wpAny_newFunctionEnv (fun y hy => S.nocell y hy) (fun y hy => S.par y.1 (List.of_mem_zip hy).1) (fun g1 ns1 more => ⟨I2.nolimit.fresh _ more, ?_⟩) S.kind)
  have grown : ∀ b ob, s2.heap.get? b = some ob → g1.get? b = some ob := fun b ob eb => more.extBut b ob (Nat.ne_of_lt (Heap.lt_size eb)) (Heap.get?_push_of_some _ eb)
  have J := inv_startN (CX := L2.CX0) (E := L2.E0) (tk := s2.toks + (ps.zip us).length) (F := lamF X ar sc k) (f := fo) S room.hd I2.env0 len rv (cells_stay I2.base (cells_of I cp)) ns1 grown
  refine PySem.W.kla_codeExpr (wpAny_mono ((inner _ _ s2 H2 (room.deeper _)).run [] _ _ H2 Q J ht) (fun _ s3 ⟨w3, H3, J3, r3, q3⟩ => ?_) fun _ _ bad => bad)
  exact ⟨w3, H3, J3.os, J3.bare, J3.base, J3.hok, r3, q3⟩
end
/-- what the def that got the lambda makes of its calls: TT -/
def Gives2 (X : Cx) (Ng : List Str) (x : Str) (sg : Scope) (g : Addr) (cg : Value) (bg : List Stmt) (a : Str) (q : Str) (ps : List Str) (m : Nat) (TT : (List V → Hp → VK → Prop) → V → Hp → VK → Prop) : Prop :=
  ∀ (fo k : Addr) (s : Shared) (H : Hp) (v : V) (Q : VK) (tl : List V → Hp → VK → Prop),
    (∀ (p1 p2 : Pos) (e : Expr) (es : List Expr) (t : TA), PA (gotX X Ng x sg g cg s H) (e :: es) t →
      starEach (e :: es) (envOfC x sg s.heap.objs.size g cg) = (false, eval e (envOfC x sg s.heap.objs.size g cg)) :: starEach es (envOfC x sg s.heap.objs.size g cg) → (backTo p2 (starEach es (envOfC x sg s.heap.objs.size g cg))).any (·.1) = false →
      PE (gotX X Ng x sg g cg s H) (.Call (.Name a p1) (e :: es) [] p2) (fun σZ HZ Q => σZ[1]? = some (some (.ref fo)) ∧ t σZ HZ fun vs H1 => vs.length = ps.length ∧ H1 k = some (CodeO k q) ∧ tl vs H1 Q)) →
    Room (m + 1) (X.A.deeper (envOfC x sg s.heap.objs.size g cg)) → H k = some (CodeO k q) → TT tl v H Q →
    ∃ t, PSs (gotX X Ng x sg g cg s H) bg t ∧ t { nx := fun _ H' => Q .non H', rt := Q } (L2.start Ng [v, .ref fo]) H
def tLam2 (T : List (Addr × Str)) (N : List Str) (js : List Nat) (TT : (List V → Hp → VK → Prop) → V → Hp → VK → Prop) (te : TE) (t : TE) : TE := fun σ H Q => te σ H fun v H0 => Tabs T H0 ∧ ∀ H1, ExtN H0 H1 → Tabs T H1 → TT (fun vs H' Q' => t (startF N vs (js.map (slotAt σ))) H' Q') v H1 Q
section
variable {X : Cx}
/-- x(e, lambda ..: body) -/
theorem pe_lamcall2 {T : List (Addr × Str)} {TT : (List V → Hp → VK → Prop) → V → Hp → VK → Prop} {x a0 a : Str} {g c tab : Addr} {m : Nat} {pg : Arguments} {bg : List Stmt} {sg : Scope} {dV kV doc pm cdv ct oc : Value} {an od : Option Addr} {osl : Array (Option Value)} {N Ng ps fr : List Str} {js : List Nat}
    {ar : Arguments} {body e : Expr} {sc : Scope} {te t : TE} {p0 p1 p2 : Pos} (gx : Gl X x) (mx : X.mg x = some (.ref g)) (kx : PySem.W.keepIn X.K (.ref g) = true)
    (look : X.K.lookup g = some ⟨oc, od, .func (PySem.W.fnOf x x pg bg sg dV kV doc pm an cdv ct), osl⟩) (code : PySem.W.codeIn X.K cdv x = true) (bx : L2.Binds X.K (PySem.W.fnOf x x pg bg sg dV kV doc pm an cdv ct) [a0, a] []) (Sg : FnScope Ng [a0, a] sg) (second : Ng[1]? = some a) (seen : Vis sg a)
    (gives : Gives2 X Ng x sg g cdv bg a (X.env.qual ++ "<lambda>") ps m TT) (pe : PE X e te)
    (own : TabB X.base X.mg c tab) (mine : X.env.code = .ref c) (inT : (tab, X.env.qual ++ "<lambda>") ∈ T) (sole : ∀ p ∈ T, p.1 = tab → p.2 = X.env.qual ++ "<lambda>") (room : Room (m + 2) X.A)
    (S : NScope N ps fr sc) (held : ndefB X.env.scope sc fr = true) (slots : js.map (fun j => X.N[j]?) = fr.map some) (plain : defaultsOf ar X.env = ([], []))
    (bind : ∀ (q : Str) (cl : List (Str × Addr)) (pm cv ctv : Value) (us : List Value), us.length = ps.length → bindArgs (PySem.W.kla_fn "<lambda>" q ar body sc cl pm cv ctv) ⟨us, []⟩ = pure (ps.zip us))
    (inner : ∀ (A : Around) (outer : List Env) (sh : Shared) (hp : Hp) (fo k : Addr), Room m (A.deeper (envF (lamF X ar sc k) fo sh.heap.objs.size)) → PE (lamX X N ar sc fo k A outer sh hp) body t)
    (h0 : (x == ("__debug__" : Str)) = false := by decide) (h1 : (a == ("__debug__" : Str)) = false := by decide) (h2 : (a == ("__classdict__" : Str)) = false := by decide)
    (h3 : starEach (e :: [.Lambda ar body sc p1]) X.env = (false, eval e X.env) :: starEach [.Lambda ar body sc p1] X.env := by rfl) :
    PE X (.Call (.Name x p0) [e, .Lambda ar body sc p1] [] p2) (tLam2 T N js TT te t) := by
  refine ⟨fun pins s σ H Q I reading => wpAny_Call_Name_kw (ld_glob I gx mx (PySem.W.callWith_K (h₀ := X.base) I.ok.mod.kin kx ?_ h3 (by rfl)) h0)⟩
  rw [h3]
  show wpAny _ _ (spliced ((false, eval e X.env) :: backTo p2 (starEach [.Lambda ar body sc p1] X.env))) _ _ s
  refine Calls.spliced_cons (thn (pe.run pins s σ H _ I reading) fun u s0 ⟨v, H0, I0, r0, tabs0, later⟩ => ?_)
  show wpAny _ _ (spliced ((false, eval (.Lambda ar body sc p1) X.env) :: backTo p2 (starEach [] X.env))) _ _ s0
  refine Calls.spliced_cons (lam_make2 I0 own mine inT sole tabs0 plain (fun y hy e => (ndef_free held y hy e).elim (fun z => I0.ok.has _ (.inl z)) fun z => I0.ok.has _ (.inr z)) fun fo k pmF ctF H1 s1 I1 grown tabs1 at_ off noF codeK => Calls.spliced_nil ⟨I1.kIn, land I1 ?_⟩)
  refine run_ofS (N := Ng) (ps := [a0, a]) (us := [u, .ref fo]) (vs := [v, .ref fo]) look code Sg room I1.env0 (bx s1 [u, .ref fo] I1.kIn rfl) (.cons r0 (.cons rfl .nil)) rfl fun room1 => ?_
  obtain ⟨ts, run, told⟩ := gives fo k s1 H1 v Q _ (fun q1 q2 e1 es1 t1 pa he hp => pe_lact (i := 1) (js := js) I1 S (Caps.made I1.ok (ndef_free held) (ndef_fr held) slots) at_ off noF (fun us hl => bind _ _ _ _ _ us hl) room1 (fun A outer sh hp2 r2 => inner A outer sh hp2 fo k r2) second seen pa h1 h2 he hp) room1 codeK (later H1 grown tabs1)
  exact ⟨ts, run.nox, told⟩
end
end LmY
set_option Elab.async false
set_option linter.all false
set_option maxRecDepth 100000
set_option maxHeartbeats 3900000
/-! The end of a law whose defs want to know that no repr is under way around them: its def is run from the caller alone. -/
namespace Gd
open PySem PySem.Spec PyProof.Rows L2 LamX LmY
section
variable {P : Program} {w : World} {K : PySem.W.Frag} {mg mb : Str → Option Value} {k : Nat} {fa scr : Addr} {cs : List (Addr × Addr)} {st : Shared} {vs : List Value} {ns : List Int}
/-- what stands in the heap ahead of the law's call -/
structure Ahead (K : PySem.W.Frag) (mg mb : Str → Option Value) (cs : List (Addr × Addr)) (scr : Addr) (vs : List Value) (st : Shared) : Prop where
  kin : K.In st.heap
  glob : st.heap.Ns mainGlobals mg
  blt : st.heap.Ns builtinsNs mb
  boot : ∀ x : Str, x ≠ "__name__" → mb x = bootBuiltins x
  lim : st.heap.NoLimit
  gens : st.gens = #[]
  tabs : ∀ p ∈ cs, st.heap.get? p.2 = some { cls := .none, data := .fields #[] }
  offK : ∀ p ∈ cs, K.lookup p.2 = none
  codes : ∀ p ∈ cs, PySem.W.CodeHd st.heap p.1 p.2
  mod : ∃ (bm : Addr) (ob : Obj), mg "__builtins__" = some (.ref bm) ∧ bm ≠ builtinsNs ∧ st.heap.get? bm = some ob ∧ ob.cls = .type "module" ∧ ob.dict = some builtinsNs ∧ ob.data = .plain
  list : st.heap.get? scr = some { cls := .type "list", data := .seq vs.toArray }
/-- tracked are the script and the tables at most -/
structure Few (K : PySem.W.Frag) (cs : List (Addr × Addr)) (scr : Addr) (H : Hp) : Prop where
  only : ∀ b, H b ≠ none → b = scr ∨ ∃ p ∈ cs, p.2 = b
  notK : H scr ≠ none → K.lookup scr = none
theorem untracked (W : Ahead K mg mb cs scr vs st) {H : Hp} (F : Few K cs scr H) {b : Addr} {ob : Obj} (at_ : st.heap.get? b = some ob) (n1 : ∀ us m, ob.data ≠ .seq us m) (n2 : ob.data ≠ .fields #[]) : H b = none := by
  refine Decidable.byContradiction fun z => ?_
  rcases F.only b z with rfl | ⟨p, hp, rfl⟩
  · rw [W.list] at at_
    cases at_
    exact n1 _ _ rfl
  · rw [W.tabs p hp] at at_
    cases at_
    exact n2 rfl
theorem hid_ns (W : Ahead K mg mb cs scr vs st) {H : Hp} (F : Few K cs scr H) {b : Addr} {m : Str → Option Value} (h : st.heap.Ns b m) : (hidT st.heap H).Ns b m := by
  obtain ⟨ob, es, ep, at_, dat, rest⟩ := h
  refine ⟨ob, es, ep, hidT_get at_ (untracked W F at_ (fun us m z => ?_) fun z => ?_), dat, rest⟩ <;> (rw [dat] at z; cases z)
theorem hid_in (W : Ahead K mg mb cs scr vs st) {H : Hp} (F : Few K cs scr H) : K.In (hidT st.heap H) := fun b ob e => by
  refine hidT_get (W.kin b ob e) (Decidable.byContradiction fun z => ?_)
  rcases F.only b z with rfl | ⟨p, hp, rfl⟩
  · rw [F.notK z] at e
    cases e
  · rw [W.offK p hp] at e
    cases e
theorem hid_tab (W : Ahead K mg mb cs scr vs st) {H : Hp} (F : Few K cs scr H) : ∀ p ∈ cs, TabB (hidT st.heap H) mg p.1 p.2 := fun p hp => by
  have here := W.tabs p hp
  have plainG : ∀ {b : Addr} {ob : Obj}, st.heap.get? b = some ob → (∃ es ep, ob.data = .dict es ep) → b ≠ p.2 := fun e ⟨es, ep, d⟩ z => by
    rw [z, here] at e
    cases e
    cases d
  refine ⟨?_, ?_, ?_⟩
  · obtain ⟨ob, us, file, tf, flags, tg, inF, text, tt, e1, r1, r2, r3, rest⟩ := W.codes p hp
    refine ⟨ob, us, file, tf, flags, tg, inF, text, tt, hidT_get e1 (untracked W F e1 (fun us m z => ?_) fun z => ?_), r1, r2, r3, rest⟩
    · rw [r2] at z
      cases z
    · rw [r2] at z
      cases z
      simp at r3
  · obtain ⟨bm, ob, b1, b2, b3, b4, b5, b6⟩ := W.mod
    refine ⟨bm, ob, b1, b2, fun z => ?_, fun z => ?_, hidT_get b3 (untracked W F b3 (fun us m z => ?_) fun z => ?_), b4, b5, b6⟩
    · obtain ⟨og, es, ep, e, dat, _⟩ := W.glob
      rw [z, e] at b3
      cases b3
      rw [dat] at b6
      cases b6
    · rw [z, here] at b3
      cases b3
      cases b6
    · rw [b6] at z
      cases z
    · rw [b6] at z
      cases z
  · obtain ⟨og, es, ep, e, dat, _⟩ := W.glob
    exact plainG e ⟨es, ep, dat⟩
theorem hid_env (W : Ahead K mg mb cs scr vs st) {H : Hp} (F : Few K cs scr H) (hok : HOk P w H st.heap) : Env0 P w K mg (hidT st.heap H) callerA [] st H :=
  ⟨rfl, ⟨hid_in W F, hid_ns W F W.glob, ⟨mb, hid_ns W F W.blt, W.boot⟩, let ⟨mc, c1, c2⟩ := W.lim; ⟨mc, hid_ns W F c1, c2⟩⟩, fun b ob e => of_hidT e, Nat.le_of_eq (hidT_size _ _), trivial, fun b hb => (List.not_mem_nil (show b ∈ ([] : List Addr) from hb)).elim, hok, .of_eq W.gens⟩
/-- what is told of the heap behind the call -/
theorem behind (W : Ahead K mg mb cs scr vs st) {H : Hp} (F : Few K cs scr H) (hok : HOk P w H st.heap) (tb : ∀ p ∈ cs, H p.2 = some (.tbl #[])) (fz : H scr = none ∨ ∃ ob xs, H scr = some (.frz ob (.lst xs))) {r : Result} {s' : Shared}
    (told : CR L2.CX0 [] P w H st (fun v _ => v = .bl true) L2.E0 r s') : r = .ok (.ret (.bool true)) ∧ OldK st.heap s'.heap ∧ s'.os = st.os ∧ AllBare s'.gens := by
  match r, told with
  | .error _, told => exact (show False from told).elim
  | .ok .next, told => exact (show False from told).elim
  | .ok .brk, told => exact (show False from told).elim
  | .ok .cont, told => exact (show False from told).elim
  | .ok (.ret u), told =>
    obtain ⟨v, H2, os, bare, un, hok2, rel, isT⟩ := told
    have isT : v = .bl true := isT
    subst isT
    obtain rfl : u = Value.bool true := rel
    have noE : ∀ b : Addr, b ∉ ([] : List Addr) := fun _ => List.not_mem_nil
    have grown : ∀ p ∈ cs, ∃ more : Array Value, s'.heap.get? p.2 = some { cls := .none, data := .fields more } := fun p hp => by
      obtain ⟨more, e⟩ := un.tbls p.2 #[] (tb p hp)
      exact ⟨_, hok2 p.2 _ e⟩
    have stays : ∀ b ob, (¬ ∃ p ∈ cs, p.2 = b) → st.heap.get? b = some ob → s'.heap.get? b = some ob := fun b ob far e => by
      by_cases z : H b = none
      · exact un.keep b ob e z (noE b) (noE b)
      · rcases F.only b z with rfl | h
        · rcases fz with f | ⟨o2, xs, f⟩
          · exact absurd f z
          · obtain ⟨e1, _⟩ := hok _ _ f
            obtain ⟨e2, _⟩ := hok2 _ _ (un.frzs _ _ _ f)
            rw [e] at e1
            cases e1
            exact e2
        · exact absurd h far
    refine ⟨rfl, ⟨fun b ob e => ?_, fun b ob e => ?_⟩, os, bare⟩
    · by_cases h : ∃ p ∈ cs, p.2 = b
      · obtain ⟨p, hp, rfl⟩ := h
        obtain ⟨more, hm⟩ := grown p hp
        rw [W.tabs p hp] at e
        cases e
        exact .inr (.inl ⟨((W.codes p hp).tab (W.tabs p hp)).isCodeTable, rfl, #[], more, rfl, by rw [Array.empty_append]; exact hm⟩)
      · exact .inl (stays b ob h e)
    · by_cases h : ∃ p ∈ cs, p.2 = b
      · obtain ⟨p, hp, rfl⟩ := h
        obtain ⟨more, hm⟩ := grown p hp
        exact ⟨_, hm⟩
      · exact ⟨ob, stays b ob h e⟩
open Classical in
/-- THE END: the law's def by its run from the caller alone -/
theorem end_at (W : Ahead K mg mb cs scr vs st) (are : IntsAre vs ns) (short : ns.length ≤ sizeLine)
    (run : ∀ (base : Heap) (H : Hp), K.In base → base.Ns mainGlobals mg → (∀ p ∈ cs, TabB base mg p.1 p.2) → (∀ p ∈ cs, H p.2 = some (.tbl #[])) → SqL K H scr (ns.map V.int) → Env0 P w K mg base callerA [] st H →
      codeAny (model P w) callerA (.call (.ref fa) ⟨[.ref scr], []⟩) (CR L2.CX0 [] P w H st (fun v _ => v = .bl true) L2.E0) st) :
    codeAny (model P w) callerA (.call (.ref fa) ⟨[.ref scr], []⟩) (fun r s' => r = .ok (.ret (.bool true)) ∧ OldK st.heap s'.heap ∧ s'.os = st.os ∧ AllBare s'.gens) st := by
  have rv := vals_ints are
  have same := are.length
  have scrT : ¬ ∃ p ∈ cs, p.2 = scr := fun ⟨p, hp, e⟩ => by
    have z := W.tabs p hp
    rw [e, W.list] at z
    cases z
  have go : ∀ H : Hp, (∀ b, (∃ p ∈ cs, p.2 = b) → H b = some (.tbl #[])) → (∀ b, (¬ ∃ p ∈ cs, p.2 = b) → b ≠ scr → H b = none) → (H scr = none ∨ (K.lookup scr = none ∧ H scr = some (.frz { cls := .type "list", data := .seq vs.toArray } (.lst (ns.map V.int))))) → SqL K H scr (ns.map V.int) →
      codeAny (model P w) callerA (.call (.ref fa) ⟨[.ref scr], []⟩) (fun r s' => r = .ok (.ret (.bool true)) ∧ OldK st.heap s'.heap ∧ s'.os = st.os ∧ AllBare s'.gens) st := by
    intro H isTab noneElse atScr seq
    have few : Few K cs scr H := ⟨fun b z => by
      by_cases h : ∃ p ∈ cs, p.2 = b
      · exact .inr h
      · exact .inl (Decidable.byContradiction fun n => z (noneElse b h n)), fun z => (atScr.resolve_left z).1⟩
    have hok : HOk P w H st.heap := fun b ob e => by
      by_cases h : ∃ p ∈ cs, p.2 = b
      · rw [isTab b h] at e
        cases e
        obtain ⟨p, hp, rfl⟩ := h
        exact W.tabs p hp
      · by_cases n : b = scr
        · subst n
          rcases atScr with z | ⟨_, z⟩
          · rw [z] at e
            cases e
          · rw [z] at e
            cases e
            exact ⟨W.list, by rw [List.length_map]; exact short, vs, _, rv, W.list⟩
        · rw [noneElse b h n] at e
          cases e
    have tb : ∀ p ∈ cs, H p.2 = some (.tbl #[]) := fun p hp => isTab p.2 ⟨p, hp, rfl⟩
    exact codeAny_mono (run _ H (hid_in W few) (hid_ns W few W.glob) (hid_tab W few) tb seq (hid_env W few hok)) fun r s' told => behind W few hok tb (atScr.imp id fun z => ⟨_, _, z.2⟩) told
  cases hk : K.lookup scr with
  | some ob =>
    have e := W.kin scr ob hk
    rw [W.list] at e
    cases e
    exact go (fun b => if ∃ p ∈ cs, p.2 = b then some (.tbl #[]) else none) (fun b h => if_pos h) (fun b h _ => if_neg h) (.inl (if_neg scrT)) (.inr ⟨_, vs.toArray, _, hk, rfl, rfl, rfl, by rw [List.size_toArray, same]; exact short, by simpa using rv⟩)
  | none =>
    refine go (fun b => if b = scr then some (.frz { cls := .type "list", data := .seq vs.toArray } (.lst (ns.map V.int))) else if ∃ p ∈ cs, p.2 = b then some (.tbl #[]) else none) (fun b h => ?_) (fun b h n => ?_) (.inr ⟨hk, if_pos rfl⟩) (.inl (.inr ⟨_, if_pos rfl⟩))
    · exact (if_neg (fun z => scrT (by rw [← z]; exact h))).trans (if_pos h)
    · exact (if_neg n).trans (if_neg h)
end
end Gd
set_option Elab.async false
set_option linter.all false
set_option maxRecDepth 100000
set_option maxHeartbeats 3900000
/-! Defs that are run where no repr is under way; repr of data. -/
namespace Gd
open PySem PySem.Spec PyProof.Rows L2 LamX LmY
/-- as FnOk, where no repr is under way around the call -/
structure FnG (P : Program) (w : World) (K : PySem.W.Frag) (mg : Str → Option Value) (base : Heap) (k : Nat) (f : Addr) (fd : FuncData) (ps : List Str) (sp : Sp) : Prop where
  len : ∀ vs H Q E, sp vs H Q E → vs.length = ps.length
  run : ∀ (A : Around) (outer : List Env) (s : Shared) (H : Hp) (args : Args) (us : List Value) (vs : List V) (Q : VK), A.guards = some [] → Room k A → Env0 P w K mg base A outer s H → BindsTo s fd args (ps.zip us) → Vals vs us → sp vs H Q L2.E0 →
    codeAny (model P w) A (.call (.ref f) args) (CR L2.CX0 outer P w H s Q L2.E0) s
section
variable {P : Program} {w : World} {K : PySem.W.Frag} {mg : Str → Option Value} {base : Heap}
/-- a def of the text, by its body -/
theorem okG {x : Str} {st : Stmt} {f : Addr} {fd : FuncData} {N ps : List Str} {k : Nat} {sp : Sp} (F : Fun K x x st f fd) (S : FnScope N ps (defScope st)) (len : ∀ vs H Q E, sp vs H Q E → vs.length = ps.length)
    (body : ∀ (cdv : Value) (A : Around) (outer : List Env) (s : Shared) (H : Hp) (vs : List V) (Q : VK), A.guards = some [] → Room k (A.deeper (envOfC x (defScope st) s.heap.objs.size f cdv)) → sp vs H Q L2.E0 →
      ∃ t, PSs (cxOf L2.CX0 P w K mg base N x (defScope st) f cdv A outer s H L2.E0).nox (defBody st) t ∧ t { nx := fun _ H' => Q .non H', rt := Q } (L2.start N vs) H) : FnG P w K mg base (k + 1) f fd ps sp := by
  obtain ⟨oc, od, kV, doc, pm, an, cdv, ct, osl, rfl, look, code⟩ := F.ex
  refine ⟨len, fun A outer s H args us vs Q gu room e0 bind rel h => ?_⟩
  refine run_ofS look code S room e0 bind rel (len _ _ _ _ h) fun room1 => ?_
  obtain ⟨t, run, told⟩ := body cdv A outer s H vs Q gu room1 h
  exact ⟨t, run.nox, told⟩
/-- FnOk is more -/
theorem FnG.of {k : Nat} {f : Addr} {fd : FuncData} {ps : List Str} {sp : Sp} (F : FnOk P w K mg base L2.CX0 k f fd ps sp) : FnG P w K mg base k f fd ps sp := ⟨F.len, fun A outer s H args us vs Q _ room e0 bind rel h => F.run A outer s H args us vs Q L2.E0 room e0 bind rel h⟩
end
section
variable {X : Cx}
/-- x(e, ..), x such a def -/
theorem pe_callG {k : Nat} {f : Addr} {fd : FuncData} {ps : List Str} {sp : Sp} {x : Str} {p pos : Pos} {e : Expr} {es : List Expr} {t : TA} (F : FnG X.prog X.w X.K X.mg X.base k f fd ps sp) (gu : X.A.guards = some []) (room : Room k X.A) (gl : Gl X x) (mx : X.mg x = some (.ref f)) (kx : PySem.W.keepIn X.K (.ref f) = true)
    (bind : L2.Binds X.K fd ps []) (pa : PA X (e :: es) t) (h0 : (x == ("__debug__" : Str)) = false := by decide)
    (h1 : starEach (e :: es) X.env = (false, eval e X.env) :: starEach es X.env := by rfl) (h2 : (backTo pos (starEach es X.env)).any (·.1) = false := by rfl) :
    PE X (.Call (.Name x p) (e :: es) [] pos) (fun σ H Q => t σ H fun vs H1 => sp vs H1 Q L2.E0) := by
  refine ⟨fun pins s σ H Q I reading => wpAny_Call_Name_kw (ld_glob I gl mx (PySem.W.callWith_K (h₀ := X.base) I.ok.mod.kin kx (thn (pa.run pos pins s σ H _ I reading) fun us s1 ⟨vs, H1, I1, rel, q⟩ => ⟨I1.kIn, land (us := us) I1 ?_⟩) h1 h2) h0)⟩
  have given := bind s1 us I1.kIn (by rw [List.append_nil]; exact rel.length.symm.trans (F.len _ _ _ _ q))
  rw [List.append_nil] at given
  exact F.run X.A X.stack s1 H1 ⟨us, []⟩ us vs Q gu room I1.env0 given rel q
/-- repr of data, no repr being under way -/
theorem cr_reprD (gu : X.A.guards = some []) (un : X.A.units + 64 < cLine) : CallR X (.builtin "repr") (fun xs H Q => ∃ (a : Addr) (d : PyData), xs = [.ref a] ∧ Dp X.K H (.ref a) d ∧ d.showable = true ∧ d.hasDict = false ∧ d.depth ≤ 60 ∧ d.shown.length ≤ sizeLine ∧ Q (.str d.shown) H) := by
  intro pins s σ H xs us Q I rel ⟨a, d, ex, dp, sh, nd, dd, fits, q⟩
  subst ex
  rw [Vals.ref1 rel]
  obtain ⟨as, rd⟩ := Dp.reads I d (.ref a) (.ref a) dp rfl
  exact repr_of_reads' rd sh (fun e => by rw [nd] at e; cases e) gu (by omega) (fun _ _ e => e) (fun h' u tk kp => ⟨.str d.shown, H, I.kept kp, ⟨u, rfl⟩, q⟩) fits
end
/-- what the end wants of the law's def -/
def LawG (l : PySem.W.OpenLaw) (w : World) (K : PySem.W.Frag) (k n : Nat) (x : Str) (mg : Str → Option Value) (fa : Addr) (h : Heap) : Prop :=
  ∃ (fd : FuncData) (cs : List (Addr × Addr)) (sp : Sp), (∀ p ∈ cs, h.get? p.2 = some { cls := .none, data := .fields #[] }) ∧ (∀ p ∈ cs, K.lookup p.2 = none) ∧ (∀ p ∈ cs, PySem.W.CodeHd h p.1 p.2) ∧ (∀ (s : Shared) (u : Value), BindsTo s fd ⟨[u], []⟩ [(x, u)]) ∧
    (∀ (H : Hp) (a : Addr) (ns : List Int), ns.length ≤ n → (∀ z ∈ ns, Builtin.Int.intBits z ≤ 1048576) → (∀ p ∈ cs, H p.2 = some (.tbl #[])) → SqL K H a (ns.map V.int) → sp [.ref a] H (fun v _ => v = .bl true) L2.E0) ∧
    ∀ base : Heap, K.In base → base.Ns mainGlobals mg → (∀ p ∈ cs, TabB base mg p.1 p.2) → FnG l.prog w K mg base k fa fd [x] sp
/-- the end of a law some defs of which say repr, or hold lambdas: these ones' tables are still empty -/
theorem walk_guard {l : PySem.W.OpenLaw} {n k : Nat} {q : Program} {loose : List Str} {XP : (Str → Option Value) → Heap → Prop} {YP : World → Heap → Prop} {d : DefRec} {K : Params → PySem.W.Frag} {x : Str} (nms : List Str)
    (hn : l.most = some n) (line : n ≤ sizeLine) (hdf : d.params.defaults = []) (room : Room k callerA) (recs : ∀ nm ∈ nms, ((recsOf q).any fun e => e.name == nm) = true) (hY : ∀ (w : World) (h : Heap), YP w h → (K w.params).In h)
    (F : ∀ (w : World) (mg : Str → Option Value) (fa : Addr) (h : Heap), YP w h → (K w.params).In h → h.Ns mainGlobals mg → mg d.name = some (.ref fa) → (∀ nm ∈ nms, ∀ fw, mg nm = some (.ref fw) → OwnTab (K w.params) fw h) → LawG l w (K w.params) k n x mg fa h) :
    PySem.W.WalkO q loose XP YP l.row.toRowW d [] (fun f vs => PySem.call f vs) := by
  refine Att.attach_callB hn hdf fun w s0 s1 mg mb fa o pm cd doc a vs ns G Y ho hd hcd hmg hobj hints hlen hbits hg => ?_
  have KX := hY w _ Y
  have tabs : ∀ nm ∈ nms, ∀ fw, mg nm = some (.ref fw) → OwnTab (K w.params) fw s1.heap := by
    intro nm inn fw hw c P o1 fd1 e dd us sl look isF isC lookC at11
    obtain ⟨dR, mem, same⟩ := List.any_eq_true.mp (recs nm inn)
    have eN : dR.name = nm := beq_iff_eq.mp same
    obtain ⟨a2, o2, fd2, c2, P2, g1, g2, g3, g4, _, ⟨oc, vc, g5, _, g6, g7⟩, empty⟩ := G.T.tab dR mem
    rw [eN] at g1
    cases hw.symm.trans g1
    cases (KX _ _ look).symm.trans g2
    cases isF.symm.trans g3
    cases isC.symm.trans g4
    cases (KX _ _ lookC).symm.trans g5
    cases g6
    cases at11.symm.trans g7
    exact empty
  obtain ⟨fd, cs, sp, hT, nT, hC, hb, hsp, hF⟩ := F w mg fa _ Y KX G.T.g hmg tabs
  exact end_at ⟨KX, G.T.g, G.T.b, G.T.builtins, G.T.nolimit, hg, hT, nT, hC, G.T.bmain, hobj⟩ hints (Nat.le_trans hlen line) fun base H hK hG hB ht hS e0 =>
    (hF base hK hG hB).run callerA [] s1 H ⟨[.ref a], []⟩ [.ref a] [.ref a] _ rfl room e0 (hb s1 (.ref a)) (.cons rfl .nil) (hsp H a ns hlen hbits ht hS)
end Gd
set_option Elab.async false
set_option linter.all false
set_option maxRecDepth 100000
set_option maxHeartbeats 8000000
set_option pp.maxSteps 600
/-! Both looks at a thing; so many of a word round something. -/
namespace Kf
open PySem PySem.Spec PyProof.Rows L2 Sx LamX LmY _root_.Gd
abbrev sR : Stmt := top 32
abbrev sFar : Stmt := top 33
abbrev rN : List Str := ["thing", "kept", "found", "other"]
abbrev farN : List Str := ["word", "first", "many", "found", "turn"]
theorem scR : FnScope rN ["thing"] (defScope sR) := ⟨rfl, rfl, rfl, by decide +kernel, rfl, by decide +kernel, by decide +kernel⟩
theorem scFar : FnScope farN ["word", "first", "many"] (defScope sFar) := ⟨rfl, rfl, rfl, by decide +kernel, rfl, by decide +kernel, by decide +kernel⟩
theorem cr_reprE {X : Cx} (gu : X.A.guards = some []) (un : X.A.units + 130 < cLine) : CallR X (.builtin "repr") (fun xs H Q => ∃ (a : Addr) (d : PyData), xs = [.ref a] ∧ Dp X.K H (.ref a) d ∧ d.showable = true ∧ d.hasDict = false ∧ d.depth ≤ 120 ∧ d.shown.length ≤ sizeLine ∧ Q (.str d.shown) H) := by
  intro pins s σ H xs us Q I rel ⟨a, d, ex, dp, sh, nd, dd, fits, q⟩
  subst ex
  rw [Vals.ref1 rel]
  obtain ⟨as, rd⟩ := Dp.reads I d (.ref a) (.ref a) dp rfl
  exact repr_of_reads' rd sh (fun e => by rw [nd] at e; cases e) gu (by omega) (fun _ _ e => e) (fun h' u tk kp => ⟨.str d.shown, H, I.kept kp, ⟨u, rfl⟩, q⟩) fits
theorem cr_reprX {X : Cx} (gu : X.A.guards = some []) (un : X.A.units + 130 < cLine) : CallR X (.builtin "repr") (fun xs H Q => ∃ (v : V) (d : PyData), xs = [v] ∧ Dp X.K H v d ∧ d.showable = true ∧ d.hasDict = false ∧ d.depth ≤ 120 ∧ d.shown.length ≤ sizeLine ∧ Q (.str d.shown) H) := by
  intro pins s σ H xs us Q I rel ⟨v, d, ex, dp, sh, nd, dd, fits, q⟩
  subst ex
  cases dp with
  | lst h g => exact cr_reprE gu un pins s σ H _ us Q I rel ⟨_, _, rfl, .lst h g, sh, nd, dd, fits, q⟩
  | tup h g => exact cr_reprE gu un pins s σ H _ us Q I rel ⟨_, _, rfl, .tup h g, sh, nd, dd, fits, q⟩
  | non =>
    cases rel with
    | cons r rr =>
      cases rr
      cases r
      exact P.repr_of_none ⟨.str (PyData.shown .none), H, I.tok _, ⟨_, rfl⟩, q⟩
  | bl b =>
    cases rel with
    | cons r rr =>
      cases rr
      cases r
      cases b with
      | false => exact P.repr_of_bool (b := false) ⟨.str (PyData.shown (.bool false)), H, I.tok _, ⟨_, rfl⟩, q⟩
      | true => exact P.repr_of_bool (b := true) ⟨.str (PyData.shown (.bool true)), H, I.tok _, ⟨_, rfl⟩, q⟩
  | int i =>
    cases rel with
    | cons r rr =>
      cases rr
      obtain ⟨t, rfl⟩ := r
      exact P.repr_of_int (of_decide_eq_true sh) ⟨.str (PyData.shown (.int i)), H, I.tok _, ⟨_, rfl⟩, q⟩
  | str x =>
    cases rel with
    | cons r rr =>
      cases rr
      obtain ⟨t, rfl⟩ := r
      exact P.repr_of_str ⟨.str (PyData.shown (.str x)), H, I.tok _, ⟨_, rfl⟩, q⟩ fits

theorem leafD_mono {w : Str} {r q : Int} (h : r ≤ q) : ∀ {ds : List PyData}, leafD w r ds = true → leafD w q ds = true
  | [], z => (Bool.false_ne_true z).elim
  | _ :: _ :: _, z => (Bool.false_ne_true z).elim
  | [x], z => by
    by_cases e : w = "name"
    · rw [e, leafD_name] at z ⊢
      exact z
    · rw [leafD_num e] at z ⊢
      cases x with
      | int n =>
        have z2 : (!decide (n < 0) && decide (n < if w = "num" then 10 ^ 60 else r)) = true := z
        show (!decide (n < 0) && decide (n < if w = "num" then 10 ^ 60 else q)) = true
        rw [Bool.and_eq_true] at z2 ⊢
        refine ⟨z2.1, ?_⟩
        have z3 := of_decide_eq_true z2.2
        refine decide_eq_true ?_
        split
        · rename_i e2
          rw [if_pos e2] at z3
          exact z3
        · rename_i e2
          rw [if_neg e2] at z3
          omega
      | _ => exact (Bool.false_ne_true z).elim
theorem up_mono (w : Str) {r q : Int} (h : r ≤ q) : up w r ≤ up w q := by
  unfold up
  split <;> omega
mutual
theorem wf_mono : ∀ {d : PyData} {k : Str} {r q : Int}, r ≤ q → wf d k r = true → wf d k q = true
  | .tuple [], k, r, q, l, h => (Bool.false_ne_true h).elim
  | .tuple (x :: ds), k, r, q, l, h => by
    obtain ⟨w, ds2, e, what⟩ := form_is (wf_form h)
    injection e with e
    injection e with e1 e2
    subst e1 e2
    rcases what with ⟨lw, hk, hl⟩ | ⟨lw, ks, t, _⟩
    · rw [wf_leaf lw, hk, decide_eq_true rfl, leafD_mono l hl]
      rfl
    · rw [wf_in lw t] at h ⊢
      exact wfs_mono (up_mono w l) h
  | .list _, k, r, q, l, h => (Bool.false_ne_true h).elim
  | .none, k, r, q, l, h => (Bool.false_ne_true h).elim
  | .bool _, k, r, q, l, h => (Bool.false_ne_true h).elim
  | .int _, k, r, q, l, h => (Bool.false_ne_true h).elim
  | .str _, k, r, q, l, h => (Bool.false_ne_true h).elim
  | .dict _, k, r, q, l, h => (Bool.false_ne_true h).elim
theorem wfs_mono : ∀ {ds : List PyData} {ks : List Str} {r q : Int}, r ≤ q → wfs ds ks r = true → wfs ds ks q = true
  | [], ks, r, q, l, h => h
  | d :: ds, [], r, q, l, h => (Bool.false_ne_true h).elim
  | d :: ds, k :: ks, r, q, l, h => by
    have h2 : (wf d k r && wfs ds ks r) = true := h
    rw [Bool.and_eq_true] at h2
    show (wf d k q && wfs ds ks q) = true
    rw [wf_mono l h2.1, wfs_mono l h2.2]
    rfl
end
theorem bind_or {wd : Str} (h : binds wd = true) : wd = "all" ∨ wd = "some" := by
  have h2 : ((("all" : Str) == wd) || ((("some" : Str) == wd) || false)) = true := h
  rw [Bool.or_eq_true, Bool.or_eq_true] at h2
  rcases h2 with h2 | h2 | h2
  · exact .inl (LawfulBEq.eq_of_beq h2).symm
  · exact .inr (LawfulBEq.eq_of_beq h2).symm
  · cases h2
theorem beneath_all {wd : Str} {ds : List PyData} (hb : binds wd = true) (h : wf (.tuple (.str wd :: ds)) kS 0 = true) : ∃ a, ds = [a] ∧ wf a kS 1 = true := by
  have ll : leafy wd = false ∧ table.lookup wd = some (kS, [kS]) := by
    rcases bind_or hb with rfl | rfl
    · exact ⟨by decide +kernel, by decide +kernel⟩
    · exact ⟨by decide +kernel, by decide +kernel⟩
  rw [wf_in ll.1 ll.2] at h
  have e : up wd 0 = 1 := by
    unfold up
    rw [if_pos hb]
    rfl
  rw [e] at h
  match ds, h with
  | [], h => exact (Bool.false_ne_true h).elim
  | [a], h =>
    have h2 : (wf a kS 1 && true) = true := h
    rw [Bool.and_true] at h2
    exact ⟨a, rfl, h2⟩
  | a :: b :: ds, h =>
    have h2 : (wf a kS 1 && false) = true := h
    rw [Bool.and_false] at h2
    cases h2
section
variable {P : Program} {w : World} {K : PySem.W.Frag} {mg : Str → Option Value} {base : Heap}
def spR (K : PySem.W.Frag) (PT : Addr) : Sp := fun vs H Q _ => ∃ (v : V) (d : PyData), vs = [v] ∧ Df K [PT] H v d ∧ ats d = true ∧ psz d ≤ 800 ∧ d.depth ≤ 18 ∧ GxR.TabG H PT ∧ ∀ H', But PT H H' → GxR.TabG H' PT → Q (.bl true) H'
theorem ok_r {f fi fb fz : Addr} {fd di db dz : FuncData} {PT : Addr} (F : Fun K "_law_right" "_law_right" sR f fd) (T : Blt mg) (zRepr : mg "repr" = none)
    (I : FnOk P w K mg base CX0 6 fi di ["thing"] (spQ K kS 0 PT)) (bI : Binds K di ["thing"] []) (kI : PySem.W.keepIn K (.ref fi) = true) (mI : mg "is_saying" = some (.ref fi))
    (B : FnOk P w K mg base CX0 6 fb db ["thing"] (spQ K kS 1 PT)) (bB : Binds K db ["thing"] []) (kB : PySem.W.keepIn K (.ref fb) = true) (mB : mg "is_body" = some (.ref fb))
    (Z : FnOk P w K mg base CX0 (21 + 20) fz dz ["thing", "deep", "around"] (spZ K 20)) (bZ : Binds K dz ["thing", "deep", "around"] []) (kZ : PySem.W.keepIn K (.ref fz) = true) (mZ : mg "_law_size" = some (.ref fz)) : FnG P w K mg base 42 f fd ["thing"] (spR K PT) := by
  refine okG F scR (fun vs H Q E h => ?_) (fun cdv A outer s H vs Q gu hr h => ?_)
  · obtain ⟨v, d, rfl, _⟩ := h
    rfl
  obtain ⟨v, d, rfl, hd, hat, hsz, h18, hT, q⟩ := h
  have h6 : Room 6 _ := hr.mono (by decide)
  have h41 : Room (21 + 20) _ := hr.mono (by decide)
  have u1 : (A.deeper (envOfC "_law_right" (defScope sR) s.heap.objs.size f cdv)).units + 130 < cLine := by
    have := hr.un
    omega
  refine ⟨_, (pss_cons (ps_set (i := 1) scR.nd rfl (.inl rfl) (pe_callB (cr_reprX gu u1) (by rfl) zRepr (by decide +kernel) (pa_cons (pv 0) pa_nil)))
    (pss_cons (ps_set (i := 2) scR.nd rfl (.inl rfl) (pe_call I h6 (by rfl) mI kI bI .nil pass0 (pa_cons (pv 0) pa_nil)))
    (pss_cons (ps_set (i := 3) scR.nd rfl (.inl rfl) (pe_call B h6 (by rfl) mB kB bB .nil pass0 (pa_cons (pv 0) pa_nil)))
    (pss_cons (ps_if (PW.pt (pw_or (pt_not (pt_val (pe_callB call_isi (by rfl) T.zIs (by decide +kernel) (pa_cons (pv 2) (pa_cons (pe_bltn (v := .ty "bool") (by rfl) T.zBool (by decide +kernel) rfl) pa_nil))))) (pw_or (pt_not (pt_val (pe_callB call_isi (by rfl) T.zIs (by decide +kernel) (pa_cons (pv 3) (pa_cons (pe_bltn (v := .ty "bool") (by rfl) T.zBool (by decide +kernel) rfl) pa_nil))))) (pw_or1 (pt_cmpR op_ne (pe_callB (cr_reprX gu u1) (by rfl) zRepr (by decide +kernel) (pa_cons (pv 0) pa_nil)) (pv 1) (nomark _)))))) (pss_one (ps_ret pe_bl)) pss_nil)
    (pss_cons (ps_if (PW.pt (pw_or (pt_cmpR op_ne (pv 2) (pe_cmpR op_gt (pe_call Z h41 (by rfl) mZ kZ bZ .nil pass0 (pa_cons (pv 0) (pa_cons pe_int (pa_cons pe_int pa_nil)))) pe_int (nomark _)) (nomark _)) (pw_or (pt_cmpR op_ne (pv 3) (pe_cmpR op_gt (pe_call Z h41 (by rfl) mZ kZ bZ .nil pass0 (pa_cons (pv 0) (pa_cons pe_int (pa_cons pe_int pa_nil)))) pe_int (nomark _)) (nomark _)) (pw_or1 (PW.pt (pw_and (pt_val (pv 2)) (pw_and1 (pt_not (pt_val (pv 3)))))))))) (pss_one (ps_ret pe_bl)) pss_nil)
    (pss_cons (ps_if (PW.pt (pw_and (pt_val (pv 2)) (pw_and1 (pt_cmpR op_in_seq (pe_ix ix_tup (pv 0) pe_int (fun _ _ => rfl)) (pe_tup (pa_cons pe_str (pa_cons pe_str pa_nil))) (by rfl))))) (pss_one (ps_ret (pe_cmpR op_is_bl (pe_call B h6 (by rfl) mB kB bB .nil pass0 (pa_cons (pe_ix ix_tup (pv 0) pe_int (fun _ _ => rfl)) pa_nil)) pe_bl (nomark _)))) pss_nil)
    (pss_one (ps_ret pe_bl)))))))), ?_⟩
  have ft := fit d hat
  have line : d.shown.length ≤ sizeLine := by
    have z := ft.len
    exact Nat.le_trans (m := 120000) (by omega) (by decide)
  have pS : PT ∈ [PT] := List.mem_singleton.mpr rfl
  have p4 : (pc d).1 ≤ 4000 := by have := (pc_le d).1; omega
  refine ⟨_, rfl, v, d, rfl, hd.dp, ft.show_, ft.dict, by omega, line, ?_⟩
  refine ⟨_, rfl, v, d, rfl, hd, hat, p4, hT, fun H1 b1 t1 => ?_⟩
  have hd1 := hd.but pS b1
  rw [okM_small hsz (by omega)]
  refine ⟨_, rfl, v, d, rfl, hd1, hat, p4, t1, fun H2 b2 t2 => ?_⟩
  have hd2 := hd1.but pS b2
  rw [okM_small hsz (by omega)]
  refine ⟨_, rfl, _, _, _, _, true, rfl, .ty "bool", .base (.bl _), kit_ty (by decide +kernel), _, rfl, iteF ?_⟩
  refine ⟨_, rfl, _, _, _, _, true, rfl, .ty "bool", .base (.bl _), kit_ty (by decide +kernel), _, rfl, iteF ?_⟩
  refine ⟨_, rfl, v, d, rfl, hd2.dp, ft.show_, ft.dict, by omega, line, _, rfl, rfl, _, rfl, iteNS rfl ?_⟩
  have same_ : ∀ (z r : Int), (0 < z ↔ wf d kS r = true) → wf d kS r = decide (z > 0) := fun z r zw => by
    cases h : wf d kS r with
    | true => exact (decide_eq_true (zw.2 h)).symm
    | false => exact (decide_eq_false (fun y => by rw [zw.1 y] at h; cases h)).symm
  refine ⟨_, rfl, _, rfl, v, d, 1, 0, rfl, hd2.dp, hat, by omega, h18, by omega, by omega, fun z1 H3 s3 _ zw1 => ?_⟩
  have e1 := same_ z1 0 zw1
  have hd3 := hd2.same s3
  refine ⟨_, _, rfl, rfl, rfl, _, rfl, ?_⟩
  rw [show decide (V.bl (wf d kS 0) = V.bl (decide (z1 > 0))) = true from decide_eq_true (by rw [e1])]
  refine iteF ⟨_, rfl, _, rfl, v, d, 1, 1, rfl, hd3.dp, hat, by omega, h18, by omega, by omega, fun z2 H4 s4 _ zw2 => ?_⟩
  have e2 := same_ z2 1 zw2
  have hd4 := hd3.same s4
  refine ⟨_, _, rfl, rfl, rfl, _, rfl, ?_⟩
  rw [show decide (V.bl (wf d kS 1) = V.bl (decide (z2 > 0))) = true from decide_eq_true (by rw [e2])]
  refine iteF ⟨_, rfl, _, rfl, ?_⟩
  have b4 : But PT H H4 := (b1.trans b2).trans ((but_same s3).trans (but_same s4))
  have t4 := TabG.same (TabG.same t2 s3) s4
  cases h0 : wf d kS 0 with
  | false =>
    exact iteF (iteF ⟨_, rfl, _, rfl, iteF (iteF (q H4 b4 t4))⟩)
  | true =>
    have h1_ := wf_mono (show (0 : Int) ≤ 1 by decide) h0
    refine iteT ⟨_, rfl, _, rfl, ?_⟩
    rw [h1_]
    refine iteF ⟨_, rfl, _, rfl, iteT ?_⟩
    obtain ⟨wd, ds, rfl, _⟩ := form_is (wf_form h0)
    obtain ⟨p, xs, rfl, hs, hds⟩ := hd4.tup
    cases hds with
    | @cons x us _ dr hx hr_ =>
    cases hx
    refine ⟨_, rfl, p, _, 0, _, rfl, rfl, hs, atI_nat (j := 0) rfl, (by show 2 ≤ sizeLine; decide), fun c5 n5 => ?_⟩
    have s5 := same_new (o := .tup [.str "all", .str "some"]) n5
    have e5 : upd H4 c5 (.tup [.str "all", .str "some"]) c5 = _ := upd_same
    generalize upd H4 c5 (.tup [.str "all", .str "some"]) = H5 at s5 e5
    refine ⟨c5, _, rfl, .inr (.inl (.inl e5)), rfl, rfl, _, rfl, ?_⟩
    have b5 := b4.trans (but_same s5)
    have t5 := TabG.same t4 s5
    show if binds wd = true then _ else _
    by_cases hb : binds wd = true
    · rw [if_pos hb]
      obtain ⟨a, rfl, ha⟩ := beneath_all hb h0
      cases hr_ with
      | @cons y us2 _ _ hy hr2 =>
      cases hr2
      have hy5 : Df K [PT] H5 y a := Df.same s5 hy
      have z1 : psz (.tuple [.str wd, a]) = 1 + (1 + (psz a + 0)) := rfl
      have z3 : (PyData.tuple [.str wd, a]).depth = max 0 (max a.depth 0) + 1 := rfl
      have hata : ats a = true := atss_mem (ds := [.str wd, a]) hat (List.mem_cons_of_mem _ (List.mem_singleton.mpr rfl))
      refine ⟨_, rfl, p, _, 1, _, rfl, rfl, sqT_up s5 hs, atI_nat (j := 1) rfl, y, a, rfl, hy5, hata, by have := (pc_le a).1; omega, t5, fun H6 b6 t6 => ?_⟩
      rw [okM_small (by omega) (by omega), ha]
      exact ⟨true, true, rfl, rfl, q H6 (b5.trans b6) t6⟩
    · rw [if_neg hb]
      exact q H5 b5 t5
/-! ### so many of a word -/
def farD (wd : Str) (d : PyData) : Nat → PyData
  | 0 => d
  | k + 1 => .tuple [.str wd, farD wd d k]
theorem far_ats {wd : Str} {d : PyData} (hw : ats (.str wd) = true) (hd : ats d = true) : ∀ k, ats (farD wd d k) = true
  | 0 => hd
  | k + 1 => by
    show (ats (.str wd) && (ats (farD wd d k) && true)) = true
    rw [hw, far_ats hw hd k]
    rfl
theorem far_pc {wd : Str} {d : PyData} (hl : leafy wd = false) : ∀ k, (pc (farD wd d k)).1 = k + (pc d).1 ∧ (pc (farD wd d k)).2 ≥ k
  | 0 => ⟨(Nat.zero_add _).symm, Nat.zero_le _⟩
  | k + 1 => by
    obtain ⟨a, b⟩ := far_pc (d := d) hl k
    have e : pc (farD wd d (k + 1)) = (1 + (pcs [farD wd d k]).1, 1 + (pcs [farD wd d k]).2) := pc_in hl
    have e1 : (pcs [farD wd d k]).1 = (pc (farD wd d k)).1 + 0 := rfl
    have e2 : (pcs [farD wd d k]).2 = max (pc (farD wd d k)).2 0 := rfl
    rw [e]
    refine ⟨?_, ?_⟩
    · show 1 + (pcs [farD wd d k]).1 = k + 1 + (pc d).1
      omega
    · show 1 + (pcs [farD wd d k]).2 ≥ k + 1
      omega
theorem okM_far {d : PyData} {k : Str} {r : Int} (h : (pc d).2 > 60) : okM d k r = false := by
  unfold okM
  rw [decide_eq_false (show ¬ (pc d).2 ≤ 60 by omega), Bool.and_false, Bool.and_false]
def spFar (K : PySem.W.Frag) : Sp := fun vs H Q _ => ∃ (wd : Str) (v : V) (d : PyData) (S : List Addr) (k : Nat), vs = [.str wd, v, .int (k : Int)] ∧ k ≤ 1000 ∧ LS H S ∧ Df K S H v d ∧ ∀ v' H', Df K S H' v' (farD wd d k) → Same H H' → Q v' H'
theorem ok_far {f : Addr} {fd : FuncData} {j : Nat} (F : Fun K "_law_far" "_law_far" sFar f fd) (zRange : mg "range" = none) : FnOk P w K mg base CX0 (j + 1) f fd ["word", "first", "many"] (spFar K) := by
  refine F.ok scFar (fun vs H Q E h => ?_) (fun cdv A outer s H vs Q E hr h => ?_)
  · obtain ⟨wd, v, d, S, k, rfl, _⟩ := h
    rfl
  obtain ⟨wd, v, d, S, k, rfl, hk, lS, hd, q⟩ := h
  refine ⟨_, (pss_cons (ps_set (i := 3) scFar.nd rfl (.inl rfl) (pv 1))
    (pss_cons (ps_for PassesOwn.never rfl (pi_range1 (by rfl) zRange (pa_cons (pv 2) pa_nil)) (pg_name (i := 4) scFar.nd rfl (.inl rfl)) (pss_one (ps_set (i := 3) scFar.nd rfl (.inl rfl) (pe_tup (pa_cons (pv 0) (pa_cons (pv 3) pa_nil))))))
    (pss_one (ps_ret (pv 3))))), ?_⟩
  refine ⟨_, rfl, _, rfl, _, rfl, Int.le_trans (by decide) (Int.natCast_nonneg k), Int.lt_of_le_of_lt (show (k : Int) ≤ 1000 by omega) (by decide), ?_⟩
  refine for_range (lo := 0) (n := ((k : Int)).toNat) (fun i σ H' => ∃ (u : V) (y4 : Option V), σ = [some (.str wd), some v, some (.int (k : Int)), some u, y4] ∧ Df K S H' u (farD wd d i) ∧ Same H H') ⟨v, none, rfl, hd, Same.refl H⟩ ?_ ?_
  · rintro i σ H1 hi ⟨u, y4, rfl, hu, s1⟩
    refine ⟨_, rfl, _, rfl, (by show 2 ≤ sizeLine; decide), fun p np => ?_⟩
    have s2 := same_new (o := .tup [.str wd, u]) np
    exact ⟨_, _, rfl, df_tup ((lS.same s1).same s2) (.inl (.inl upd_same)) (.cons (.str _) (.cons (hu.same s2) .nil)), s1.trans s2⟩
  · rintro σ H1 ⟨u, y4, rfl, hu, s1⟩
    have z : ((k : Int)).toNat = k := Int.toNat_natCast k
    rw [z] at hu
    exact ⟨_, rfl, q u H1 hu s1⟩
end
end Kf
set_option Elab.async false
set_option linter.all false
set_option maxRecDepth 100000
set_option maxHeartbeats 8000000
set_option pp.maxSteps 600
/-! k02: the law. -/
namespace Kf
open PySem PySem.Spec PyProof.Rows L2 Sx LamX LmY _root_.Gd
abbrev sLaw : Stmt := top 34
abbrev lawN : List Str := ["script", "thing", "k", "feed", "saying", "turn"]
theorem scLaw : FnScope lawN ["script"] (defScope sLaw) := ⟨rfl, rfl, rfl, by decide +kernel, rfl, by decide +kernel, by decide +kernel⟩
theorem lo62 {r : Int} (h : 0 ≤ r) : -(2 ^ 62) ≤ r := Int.le_trans (by decide) h
theorem hi62 {r : Int} (h : r ≤ 1000) : r < 2 ^ 62 := Int.lt_of_le_of_lt h (by decide)
theorem tab_but {H H' : Hp} {f PT : Addr} (t : GxR.TabG H PT) (hF : FeedAt H f) (b : But f H H') : GxR.TabG H' PT := by
  obtain ⟨ps, h1, h2⟩ := t
  obtain ⟨x, y, e, _⟩ := hF
  exact ⟨ps, b _ _ (fun z => by rw [z, e] at h1; cases h1) h1, h2⟩
theorem feed_ne {H : Hp} {f PT : Addr} (t : GxR.TabG H PT) (hF : FeedAt H f) : f ≠ PT := fun z => by
  obtain ⟨ps, h1, h2⟩ := t
  obtain ⟨x, y, e, _⟩ := hF
  rw [← z, e] at h1
  cases h1
theorem ls2 {H : Hp} {f PT : Addr} (t : GxR.TabG H PT) (hF : FeedAt H f) : LS H [PT, f] := fun a ha => by
  rcases List.mem_cons.mp ha with rfl | ha
  · obtain ⟨ps, h1, _⟩ := t
    exact .inr ⟨ps, h1⟩
  · obtain ⟨x, y, e, _⟩ := hF
    rw [List.mem_singleton.mp ha]
    exact .inl ⟨_, e⟩
theorem seqL_tab {K : PySem.W.Frag} {H H' : Hp} {a PT : Addr} {xs : List V} (t : GxR.TabG H PT) (b : But PT H H') (h : SqL K H a xs) : SqL K H' a xs := by
  rcases h with (h | ⟨o, h⟩) | h
  · exact .inl (.inl (b _ _ (TabG.ne t h (fun ps z => by cases z)) h))
  · exact .inl (.inr ⟨o, b _ _ (TabG.ne t h (fun ps z => by cases z)) h⟩)
  · exact .inr h

theorem good3 : ∀ z ∈ ([("x" : Str), "n", "abcdefgh"] : List Str), GoodW z := fun z hz => by
  rcases List.mem_cons.mp hz with rfl | hz
  · exact ⟨by decide +kernel, by decide +kernel⟩
  rcases List.mem_cons.mp hz with rfl | hz
  · exact ⟨by decide +kernel, by decide +kernel⟩
  · rw [List.mem_singleton.mp hz]
    exact ⟨by decide +kernel, by decide +kernel⟩
section
variable {P : Program} {w : World} {K : PySem.W.Frag} {mg : Str → Option Value} {base : Heap}
def spLaw (K : PySem.W.Frag) (PT : Addr) : Sp := fun vs H Q _ => ∃ (a : Addr) (ns : List Int), vs = [.ref a] ∧ SqL K H a (ns.map V.int) ∧ ns.length ≤ 63 ∧ (∀ z ∈ ns, Builtin.Int.intBits z ≤ 1048576) ∧ GxR.TabG H PT ∧ ∀ H', Q (.bl true) H'
structure Calls (P : Program) (w : World) (K : PySem.W.Frag) (mg : Str → Option Value) (base : Heap) (PT : Addr) (ft fp ff fs fi fb fr ft2 fa : Addr) (dt dp df ds di db dr dt2 da : FuncData) : Prop where
  D : Draw P w K mg base ft fp dt dp
  Fd : FnOk P w K mg base CX0 1 ff df ["script", "k"] (spFeed K)
  bFd : Binds K df ["script", "k"] []
  kFd : PySem.W.keepIn K (.ref ff) = true
  mFd : mg "_law_feed" = some (.ref ff)
  S : FnOk P w K mg base CX0 (6 + 6) fs ds ["feed", "deep", "names", "around"] (spSay K 6)
  bS : Binds K ds ["feed", "deep", "names", "around"] []
  kS : PySem.W.keepIn K (.ref fs) = true
  mS : mg "_law_saying" = some (.ref fs)
  I : FnOk P w K mg base CX0 6 fi di ["thing"] (spQ K Kf.kS 0 PT)
  bI : Binds K di ["thing"] []
  kI : PySem.W.keepIn K (.ref fi) = true
  mI : mg "is_saying" = some (.ref fi)
  B : FnOk P w K mg base CX0 6 fb db ["thing"] (spQ K Kf.kS 1 PT)
  bB : Binds K db ["thing"] []
  kB : PySem.W.keepIn K (.ref fb) = true
  mB : mg "is_body" = some (.ref fb)
  R : FnG P w K mg base 42 fr dr ["thing"] (spR K PT)
  bR : Binds K dr ["thing"] []
  kR : PySem.W.keepIn K (.ref fr) = true
  mR : mg "_law_right" = some (.ref fr)
  Bt : FnOk P w K mg base CX0 (3 + 20) ft2 dt2 ["feed", "thing"] (spBent K 20)
  bBt : Binds K dt2 ["feed", "thing"] []
  kBt : PySem.W.keepIn K (.ref ft2) = true
  mBt : mg "_law_bent" = some (.ref ft2)
  Fa : FnOk P w K mg base CX0 1 fa da ["word", "first", "many"] (spFar K)
  bFa : Binds K da ["word", "first", "many"] []
  kFa : PySem.W.keepIn K (.ref fa) = true
  mFa : mg "_law_far" = some (.ref fa)
  T : Blt mg
  zRange : mg "range" = none
  zMax : mg "max" = none
  zMin : mg "min" = none
theorem ok_law {f PT ft fp ff fs fi fb fr ft2 fa : Addr} {fd dt dp df ds di db dr dt2 da : FuncData} (F : Fun K "law" "law" sLaw f fd) (C : Calls P w K mg base PT ft fp ff fs fi fb fr ft2 fa dt dp df ds di db dr dt2 da) : FnG P w K mg base 51 f fd ["script"] (spLaw K PT) := by
  refine okG F scLaw (fun vs H Q E h => ?_) (fun cdv A outer s H vs Q gu hr h => ?_)
  · obtain ⟨a, ns, rfl, _⟩ := h
    rfl
  obtain ⟨a, ns, rfl, hS, hlen, hb, hT, q⟩ := h
  have h1 : Room 1 _ := hr.mono (by decide)
  have h6 : Room 6 _ := hr.mono (by decide)
  have h12 : Room (6 + 6) _ := hr.mono (by decide)
  have h23 : Room (3 + 20) _ := hr.mono (by decide)
  have h42 : Room 42 _ := hr.mono (by decide)
  refine ⟨_, (pss_cons (ps_for PassesOwn.never rfl (pi_list (pe_lst (pa_cons (pe_call C.Fa h1 (by rfl) C.mFa C.kFa C.bFa .nil pass0 (pa_cons pe_str (pa_cons (pe_tup (pa_cons pe_str pa_nil)) (pa_cons pe_int pa_nil)))) (pa_cons (pe_tup (pa_cons pe_str (pa_cons (pe_call C.Fa h1 (by rfl) C.mFa C.kFa C.bFa .nil pass0 (pa_cons pe_str (pa_cons (pe_tup (pa_cons pe_str (pa_cons pe_int pa_nil))) (pa_cons pe_int pa_nil)))) (pa_cons (pe_tup (pa_cons pe_str (pa_cons pe_int pa_nil))) pa_nil)))) pa_nil)))) (pg_name (i := 1) scLaw.nd rfl (.inl rfl)) (pss_one (ps_if (PW.pt (pw_or (pt_cmpR op_isnot_bl (pe_call C.I h6 (by rfl) C.mI C.kI C.bI .nil pass0 (pa_cons (pv 1) pa_nil)) pe_bl (nomark _)) (pw_or1 (pt_cmpR op_isnot_bl (pe_call C.B h6 (by rfl) C.mB C.kB C.bB .nil pass0 (pa_cons (pv 1) pa_nil)) pe_bl (nomark _))))) (pss_one (ps_ret pe_bl)) pss_nil)))
    (pss_cons (ps_for PassesOwn.never rfl (pi_range1 (by rfl) C.zRange (pa_cons (pe_callB (call_max2 rfl) (by rfl) C.zMax (by decide +kernel) (pa_cons pe_int (pa_cons (pe_callB (call_min2 rfl) (by rfl) C.zMin (by decide +kernel) (pa_cons pe_int (pa_cons (pe_callB call_len_seq (by rfl) C.T.zLen PySem.boot_len (pa_cons (pv 0) pa_nil)) pa_nil))) pa_nil))) pa_nil)) (pg_name (i := 2) scLaw.nd rfl (.inl rfl)) (pss_cons (ps_set (i := 3) scLaw.nd rfl (.inl rfl) (pe_call C.Fd h1 (by rfl) C.mFd C.kFd C.bFd .nil pass0 (pa_cons (pv 0) (pa_cons (pv 2) pa_nil))))
    (pss_cons (ps_set (i := 4) scLaw.nd rfl (.inl rfl) (pe_call C.S h12 (by rfl) C.mS C.kS C.bS .nil pass0 (pa_cons (pv 3) (pa_cons pe_int (pa_cons (pe_lst (pa_cons pe_str (pa_cons pe_str (pa_cons pe_str pa_nil)))) (pa_cons (pe_call C.D.T h1 (by rfl) C.D.mT C.D.kT C.D.bT .nil pass0 (pa_cons (pv 3) (pa_cons pe_int pa_nil))) pa_nil))))))
    (pss_cons (ps_if (PW.pt (pw_or (pt_not (pt_val (pe_callG C.R gu h42 (by rfl) C.mR C.kR C.bR (pa_cons (pv 4) pa_nil)))) (pw_or1 (pt_cmpR op_isnot_bl (pe_call C.B h6 (by rfl) C.mB C.kB C.bB .nil pass0 (pa_cons (pv 4) pa_nil)) pe_bl (nomark _))))) (pss_one (ps_ret pe_bl)) pss_nil)
    (pss_one (ps_for PassesOwn.never rfl (pi_range1 (by rfl) C.zRange (pa_cons pe_int pa_nil)) (pg_name (i := 5) scLaw.nd rfl (.inl rfl)) (pss_cons (ps_set (i := 1) scLaw.nd rfl (.inl rfl) (pe_call C.Bt h23 (by rfl) C.mBt C.kBt C.bBt .nil pass0 (pa_cons (pv 3) (pa_cons (pv 4) pa_nil))))
    (pss_cons (ps_if (pt_cmpR op_eq (pe_call C.D.T h1 (by rfl) C.D.mT C.D.kT C.D.bT .nil pass0 (pa_cons (pv 3) (pa_cons pe_int pa_nil))) pe_int (nomark _)) (pss_one (ps_set (i := 1) scLaw.nd rfl (.inl rfl) (pe_call C.Bt h23 (by rfl) C.mBt C.kBt C.bBt .nil pass0 (pa_cons (pv 3) (pa_cons (pv 1) pa_nil))))) pss_nil)
    (pss_one (ps_if (pt_not (pt_val (pe_callG C.R gu h42 (by rfl) C.mR C.kR C.bR (pa_cons (pv 1) pa_nil)))) (pss_one (ps_ret pe_bl)) pss_nil))))))))))
    (pss_one (ps_ret pe_bl)))), ?_⟩
  have pS : PT ∈ [PT] := List.mem_singleton.mpr rfl
  have ls1 : ∀ {U : Hp}, GxR.TabG U PT → LS U [PT] := fun {U} t a ha => by
    obtain ⟨ps, e, _⟩ := t
    rw [List.mem_singleton.mp ha]
    exact .inr ⟨ps, e⟩
  -- far within one another
  refine ⟨(by show 1 ≤ sizeLine; decide), fun q1 n1 => ?_⟩
  have s1 := same_new (o := .tup [.str "no"]) n1
  have e1 : upd H q1 (.tup [.str "no"]) q1 = _ := upd_same
  have t1 := TabG.same hT s1
  generalize upd H q1 (.tup [.str "no"]) = X1 at s1 e1 t1
  refine ⟨"all", .ref q1, .tuple [.str "no"], [PT], 299, rfl, by decide, ls1 t1, df_tup (ls1 t1) (.inl (.inl e1)) (.cons (.str _) .nil), fun v1 X2 f1 s2 => ?_⟩
  have t2 := TabG.same t1 s2
  refine ⟨(by show 2 ≤ sizeLine; decide), fun q3 n3 => ?_⟩
  have s3 := same_new (o := .tup [.str "num", .int 0]) n3
  have e3 : upd X2 q3 (.tup [.str "num", .int 0]) q3 = _ := upd_same
  have t3 := TabG.same t2 s3
  generalize upd X2 q3 (.tup [.str "num", .int 0]) = X3 at s3 e3 t3
  refine ⟨"next", .ref q3, .tuple [.str "num", .int 0], [PT], 298, rfl, by decide, ls1 t3, df_tup (ls1 t3) (.inl (.inl e3)) (.cons (.str _) (.cons (.int _) .nil)), fun v2 X4 f2 s4 => ?_⟩
  have t4 := TabG.same t3 s4
  refine ⟨(by show 2 ≤ sizeLine; decide), fun q5 n5 => ?_⟩
  have s5 := same_new (o := .tup [.str "num", .int 0]) n5
  have e5 : upd X4 q5 (.tup [.str "num", .int 0]) q5 = _ := upd_same
  have t5 := TabG.same t4 s5
  generalize upd X4 q5 (.tup [.str "num", .int 0]) = X5 at s5 e5 t5
  refine ⟨(by show 3 ≤ sizeLine; decide), fun q6 n6 => ?_⟩
  have s6 := same_new (o := .tup [.str "same", v2, .ref q5]) n6
  have e6 : upd X5 q6 (.tup [.str "same", v2, .ref q5]) q6 = _ := upd_same
  have t6 := TabG.same t5 s6
  generalize upd X5 q6 (.tup [.str "same", v2, .ref q5]) = X6 at s6 e6 t6
  have D2 : Df K [PT] X6 (.ref q6) (.tuple [.str "same", farD "next" (.tuple [.str "num", .int 0]) 298, .tuple [.str "num", .int 0]]) := df_tup (ls1 t6) (.inl (.inl e6)) (.cons (.str _) (.cons ((f2.same s5).same s6) (.cons (Df.same s6 (df_tup (ls1 t5) (.inl (.inl e5)) (.cons (.str _) (.cons (.int _) .nil)))) .nil)))
  have D1 : Df K [PT] X6 v1 (farD "all" (.tuple [.str "no"]) 299) := (((f1.same s3).same s4).same s5).same s6
  have pA := far_pc (wd := "all") (d := .tuple [.str "no"]) (by decide +kernel) 299
  have pB := far_pc (wd := "next") (d := .tuple [.str "num", .int 0]) (by decide +kernel) 298
  have aA := far_ats (wd := "all") (d := .tuple [.str "no"]) (by decide +kernel) (by decide +kernel) 299
  have aB := far_ats (wd := "next") (d := .tuple [.str "num", .int 0]) (by decide +kernel) (by decide +kernel) 298
  have pc1 : (pc (.tuple [.str "no"])).1 = 1 := by decide +kernel
  have pc2 : (pc (.tuple [.str "num", .int 0])).1 = 1 := by decide +kernel
  generalize farD "all" (.tuple [.str "no"]) 299 = dA at D1 pA aA
  generalize farD "next" (.tuple [.str "num", .int 0]) 298 = dB at D2 pB aB
  have pC : pc (.tuple [.str "same", dB, .tuple [.str "num", .int 0]]) = (1 + (pcs [dB, .tuple [.str "num", .int 0]]).1, 1 + (pcs [dB, .tuple [.str "num", .int 0]]).2) := pc_in (by decide +kernel)
  have pC1 : (pcs [dB, .tuple [.str "num", .int 0]]).1 = (pc dB).1 + ((pc (.tuple [.str "num", .int 0])).1 + 0) := rfl
  have pC2 : (pcs [dB, .tuple [.str "num", .int 0]]).2 = max (pc dB).2 (max (pc (.tuple [.str "num", .int 0])).2 0) := rfl
  have aC : ats (.tuple [.str "same", dB, .tuple [.str "num", .int 0]]) = true := by
    show (ats (.str "same") && (ats dB && (ats (.tuple [.str "num", .int 0]) && true))) = true
    rw [aB]
    decide +kernel
  refine ⟨(by show 2 ≤ sizeLine; decide), fun l nl => ?_⟩
  have s7 := same_new (o := .lst [v1, .ref q6]) nl
  have e7 : upd X6 l (.lst [v1, .ref q6]) l = _ := upd_same
  have t7 := TabG.same t6 s7
  have D1' := D1.same s7
  have D2' := D2.same s7
  generalize upd X6 l (.lst [v1, .ref q6]) = X7 at s7 e7 t7 D1' D2'
  have s07 : Same H X7 := s1.trans (s2.trans (s3.trans (s4.trans (s5.trans (s6.trans s7)))))
  have nlP : l ≠ PT := TabG.ne t7 e7 (fun ps z => by cases z)
  refine ⟨l, rfl, ⟨_, .inl (.inl e7)⟩, for_list (K := K) (a := l) (xs := [v1, .ref q6]) (fun j σ U => ∃ y1 : Option V, σ = [some (.ref a), y1, none, none, none, none] ∧ But PT X7 U ∧ GxR.TabG U PT) ⟨none, rfl, But.refl PT X7, t7⟩ (fun j σ U _ ⟨_, _, b, _⟩ => .inl (.inl (b _ _ nlP e7))) ?_ ?_⟩
  · rintro j x σ U hx ⟨y1, rfl, b, t⟩
    have one : ∃ d, Df K [PT] X7 x d ∧ ats d = true ∧ (pc d).1 ≤ 4000 ∧ (pc d).2 > 60 := by
      rcases List.mem_cons.mp (List.mem_of_getElem? hx) with rfl | m
      · exact ⟨dA, D1', aA, by omega, by omega⟩
      · rw [List.mem_singleton.mp m]
        refine ⟨_, D2', aC, ?_, ?_⟩
        · rw [pC]
          show 1 + (pcs [dB, .tuple [.str "num", .int 0]]).1 ≤ 4000
          omega
        · rw [pC]
          show 1 + (pcs [dB, .tuple [.str "num", .int 0]]).2 > 60
          omega
    obtain ⟨d, hd, hat, p1, p2⟩ := one
    have hdU := hd.but pS b
    refine ⟨_, rfl, x, d, rfl, hdU, hat, p1, t, fun U1 b1 t1_ => ?_⟩
    rw [okM_far p2]
    refine ⟨false, false, rfl, rfl, _, rfl, iteF ?_⟩
    refine ⟨_, rfl, x, d, rfl, hdU.but pS b1, hat, p1, t1_, fun U2 b2 t2_ => ?_⟩
    rw [okM_far p2]
    refine ⟨false, false, rfl, rfl, _, rfl, iteF ?_⟩
    exact ⟨_, rfl, (b.trans b1).trans b2, t2_⟩
  rintro σ X ⟨y1, rfl, bX, tX⟩
  have bHX : But PT H X := (but_same s07).trans bX
  have bounds : ∀ n : Int, 0 ≤ n → (2 : Int) ≤ (if (if n < 6 then n else 6) > 2 then (if n < 6 then n else 6) else 2) ∧ (if (if n < 6 then n else 6) > 2 then (if n < 6 then n else 6) else 2) ≤ 6 := fun n _ => by
    split
    · split <;> omega
    · omega
  obtain ⟨bn1, bn2⟩ := bounds ((ns.map V.int).length : Nat) (Int.natCast_nonneg _)
  refine ⟨_, rfl, a, _, rfl, .inl (seqL_tab hT bHX hS), _, _, rfl, _, _, rfl, _, rfl, lo62 (by omega), hi62 (by omega), ?_⟩
  generalize (if (if (((ns.map V.int).length : Nat) : Int) < 6 then (((ns.map V.int).length : Nat) : Int) else 6) > 2 then (if (((ns.map V.int).length : Nat) : Int) < 6 then (((ns.map V.int).length : Nat) : Int) else 6) else 2) = turns at bn1 bn2 ⊢
  refine for_range (lo := 0) (n := turns.toNat) (fun i σ H' => ∃ y1 y2 y3 y4 y5 : Option V, σ = [some (.ref a), y1, y2, y3, y4, y5] ∧ But PT H H' ∧ GxR.TabG H' PT) ⟨y1, none, none, none, none, rfl, bHX, tX⟩ ?_ ?_
  · rintro i σ H0 hi ⟨y1, y2, y3, y4, y5, rfl, b0, t0⟩
    refine ⟨_, rfl, _, rfl, a, ns, i, (by show [V.ref a, V.int (0 + (i : Int))] = _; rw [Int.zero_add]), seqL_tab hT b0 hS, hb, by omega, fun f H1 s1 nf hF1 => ?_⟩
    have t1 := TabG.same t0 s1
    have fS : f ∈ [PT, f] := List.mem_cons_of_mem _ (List.mem_singleton.mpr rfl)
    have pS2 : PT ∈ [PT, f] := List.mem_cons_self
    have less : ∀ a ∈ [PT], a ∈ [PT, f] := fun a ha => by
      rw [List.mem_singleton.mp ha]
      exact pS2
    have nfP : f ≠ PT := feed_ne t1 hF1
    have K0 : ∀ U V : Hp, But PT H U → But f U V → (∀ b o, b ≠ PT → H b = some o → b ≠ f) → But PT H V := fun U V h1 h2 h3 b o n e => h2 _ _ (h3 b o n e) (h1 _ _ n e)
    have away : ∀ b o, b ≠ PT → H b = some o → b ≠ f := fun b o n e z => by
      have z2 := b0 _ _ n e
      rw [z, nf] at z2
      cases z2
    have b1 : But PT H H1 := b0.trans (but_same s1)
    refine ⟨_, rfl, (by show 3 ≤ sizeLine; decide), fun l nl => ?_⟩
    have s2 := same_new (o := .lst [.str "x", .str "n", .str "abcdefgh"]) nl
    have e2 : upd H1 l (.lst [.str "x", .str "n", .str "abcdefgh"]) l = _ := upd_same
    have hF2 := hF1.same s2
    have nlf := hF1.ne nl
    have t2 := TabG.same t1 s2
    generalize upd H1 l (.lst [.str "x", .str "n", .str "abcdefgh"]) = H2 at s2 e2 hF2 t2
    have b2 : But PT H H2 := b1.trans (but_same s2)
    have hN : NmAt H2 l [("x" : Str), "n", "abcdefgh"] := ⟨e2, by decide, good3⟩
    refine ⟨_, rfl, f, 2, rfl, by decide, by decide, hF2, fun r H3 r0 r2 b3 hF3 => ?_⟩
    have t3 := tab_but t2 hF2 b3
    have b03 := K0 _ _ b2 b3 away
    refine ⟨f, l, [PT, f], _, r, 4, rfl, fS, ls2 t3 hF3, by decide, nlf, hN.keep nlf b3, by omega, hF3, fun t v H4 m4 hd4 b4 hF4 => ?_⟩
    have t4 := tab_but t3 hF3 b4
    have b04 := K0 _ _ b03 b4 away
    have z4 : cy 4 = 638 := by decide
    have sz := m4.th.sz
    have dp := m4.th.deep
    refine ⟨_, rfl, v, t, rfl, hd4.less less, m4.th.ats, by omega, by omega, t4, fun H5 b5 t5 => ⟨_, rfl, iteF ?_⟩⟩
    have hF5 := hF4.keep nfP b5
    have hd5 : Df K [PT, f] H5 v t := hd4.but pS2 b5
    have b05 := b04.trans b5
    refine ⟨_, rfl, v, t, rfl, hd5.less less, m4.th.ats, by have := (pc_le t).1; omega, t5, fun H6 b6 t6 => ?_⟩
    rw [okM_small (by omega) (by omega), wf_mono (show r ≤ 1 by omega) m4.wf]
    have hF6 := hF5.keep nfP b6
    have hd6 : Df K [PT, f] H6 v t := hd5.but pS2 b6
    have b06 := b05.trans b6
    refine ⟨true, true, rfl, rfl, _, rfl, iteF ?_⟩
    refine ⟨4, rfl, by decide, by decide, ?_⟩
    refine for_range (lo := 0) (n := 4) (fun j σ U => ∃ y1 y5 : Option V, σ = [some (.ref a), y1, some (.int (0 + (i : Int))), some (.ref f), some v, y5] ∧ But PT H U ∧ GxR.TabG U PT ∧ FeedAt U f ∧ Df K [PT, f] U v t) ⟨y1, y5, rfl, b06, t6, hF6, hd6⟩ ?_ ?_
    · rintro j σ U0 hj ⟨y1, y5, rfl, c0, e0, g0, k0⟩
      refine ⟨_, rfl, _, rfl, f, [PT, f], v, t, rfl, fS, ls2 e0 g0, k0, m4.th.ats, by omega, by omega, g0, fun v1 d1 U1 k1 n1 c1 g1 => ?_⟩
      have e1 := tab_but e0 g0 c1
      have c01 := K0 _ _ c0 c1 away
      have kv1 : Df K [PT, f] U1 v t := k0.but fS c1
      refine ⟨_, rfl, f, 3, rfl, by decide, by decide, g1, fun r U2 _ _ c2 g2 => ⟨rfl, _, rfl, ?_⟩⟩
      have e2 := tab_but e1 g1 c2
      have c02 := K0 _ _ c01 c2 away
      have kv2 : Df K [PT, f] U2 v t := kv1.but fS c2
      have k2 : Df K [PT, f] U2 v1 d1 := k1.but fS c2
      have a1 := n1.deep
      have a2 := n1.sz
      apply joinS (C := fun σ Y => ∃ (v2 : V) (d2 : PyData), σ = [some (.ref a), some v2, some (.int (0 + (i : Int))), some (.ref f), some v, some (.int (0 + (j : Int)))] ∧ But PT H Y ∧ GxR.TabG Y PT ∧ FeedAt Y f ∧ Df K [PT, f] Y v t ∧ Df K [PT, f] Y v2 d2 ∧ Th 18 700 d2)
      · intro rest
        refine ite2 (fun _ => ?_) (fun _ => rest _ _ ⟨v1, d1, rfl, c02, e2, g2, kv2, k2, ⟨n1.ats, by omega, by omega⟩⟩)
        refine ⟨_, rfl, _, rfl, f, [PT, f], v1, d1, rfl, fS, ls2 e2 g2, k2, n1.ats, by omega, by omega, g2, fun v2 d2 U3 k3 n3 c3 g3 => ?_⟩
        have a3 := n3.deep
        have a4 := n3.sz
        exact rest _ _ ⟨v2, d2, rfl, K0 _ _ c02 c3 away, tab_but e2 g2 c3, g3, kv2.but fS c3, k3, ⟨n3.ats, by omega, by omega⟩⟩
      · rintro σ Y ⟨x, e, rfl, cY, tY, gY, kY, xY, th⟩
        have de := th.deep
        have se := th.sz
        refine ⟨_, rfl, x, e, rfl, xY.less less, th.ats, by omega, by omega, tY, fun Y3 d3_ t3_ => ⟨_, rfl, iteF ?_⟩⟩
        exact ⟨_, _, rfl, cY.trans d3_, t3_, gY.keep nfP d3_, kY.but pS2 d3_⟩
    · rintro σ U ⟨y1, y5, rfl, c, e, _, _⟩
      exact ⟨_, _, _, _, _, rfl, c, e⟩
  · rintro σ H0 ⟨y1, y2, y3, y4, y5, rfl, b0, t0⟩
    exact q _
end
end Kf
set_option Elab.async false
set_option linter.all false
set_option maxRecDepth 100000
/-! A word that is no key of the table. -/
namespace Kf
open PySem PySem.Spec PyProof.Rows L2 Sx
abbrev words : List Str := table.map (·.1)
theorem look_none {α β : Type} [BEq α] [LawfulBEq α] : ∀ {l : List (α × β)} {a : α}, l.lookup a = none → ∀ p ∈ l, p.1 ≠ a
  | [], a, _, p, hp => (List.not_mem_nil hp).elim
  | (x, y) :: l, a, h, p, hp => by
    rw [List.lookup_cons] at h
    cases e : a == x with
    | true =>
      rw [e] at h
      cases h
    | false =>
      rw [e] at h
      rcases List.mem_cons.mp hp with rfl | hp
      · intro z
        have z2 : x = a := z
        rw [z2, beq_self_eq_true] at e
        cases e
      · exact look_none h p hp
theorem ns_none {K : PySem.W.Frag} {Pr : Params} {FV : Addr} {es : Array DictEntry} {n : Nat} {wd : Str} (o : K.lookup FV = some ⟨.type "dict", none, .dict es n, #[]⟩) (lit : PySem.W.KeysLit Pr es.toList) (keys : (es.toList.all fun e => words.any fun z => e.key.isStr z) = true) (no : table.lookup wd = none) : PySem.W.nsIn K FV wd = some none := by
  have find : es.toList.find? (·.key.isStr wd) = none := by
    rw [List.find?_eq_none]
    intro e he z
    obtain ⟨x, t, ek, _⟩ := lit.all e he
    have k := List.all_eq_true.mp keys e he
    obtain ⟨y, hy, ey⟩ := List.any_eq_true.mp k
    rw [ek] at z ey
    have z2 : (x == wd) = true := z
    have ey2 : (x == y) = true := ey
    have e1 := LawfulBEq.eq_of_beq z2
    have e2 := LawfulBEq.eq_of_beq ey2
    obtain ⟨p, hp, e3⟩ := List.mem_map.mp hy
    exact look_none no p hp (by rw [e3, ← e2, e1])
  have refs : es.toList.any (·.refKey) = false := by
    rw [List.any_eq_false]
    intro e he z
    obtain ⟨x, t, ek, _⟩ := lit.all e he
    unfold DictEntry.refKey at z
    rw [ek] at z
    cases z
  unfold PySem.W.nsIn
  rw [o]
  dsimp only
  rw [find, refs]
  rfl
end Kf
set_option Elab.async false
set_option linter.all false
set_option maxRecDepth 100000
/-! The top, the end. -/
namespace Kf
open PySem PySem.Spec PyProof.Rows L2 Sx Gd
theorem all_mk {l : PySem.W.OpenLaw} {w : World} {K : PySem.W.Frag} {h : Heap} {mg : Str → Option Value} {fa f1 f2 f3 f4 f5 f6 f7 f8 f9 f10 f11 f12 f13 f14 f15 f16 f17 f18 f19 f20 f21 f22 f23 cw1 PT1 : Addr} (X : K.In h) (G : h.Ns mainGlobals mg) (hfa : mg "law" = some (.ref fa)) (own : ∀ nm ∈ [Str.ofString "is_word"], ∀ fw, mg nm = some (.ref fw) → LamX.OwnTab K fw h)
    {od1 an1 od2 an2 od3 an3 od4 an4 od5 an5 od6 an6 od7 an7 od8 an8 od9 an9 od10 an10 od11 an11 od12 an12 od13 an13 od14 an14 od15 an15 od16 an16 od17 an17 od18 an18 od19 an19 od20 an20 od21 an21 od22 an22 od23 an23 : Option Addr} {sl1 sl2 sl3 sl4 sl5 sl6 sl7 sl8 sl9 sl10 sl11 sl12 sl13 sl14 sl15 sl16 sl17 sl18 sl19 sl20 sl21 sl22 sl23 : Array (Option Value)} {oc1 kV1 dc1 pm1 cd1 ct1 oc2 kV2 dc2 pm2 cd2 ct2 oc3 kV3 dc3 pm3 ct3 oc4 kV4 dc4 pm4 cd4 ct4 oc5 kV5 dc5 pm5 cd5 ct5 oc6 kV6 dc6 pm6 cd6 ct6 oc7 kV7 dc7 pm7 cd7 ct7 oc8 kV8 dc8 pm8 cd8 ct8 oc9 kV9 dc9 pm9 cd9 ct9 oc10 kV10 dc10 pm10 cd10 ct10 oc11 kV11 dc11 pm11 cd11 ct11 oc12 kV12 dc12 pm12 cd12 ct12 oc13 kV13 dc13 pm13 cd13 ct13 oc14 kV14 dc14 pm14 cd14 ct14 oc15 kV15 dc15 pm15 cd15 ct15 oc16 kV16 dc16 pm16 cd16 ct16 oc17 kV17 dc17 pm17 cd17 ct17 oc18 kV18 dc18 pm18 cd18 ct18 oc19 kV19 dc19 pm19 cd19 ct19 oc20 kV20 dc20 pm20 cd20 ct20 oc21 kV21 dc21 pm21 cd21 ct21 oc22 kV22 dc22 pm22 cd22 ct22 oc23 kV23 dc23 pm23 cd23 ct23 : Value}
    {ddC1 : Option Addr} {slC1 : Array (Option Value)} {tf1 tg1 tt1 : Tok} {vs1 : Array Value} {flags1 text1 : Int} {file1 : Str} {inF1 : Bool}
    (a1 : PySem.W.nsIn K mainGlobals "beneath" = some (some (.ref f1))) (l1 : K.lookup f1 = some ⟨oc1, od1, .func (PySem.W.fnOf "beneath" "beneath" (defArgs sBeneath) (defBody sBeneath) (defScope sBeneath) .none kV1 dc1 pm1 an1 cd1 ct1), sl1⟩) (c1 : PySem.W.codeIn K cd1 "beneath" = true) (k1 : PySem.W.keepIn K (.ref f1) = true)
    (a2 : PySem.W.nsIn K mainGlobals "is_whole" = some (some (.ref f2))) (l2 : K.lookup f2 = some ⟨oc2, od2, .func (PySem.W.fnOf "is_whole" "is_whole" (defArgs sWhole) (defBody sWhole) (defScope sWhole) .none kV2 dc2 pm2 an2 cd2 ct2), sl2⟩) (c2 : PySem.W.codeIn K cd2 "is_whole" = true) (k2 : PySem.W.keepIn K (.ref f2) = true)
    (a3 : PySem.W.nsIn K mainGlobals "is_word" = some (some (.ref f3))) (l3 : K.lookup f3 = some ⟨oc3, od3, .func (PySem.W.fnOf "is_word" "is_word" (defArgs sWord) (defBody sWord) (defScope sWord) .none kV3 dc3 pm3 an3 (.ref cw1) ct3), sl3⟩) (c3 : PySem.W.codeIn K (.ref cw1) "is_word" = true) (k3 : PySem.W.keepIn K (.ref f3) = true)
    (a4 : PySem.W.nsIn K mainGlobals "is_leaf" = some (some (.ref f4))) (l4 : K.lookup f4 = some ⟨oc4, od4, .func (PySem.W.fnOf "is_leaf" "is_leaf" (defArgs sIsLeaf) (defBody sIsLeaf) (defScope sIsLeaf) .none kV4 dc4 pm4 an4 cd4 ct4), sl4⟩) (c4 : PySem.W.codeIn K cd4 "is_leaf" = true) (k4 : PySem.W.keepIn K (.ref f4) = true)
    (a5 : PySem.W.nsIn K mainGlobals "has_form" = some (some (.ref f5))) (l5 : K.lookup f5 = some ⟨oc5, od5, .func (PySem.W.fnOf "has_form" "has_form" (defArgs sForm) (defBody sForm) (defScope sForm) .none kV5 dc5 pm5 an5 cd5 ct5), sl5⟩) (c5 : PySem.W.codeIn K cd5 "has_form" = true) (k5 : PySem.W.keepIn K (.ref f5) = true)
    (a6 : PySem.W.nsIn K mainGlobals "is_made" = some (some (.ref f6))) (l6 : K.lookup f6 = some ⟨oc6, od6, .func (PySem.W.fnOf "is_made" "is_made" (defArgs sMade) (defBody sMade) (defScope sMade) .none kV6 dc6 pm6 an6 cd6 ct6), sl6⟩) (c6 : PySem.W.codeIn K cd6 "is_made" = true) (k6 : PySem.W.keepIn K (.ref f6) = true)
    (a7 : PySem.W.nsIn K mainGlobals "is_saying" = some (some (.ref f7))) (l7 : K.lookup f7 = some ⟨oc7, od7, .func (PySem.W.fnOf "is_saying" "is_saying" (defArgs sIsSaying) (defBody sIsSaying) (defScope sIsSaying) .none kV7 dc7 pm7 an7 cd7 ct7), sl7⟩) (c7 : PySem.W.codeIn K cd7 "is_saying" = true) (k7 : PySem.W.keepIn K (.ref f7) = true)
    (a8 : PySem.W.nsIn K mainGlobals "is_body" = some (some (.ref f8))) (l8 : K.lookup f8 = some ⟨oc8, od8, .func (PySem.W.fnOf "is_body" "is_body" (defArgs sIsBody) (defBody sIsBody) (defScope sIsBody) .none kV8 dc8 pm8 an8 cd8 ct8), sl8⟩) (c8 : PySem.W.codeIn K cd8 "is_body" = true) (k8 : PySem.W.keepIn K (.ref f8) = true)
    (a9 : PySem.W.nsIn K mainGlobals "_law_feed" = some (some (.ref f9))) (l9 : K.lookup f9 = some ⟨oc9, od9, .func (PySem.W.fnOf "_law_feed" "_law_feed" (defArgs sFeed) (defBody sFeed) (defScope sFeed) .none kV9 dc9 pm9 an9 cd9 ct9), sl9⟩) (c9 : PySem.W.codeIn K cd9 "_law_feed" = true) (k9 : PySem.W.keepIn K (.ref f9) = true)
    (a10 : PySem.W.nsIn K mainGlobals "_law_take" = some (some (.ref f10))) (l10 : K.lookup f10 = some ⟨oc10, od10, .func (PySem.W.fnOf "_law_take" "_law_take" (defArgs sTake) (defBody sTake) (defScope sTake) .none kV10 dc10 pm10 an10 cd10 ct10), sl10⟩) (c10 : PySem.W.codeIn K cd10 "_law_take" = true) (k10 : PySem.W.keepIn K (.ref f10) = true)
    (a11 : PySem.W.nsIn K mainGlobals "_law_pick" = some (some (.ref f11))) (l11 : K.lookup f11 = some ⟨oc11, od11, .func (PySem.W.fnOf "_law_pick" "_law_pick" (defArgs sPick) (defBody sPick) (defScope sPick) .none kV11 dc11 pm11 an11 cd11 ct11), sl11⟩) (c11 : PySem.W.codeIn K cd11 "_law_pick" = true) (k11 : PySem.W.keepIn K (.ref f11) = true)
    (a12 : PySem.W.nsIn K mainGlobals "_law_leaf" = some (some (.ref f12))) (l12 : K.lookup f12 = some ⟨oc12, od12, .func (PySem.W.fnOf "_law_leaf" "_law_leaf" (defArgs sLeaf) (defBody sLeaf) (defScope sLeaf) .none kV12 dc12 pm12 an12 cd12 ct12), sl12⟩) (c12 : PySem.W.codeIn K cd12 "_law_leaf" = true) (k12 : PySem.W.keepIn K (.ref f12) = true)
    (a13 : PySem.W.nsIn K mainGlobals "_law_term" = some (some (.ref f13))) (l13 : K.lookup f13 = some ⟨oc13, od13, .func (PySem.W.fnOf "_law_term" "_law_term" (defArgs sTerm) (defBody sTerm) (defScope sTerm) .none kV13 dc13 pm13 an13 cd13 ct13), sl13⟩) (c13 : PySem.W.codeIn K cd13 "_law_term" = true) (k13 : PySem.W.keepIn K (.ref f13) = true)
    (a14 : PySem.W.nsIn K mainGlobals "_law_saying" = some (some (.ref f14))) (l14 : K.lookup f14 = some ⟨oc14, od14, .func (PySem.W.fnOf "_law_saying" "_law_saying" (defArgs sSay) (defBody sSay) (defScope sSay) .none kV14 dc14 pm14 an14 cd14 ct14), sl14⟩) (c14 : PySem.W.codeIn K cd14 "_law_saying" = true) (k14 : PySem.W.keepIn K (.ref f14) = true)
    (a15 : PySem.W.nsIn K mainGlobals "_law_is_word" = some (some (.ref f15))) (l15 : K.lookup f15 = some ⟨oc15, od15, .func (PySem.W.fnOf "_law_is_word" "_law_is_word" (defArgs sLW) (defBody sLW) (defScope sLW) .none kV15 dc15 pm15 an15 cd15 ct15), sl15⟩) (c15 : PySem.W.codeIn K cd15 "_law_is_word" = true) (k15 : PySem.W.keepIn K (.ref f15) = true)
    (a16 : PySem.W.nsIn K mainGlobals "_law_is_number" = some (some (.ref f16))) (l16 : K.lookup f16 = some ⟨oc16, od16, .func (PySem.W.fnOf "_law_is_number" "_law_is_number" (defArgs sLN) (defBody sLN) (defScope sLN) .none kV16 dc16 pm16 an16 cd16 ct16), sl16⟩) (c16 : PySem.W.codeIn K cd16 "_law_is_number" = true) (k16 : PySem.W.keepIn K (.ref f16) = true)
    (a17 : PySem.W.nsIn K mainGlobals "_law_term_size" = some (some (.ref f17))) (l17 : K.lookup f17 = some ⟨oc17, od17, .func (PySem.W.fnOf "_law_term_size" "_law_term_size" (defArgs sTS) (defBody sTS) (defScope sTS) .none kV17 dc17 pm17 an17 cd17 ct17), sl17⟩) (c17 : PySem.W.codeIn K cd17 "_law_term_size" = true) (k17 : PySem.W.keepIn K (.ref f17) = true)
    (a18 : PySem.W.nsIn K mainGlobals "_law_size" = some (some (.ref f18))) (l18 : K.lookup f18 = some ⟨oc18, od18, .func (PySem.W.fnOf "_law_size" "_law_size" (defArgs sZ) (defBody sZ) (defScope sZ) .none kV18 dc18 pm18 an18 cd18 ct18), sl18⟩) (c18 : PySem.W.codeIn K cd18 "_law_size" = true) (k18 : PySem.W.keepIn K (.ref f18) = true)
    (a19 : PySem.W.nsIn K mainGlobals "_law_odd" = some (some (.ref f19))) (l19 : K.lookup f19 = some ⟨oc19, od19, .func (PySem.W.fnOf "_law_odd" "_law_odd" (defArgs sOdd) (defBody sOdd) (defScope sOdd) .none kV19 dc19 pm19 an19 cd19 ct19), sl19⟩) (c19 : PySem.W.codeIn K cd19 "_law_odd" = true) (k19 : PySem.W.keepIn K (.ref f19) = true)
    (a20 : PySem.W.nsIn K mainGlobals "_law_bent" = some (some (.ref f20))) (l20 : K.lookup f20 = some ⟨oc20, od20, .func (PySem.W.fnOf "_law_bent" "_law_bent" (defArgs sBent) (defBody sBent) (defScope sBent) .none kV20 dc20 pm20 an20 cd20 ct20), sl20⟩) (c20 : PySem.W.codeIn K cd20 "_law_bent" = true) (k20 : PySem.W.keepIn K (.ref f20) = true)
    (a21 : PySem.W.nsIn K mainGlobals "_law_right" = some (some (.ref f21))) (l21 : K.lookup f21 = some ⟨oc21, od21, .func (PySem.W.fnOf "_law_right" "_law_right" (defArgs sR) (defBody sR) (defScope sR) .none kV21 dc21 pm21 an21 cd21 ct21), sl21⟩) (c21 : PySem.W.codeIn K cd21 "_law_right" = true) (k21 : PySem.W.keepIn K (.ref f21) = true)
    (a22 : PySem.W.nsIn K mainGlobals "_law_far" = some (some (.ref f22))) (l22 : K.lookup f22 = some ⟨oc22, od22, .func (PySem.W.fnOf "_law_far" "_law_far" (defArgs sFar) (defBody sFar) (defScope sFar) .none kV22 dc22 pm22 an22 cd22 ct22), sl22⟩) (c22 : PySem.W.codeIn K cd22 "_law_far" = true) (k22 : PySem.W.keepIn K (.ref f22) = true)
    (a23 : PySem.W.nsIn K mainGlobals "law" = some (some (.ref f23))) (l23 : K.lookup f23 = some ⟨oc23, od23, .func (PySem.W.fnOf "law" "law" (defArgs sLaw) (defBody sLaw) (defScope sLaw) .none kV23 dc23 pm23 an23 cd23 ct23), sl23⟩) (c23 : PySem.W.codeIn K cd23 "law" = true) (k23 : PySem.W.keepIn K (.ref f23) = true)
    (zrange : PySem.W.nsIn K mainGlobals "range" = some none)
    (zmax : PySem.W.nsIn K mainGlobals "max" = some none)
    (zmin : PySem.W.nsIn K mainGlobals "min" = some none)
    (zlen : PySem.W.nsIn K mainGlobals "len" = some none)
    (zabs : PySem.W.nsIn K mainGlobals "abs" = some none)
    (zisinstance : PySem.W.nsIn K mainGlobals "isinstance" = some none)
    (zint : PySem.W.nsIn K mainGlobals "int" = some none)
    (zbool : PySem.W.nsIn K mainGlobals "bool" = some none)
    (zstr : PySem.W.nsIn K mainGlobals "str" = some none)
    (ztuple : PySem.W.nsIn K mainGlobals "tuple" = some none)
    (zlist : PySem.W.nsIn K mainGlobals "list" = some none)
    (zall : PySem.W.nsIn K mainGlobals "all" = some none)
    (zzip : PySem.W.nsIn K mainGlobals "zip" = some none)
    (zrepr : PySem.W.nsIn K mainGlobals "repr" = some none)
    {FV ga1 gb1 ga2 gb2 ga3 gb3 ga4 gb4 ga5 gb5 ga6 gb6 ga7 gb7 ga8 gb8 ga9 gb9 ga10 gb10 : Addr} {da1 db1 da2 db2 da3 db3 da4 db4 da5 db5 da6 db6 da7 db7 da8 db8 da9 db9 da10 db10 : Option Addr} {sa1 sb1 sa2 sb2 sa3 sb3 sa4 sb4 sa5 sb5 sa6 sb6 sa7 sb7 sa8 sb8 sa9 sb9 sa10 sb10 : Array (Option Value)} {nF na1 nb1 na2 nb2 na3 nb3 na4 nb4 na5 nb5 na6 nb6 na7 nb7 na8 nb8 na9 nb9 na10 nb10 : Nat} {ta1 tb1 ta2 tb2 tc2 ta3 tb3 tc3 ta4 tb4 tc4 ta5 ta6 tb6 tc6 ta7 tb7 tc7 ta8 tb8 tc8 ta9 tb9 ta10 tb10 : Tok} {es : Array DictEntry} (aF : PySem.W.nsIn K mainGlobals "FORMS" = some (some (.ref FV))) (oF : K.lookup FV = some ⟨.type "dict", none, .dict es nF, #[]⟩) (litF : PySem.W.KeysLit w.params es.toList) (lowF : (FV == sysModules) = false)
    (n1 : PySem.W.nsIn K FV "next" = some (some (.ref ga1))) (p1 : K.lookup ga1 = some ⟨.type "tuple", da1, .seq #[.str "term" ta1, .ref gb1] na1, sa1⟩) (q1 : K.lookup gb1 = some ⟨.type "tuple", db1, .seq #[.str "term" tb1] nb1, sb1⟩)
    (n2 : PySem.W.nsIn K FV "plus" = some (some (.ref ga2))) (p2 : K.lookup ga2 = some ⟨.type "tuple", da2, .seq #[.str "term" ta2, .ref gb2] na2, sa2⟩) (q2 : K.lookup gb2 = some ⟨.type "tuple", db2, .seq #[.str "term" tb2, .str "term" tc2] nb2, sb2⟩)
    (n3 : PySem.W.nsIn K FV "times" = some (some (.ref ga3))) (p3 : K.lookup ga3 = some ⟨.type "tuple", da3, .seq #[.str "term" ta3, .ref gb3] na3, sa3⟩) (q3 : K.lookup gb3 = some ⟨.type "tuple", db3, .seq #[.str "term" tb3, .str "term" tc3] nb3, sb3⟩)
    (n4 : PySem.W.nsIn K FV "same" = some (some (.ref ga4))) (p4 : K.lookup ga4 = some ⟨.type "tuple", da4, .seq #[.str "saying" ta4, .ref gb4] na4, sa4⟩) (q4 : K.lookup gb4 = some ⟨.type "tuple", db4, .seq #[.str "term" tb4, .str "term" tc4] nb4, sb4⟩)
    (n5 : PySem.W.nsIn K FV "no" = some (some (.ref ga5))) (p5 : K.lookup ga5 = some ⟨.type "tuple", da5, .seq #[.str "saying" ta5, .ref gb5] na5, sa5⟩) (q5 : K.lookup gb5 = some ⟨.type "tuple", db5, .seq #[] nb5, sb5⟩)
    (n6 : PySem.W.nsIn K FV "and" = some (some (.ref ga6))) (p6 : K.lookup ga6 = some ⟨.type "tuple", da6, .seq #[.str "saying" ta6, .ref gb6] na6, sa6⟩) (q6 : K.lookup gb6 = some ⟨.type "tuple", db6, .seq #[.str "saying" tb6, .str "saying" tc6] nb6, sb6⟩)
    (n7 : PySem.W.nsIn K FV "or" = some (some (.ref ga7))) (p7 : K.lookup ga7 = some ⟨.type "tuple", da7, .seq #[.str "saying" ta7, .ref gb7] na7, sa7⟩) (q7 : K.lookup gb7 = some ⟨.type "tuple", db7, .seq #[.str "saying" tb7, .str "saying" tc7] nb7, sb7⟩)
    (n8 : PySem.W.nsIn K FV "if" = some (some (.ref ga8))) (p8 : K.lookup ga8 = some ⟨.type "tuple", da8, .seq #[.str "saying" ta8, .ref gb8] na8, sa8⟩) (q8 : K.lookup gb8 = some ⟨.type "tuple", db8, .seq #[.str "saying" tb8, .str "saying" tc8] nb8, sb8⟩)
    (n9 : PySem.W.nsIn K FV "all" = some (some (.ref ga9))) (p9 : K.lookup ga9 = some ⟨.type "tuple", da9, .seq #[.str "saying" ta9, .ref gb9] na9, sa9⟩) (q9 : K.lookup gb9 = some ⟨.type "tuple", db9, .seq #[.str "saying" tb9] nb9, sb9⟩)
    (n10 : PySem.W.nsIn K FV "some" = some (some (.ref ga10))) (p10 : K.lookup ga10 = some ⟨.type "tuple", da10, .seq #[.str "saying" ta10, .ref gb10] na10, sa10⟩) (q10 : K.lookup gb10 = some ⟨.type "tuple", db10, .seq #[.str "saying" tb10] nb10, sb10⟩) (keysF : (es.toList.all fun e => words.any fun z => e.key.isStr z) = true)
    {LV BV : Addr} {ddL ddB : Option Addr} {slL slB : Array (Option Value)} {nL nB : Nat} {t1 t2 t3 t4 t5 : Tok} (aL : PySem.W.nsIn K mainGlobals "LEAVES" = some (some (.ref LV))) (oL : K.lookup LV = some ⟨.type "tuple", ddL, .seq #[.str "num" t1, .str "name" t2, .str "bound" t3] nL, slL⟩) (aB : PySem.W.nsIn K mainGlobals "BINDERS" = some (some (.ref BV))) (oB : K.lookup BV = some ⟨.type "tuple", ddB, .seq #[.str "all" t4, .str "some" t5] nB, slB⟩)
    {gN : Int} {tG tT tM tP tW : Tok} (aG : PySem.W.nsIn K mainGlobals "TOO_GREAT" = some (some (.int gN tG))) (eG : gN = 10 ^ 60) (aT : PySem.W.nsIn K mainGlobals "LETTERS" = some (some (.str abc tT))) (aM : PySem.W.nsIn K mainGlobals "MOST_LETTERS" = some (some (.int 8 tM))) (aP : PySem.W.nsIn K mainGlobals "MOST_PIECES" = some (some (.int 400 tP))) (aW : PySem.W.nsIn K mainGlobals "MOST_WITHIN" = some (some (.int 60 tW)))
    (lC1 : K.lookup cw1 = some ⟨.type "code", ddC1, .fields vs1, slC1⟩) (v111 : vs1[11]? = some (.ref PT1)) (g111 : vs1.getD 11 .none = .ref PT1) (g181 : vs1.getD 18 .none = .str file1 tf1) (g71 : vs1.getD 7 .none = .int flags1 tg1) (g91 : vs1.getD 9 .none = .bool inF1) (g101 : vs1.getD 10 .none = .int text1 tt1) (ncp1 : cw1 ≠ PT1) (nPT1 : K.lookup PT1 = none) :
    LawG l w K 51 63 "script" mg fa h := by
  have e := hfa.symm.trans (PySem.W.mg_of X G a23)
  cases e
  have F1 := fun_mk (st := sBeneath) l1 c1 k1
  have b1 := F1.binds (ps := ["piece", "around"]) fun _ _ _ _ _ _ us hl => match us, hl with | [_, _], _ => rfl
  have m1 := PySem.W.mg_of X G a1
  have F2 := fun_mk (st := sWhole) l2 c2 k2
  have b2 := F2.binds (ps := ["thing"]) fun _ _ _ _ _ _ us hl => match us, hl with | [_], _ => rfl
  have m2 := PySem.W.mg_of X G a2
  have F3 := fun_mk (st := sWord) l3 c3 k3
  have b3 := F3.binds (ps := ["thing"]) fun _ _ _ _ _ _ us hl => match us, hl with | [_], _ => rfl
  have m3 := PySem.W.mg_of X G a3
  have F4 := fun_mk (st := sIsLeaf) l4 c4 k4
  have b4 := F4.binds (ps := ["piece", "bounds"]) fun _ _ _ _ _ _ us hl => match us, hl with | [_, _], _ => rfl
  have m4 := PySem.W.mg_of X G a4
  have F5 := fun_mk (st := sForm) l5 c5 k5
  have b5 := F5.binds (ps := ["piece", "kind", "bounds"]) fun _ _ _ _ _ _ us hl => match us, hl with | [_, _, _], _ => rfl
  have m5 := PySem.W.mg_of X G a5
  have F6 := fun_mk (st := sMade) l6 c6 k6
  have b6 := F6.binds (ps := ["thing", "kind", "slack"]) fun _ _ _ _ _ _ us hl => match us, hl with | [_, _, _], _ => rfl
  have m6 := PySem.W.mg_of X G a6
  have F7 := fun_mk (st := sIsSaying) l7 c7 k7
  have b7 := F7.binds (ps := ["thing"]) fun _ _ _ _ _ _ us hl => match us, hl with | [_], _ => rfl
  have m7 := PySem.W.mg_of X G a7
  have F8 := fun_mk (st := sIsBody) l8 c8 k8
  have b8 := F8.binds (ps := ["thing"]) fun _ _ _ _ _ _ us hl => match us, hl with | [_], _ => rfl
  have m8 := PySem.W.mg_of X G a8
  have F9 := fun_mk (st := sFeed) l9 c9 k9
  have b9 := F9.binds (ps := ["script", "k"]) fun _ _ _ _ _ _ us hl => match us, hl with | [_, _], _ => rfl
  have m9 := PySem.W.mg_of X G a9
  have F10 := fun_mk (st := sTake) l10 c10 k10
  have b10 := F10.binds (ps := ["feed", "many"]) fun _ _ _ _ _ _ us hl => match us, hl with | [_, _], _ => rfl
  have m10 := PySem.W.mg_of X G a10
  have F11 := fun_mk (st := sPick) l11 c11 k11
  have b11 := F11.binds (ps := ["feed", "some"]) fun _ _ _ _ _ _ us hl => match us, hl with | [_, _], _ => rfl
  have m11 := PySem.W.mg_of X G a11
  have F12 := fun_mk (st := sLeaf) l12 c12 k12
  have b12 := F12.binds (ps := ["feed", "names", "around"]) fun _ _ _ _ _ _ us hl => match us, hl with | [_, _, _], _ => rfl
  have m12 := PySem.W.mg_of X G a12
  have F13 := fun_mk (st := sTerm) l13 c13 k13
  have b13 := F13.binds (ps := ["feed", "deep", "names", "around"]) fun _ _ _ _ _ _ us hl => match us, hl with | [_, _, _, _], _ => rfl
  have m13 := PySem.W.mg_of X G a13
  have F14 := fun_mk (st := sSay) l14 c14 k14
  have b14 := F14.binds (ps := ["feed", "deep", "names", "around"]) fun _ _ _ _ _ _ us hl => match us, hl with | [_, _, _, _], _ => rfl
  have m14 := PySem.W.mg_of X G a14
  have F15 := fun_mk (st := sLW) l15 c15 k15
  have b15 := F15.binds (ps := ["thing"]) fun _ _ _ _ _ _ us hl => match us, hl with | [_], _ => rfl
  have m15 := PySem.W.mg_of X G a15
  have F16 := fun_mk (st := sLN) l16 c16 k16
  have b16 := F16.binds (ps := ["thing"]) fun _ _ _ _ _ _ us hl => match us, hl with | [_], _ => rfl
  have m16 := PySem.W.mg_of X G a16
  have F17 := fun_mk (st := sTS) l17 c17 k17
  have b17 := F17.binds (ps := ["thing", "deep", "around"]) fun _ _ _ _ _ _ us hl => match us, hl with | [_, _, _], _ => rfl
  have m17 := PySem.W.mg_of X G a17
  have F18 := fun_mk (st := sZ) l18 c18 k18
  have b18 := F18.binds (ps := ["thing", "deep", "around"]) fun _ _ _ _ _ _ us hl => match us, hl with | [_, _, _], _ => rfl
  have m18 := PySem.W.mg_of X G a18
  have F19 := fun_mk (st := sOdd) l19 c19 k19
  have b19 := F19.binds (ps := ["feed", "thing"]) fun _ _ _ _ _ _ us hl => match us, hl with | [_, _], _ => rfl
  have m19 := PySem.W.mg_of X G a19
  have F20 := fun_mk (st := sBent) l20 c20 k20
  have b20 := F20.binds (ps := ["feed", "thing"]) fun _ _ _ _ _ _ us hl => match us, hl with | [_, _], _ => rfl
  have m20 := PySem.W.mg_of X G a20
  have F21 := fun_mk (st := sR) l21 c21 k21
  have b21 := F21.binds (ps := ["thing"]) fun _ _ _ _ _ _ us hl => match us, hl with | [_], _ => rfl
  have m21 := PySem.W.mg_of X G a21
  have F22 := fun_mk (st := sFar) l22 c22 k22
  have b22 := F22.binds (ps := ["word", "first", "many"]) fun _ _ _ _ _ _ us hl => match us, hl with | [_, _, _], _ => rfl
  have m22 := PySem.W.mg_of X G a22
  have F23 := fun_mk (st := sLaw) l23 c23 k23
  have m23 := PySem.W.mg_of X G a23
  have grange := PySem.W.mg_none_of X G zrange
  have gmax := PySem.W.mg_none_of X G zmax
  have gmin := PySem.W.mg_none_of X G zmin
  have glen := PySem.W.mg_none_of X G zlen
  have gabs := PySem.W.mg_none_of X G zabs
  have gisinstance := PySem.W.mg_none_of X G zisinstance
  have gint := PySem.W.mg_none_of X G zint
  have gbool := PySem.W.mg_none_of X G zbool
  have gstr := PySem.W.mg_none_of X G zstr
  have gtuple := PySem.W.mg_none_of X G ztuple
  have glist := PySem.W.mg_none_of X G zlist
  have gall := PySem.W.mg_none_of X G zall
  have gzip := PySem.W.mg_none_of X G zzip
  have grepr := PySem.W.mg_none_of X G zrepr
  have empty1 : h.get? PT1 = some { cls := .none, data := .fields #[] } := own _ List.mem_cons_self f3 m3 cw1 PT1 _ _ _ _ _ _ l3 rfl rfl lC1 v111
  have hE : ∀ p ∈ ([(cw1, PT1)] : List (Addr × Addr)), h.get? p.2 = some { cls := .none, data := .fields #[] } := by
    intro p hp
    · cases List.mem_singleton.mp hp
      exact empty1
  have hN : ∀ p ∈ ([(cw1, PT1)] : List (Addr × Addr)), K.lookup p.2 = none := by
    intro p hp
    · cases List.mem_singleton.mp hp
      exact nPT1
  have hC : ∀ p ∈ ([(cw1, PT1)] : List (Addr × Addr)), PySem.W.CodeHd h p.1 p.2 := by
    intro p hp
    · cases List.mem_singleton.mp hp
      exact ⟨_, vs1, file1, tf1, flags1, tg1, inF1, text1, tt1, X _ _ lC1, rfl, rfl, v111, g111, g181, g71, g91, g101, ncp1⟩
  refine ⟨PySem.W.fnOf "law" "law" (defArgs sLaw) (defBody sLaw) (defScope sLaw) .none kV23 dc23 pm23 an23 cd23 ct23, [(cw1, PT1)], spLaw K PT1, hE, hN, hC, fun s v => .of_eq rfl,
    fun H a ns hl hb ht hS => ⟨a, ns, rfl, hS, hl, hb, ⟨#[], ht (cw1, PT1) List.mem_cons_self, trivial⟩, fun _ => rfl⟩, fun base _ _ tabs => ?_⟩
  have tab1 : GxR.TabB base mg cw1 PT1 := by
    have t := tabs (cw1, PT1) List.mem_cons_self
    exact ⟨t.code, t.bm, t.gP⟩
  have form : ∀ wd k ks, (wd, k, ks) ∈ table → ∃ fa fb, PySem.W.nsIn K FV wd = some (some (.ref fa)) ∧ (∀ H, SqT K H fa [.str k, .ref fb]) ∧ ∀ H, SqT K H fb (ks.map V.str) := by
    intro wd k ks hm
    rcases List.mem_cons.mp hm with e | hm
    · cases e
      exact ⟨_, _, n1, fun H => .inr ⟨_, _, _, p1, rfl, rfl, (by show 2 ≤ sizeLine; decide), .cons ⟨_, rfl⟩ (.cons rfl .nil)⟩, fun H => .inr ⟨_, _, _, q1, rfl, rfl, (by show 1 ≤ sizeLine; decide), .cons ⟨_, rfl⟩ (.nil)⟩⟩
    rcases List.mem_cons.mp hm with e | hm
    · cases e
      exact ⟨_, _, n2, fun H => .inr ⟨_, _, _, p2, rfl, rfl, (by show 2 ≤ sizeLine; decide), .cons ⟨_, rfl⟩ (.cons rfl .nil)⟩, fun H => .inr ⟨_, _, _, q2, rfl, rfl, (by show 2 ≤ sizeLine; decide), .cons ⟨_, rfl⟩ (.cons ⟨_, rfl⟩ (.nil))⟩⟩
    rcases List.mem_cons.mp hm with e | hm
    · cases e
      exact ⟨_, _, n3, fun H => .inr ⟨_, _, _, p3, rfl, rfl, (by show 2 ≤ sizeLine; decide), .cons ⟨_, rfl⟩ (.cons rfl .nil)⟩, fun H => .inr ⟨_, _, _, q3, rfl, rfl, (by show 2 ≤ sizeLine; decide), .cons ⟨_, rfl⟩ (.cons ⟨_, rfl⟩ (.nil))⟩⟩
    rcases List.mem_cons.mp hm with e | hm
    · cases e
      exact ⟨_, _, n4, fun H => .inr ⟨_, _, _, p4, rfl, rfl, (by show 2 ≤ sizeLine; decide), .cons ⟨_, rfl⟩ (.cons rfl .nil)⟩, fun H => .inr ⟨_, _, _, q4, rfl, rfl, (by show 2 ≤ sizeLine; decide), .cons ⟨_, rfl⟩ (.cons ⟨_, rfl⟩ (.nil))⟩⟩
    rcases List.mem_cons.mp hm with e | hm
    · cases e
      exact ⟨_, _, n5, fun H => .inr ⟨_, _, _, p5, rfl, rfl, (by show 2 ≤ sizeLine; decide), .cons ⟨_, rfl⟩ (.cons rfl .nil)⟩, fun H => .inr ⟨_, _, _, q5, rfl, rfl, (by show 0 ≤ sizeLine; decide), .nil⟩⟩
    rcases List.mem_cons.mp hm with e | hm
    · cases e
      exact ⟨_, _, n6, fun H => .inr ⟨_, _, _, p6, rfl, rfl, (by show 2 ≤ sizeLine; decide), .cons ⟨_, rfl⟩ (.cons rfl .nil)⟩, fun H => .inr ⟨_, _, _, q6, rfl, rfl, (by show 2 ≤ sizeLine; decide), .cons ⟨_, rfl⟩ (.cons ⟨_, rfl⟩ (.nil))⟩⟩
    rcases List.mem_cons.mp hm with e | hm
    · cases e
      exact ⟨_, _, n7, fun H => .inr ⟨_, _, _, p7, rfl, rfl, (by show 2 ≤ sizeLine; decide), .cons ⟨_, rfl⟩ (.cons rfl .nil)⟩, fun H => .inr ⟨_, _, _, q7, rfl, rfl, (by show 2 ≤ sizeLine; decide), .cons ⟨_, rfl⟩ (.cons ⟨_, rfl⟩ (.nil))⟩⟩
    rcases List.mem_cons.mp hm with e | hm
    · cases e
      exact ⟨_, _, n8, fun H => .inr ⟨_, _, _, p8, rfl, rfl, (by show 2 ≤ sizeLine; decide), .cons ⟨_, rfl⟩ (.cons rfl .nil)⟩, fun H => .inr ⟨_, _, _, q8, rfl, rfl, (by show 2 ≤ sizeLine; decide), .cons ⟨_, rfl⟩ (.cons ⟨_, rfl⟩ (.nil))⟩⟩
    rcases List.mem_cons.mp hm with e | hm
    · cases e
      exact ⟨_, _, n9, fun H => .inr ⟨_, _, _, p9, rfl, rfl, (by show 2 ≤ sizeLine; decide), .cons ⟨_, rfl⟩ (.cons rfl .nil)⟩, fun H => .inr ⟨_, _, _, q9, rfl, rfl, (by show 1 ≤ sizeLine; decide), .cons ⟨_, rfl⟩ (.nil)⟩⟩
    · cases List.mem_singleton.mp hm
      exact ⟨_, _, n10, fun H => .inr ⟨_, _, _, p10, rfl, rfl, (by show 2 ≤ sizeLine; decide), .cons ⟨_, rfl⟩ (.cons rfl .nil)⟩, fun H => .inr ⟨_, _, _, q10, rfl, rfl, (by show 1 ≤ sizeLine; decide), .cons ⟨_, rfl⟩ (.nil)⟩⟩
  have T : Txt K w mg LV BV FV := ⟨PySem.W.mg_of X G aL, PySem.W.mg_of X G aB, PySem.W.mg_of X G aF, fun H => .inr ⟨_, _, _, oL, rfl, rfl, (by show 3 ≤ sizeLine; decide), .cons ⟨_, rfl⟩ (.cons ⟨_, rfl⟩ (.cons ⟨_, rfl⟩ .nil))⟩, fun H => .inr ⟨_, _, _, oB, rfl, rfl, (by show 2 ≤ sizeLine; decide), .cons ⟨_, rfl⟩ (.cons ⟨_, rfl⟩ .nil)⟩,
    ⟨_, _, oF, litF, lowF⟩, fun wd k ks hh => form wd k ks (look_mem hh), fun wd hh => ns_none oF litF keysF hh, ⟨tG, by rw [← eG]; exact PySem.W.mg_of X G aG⟩, ⟨_, PySem.W.mg_of X G aT⟩, ⟨_, PySem.W.mg_of X G aM⟩, ⟨_, PySem.W.mg_of X G aP⟩, ⟨_, PySem.W.mg_of X G aW⟩, gisinstance, gint, gbool, gstr, gtuple, glen, gall, gzip⟩
  have B : Blt mg := ⟨gisinstance, gint, gbool, gstr, gtuple, glist, glen⟩
  have gTake := ok_take (P := l.prog) (w := w) (base := base) (mg := mg) (j := 0) F10
  have D : Draw l.prog w K mg base f10 f11 _ _ := ⟨gTake, b10, k10, m10, ok_pick F11 gTake b10 k10 m10 glen, ok_pickS F11 gTake b10 k10 m10 glen, b11, k11, m11⟩
  have gLeaf := ok_leaf F12 D
  have gTerm := ok_terms F13 D gLeaf b12 k12 m12 b13 m13
  have gFeed := ok_feed (P := l.prog) (w := w) (base := base) (j := 0) F9 glen gabs
  have gBen := ok_beneath (P := l.prog) (w := w) (base := base) (j := 0) F1 T
  have gWhole := ok_whole (P := l.prog) (w := w) (base := base) (j := 0) F2 T
  have gWord := ok_word (P := l.prog) (w := w) (j := 0) l3 c3 T tab1
  have gIsLeaf := ok_isleaf F4 T gWord b3 k3 m3 gWhole b2 k2 m2
  have gForm := ok_form F5 T gIsLeaf b4 k4 m4
  have gMade := ok_made F6 T gForm b5 k5 m5 gBen b1 k1 m1
  have gSa := ok_issaying F7 gMade b6 k6 m6
  have gBo := ok_isbody F8 gMade b6 k6 m6
  have gSay := ok_says F14 D (gTerm 3) b13 k13 m13 b14 m14
  have gLW := ok_lw (P := l.prog) (w := w) (base := base) (j := 0) F15 B
  have gLN := ok_ln (P := l.prog) (w := w) (base := base) (j := 0) F16 B
  have gTS := ok_tss F17 B (⟨gLW, b15, k15, m15, gLN, b16, k16, m16⟩ : Look l.prog w K mg base _ _ _ _) b17 m17
  have gZ := ok_zs F18 B (gTS 20) b17 k17 m17 b18 m18
  have gOdd := ok_odd F19 D gisinstance gtuple glist
  have gBent := ok_bents F20 D gOdd b19 k19 m19 gisinstance gtuple glen b20 m20
  have gR := ok_r F21 B grepr gSa b7 k7 m7 gBo b8 k8 m8 (gZ 20) b18 k18 m18
  have gFa := ok_far (P := l.prog) (w := w) (base := base) (j := 0) F22 grange
  exact ok_law F23 ⟨D, gFeed, b9, k9, m9, gSay 6, b14, k14, m14, gSa, b7, k7, m7, gBo, b8, k8, m8, gR, b21, k21, m21, gBent 20, b20, k20, m20, gFa, b22, k22, m22, B, grange, gmax, gmin⟩
theorem walk {l : PySem.W.OpenLaw} {q : Program} {loose : List Str} {XP : (Str → Option Value) → Heap → Prop} {YP : World → Heap → Prop} {d : DefRec} {K : Params → PySem.W.Frag} (hn : l.most = some 63) (hdf : d.params.defaults = []) (recs : ∀ nm ∈ [Str.ofString "is_word"], ((recsOf q).any fun e => e.name == nm) = true)
    (hY : ∀ (w : World) (h : Heap), YP w h → (K w.params).In h)
    (F : ∀ (w : World) (mg : Str → Option Value) (fa : Addr) (h : Heap), (K w.params).In h → h.Ns mainGlobals mg → mg d.name = some (.ref fa) → (∀ nm ∈ [Str.ofString "is_word"], ∀ fw, mg nm = some (.ref fw) → LamX.OwnTab (K w.params) fw h) → LawG l w (K w.params) 51 63 "script" mg fa h) :
    PySem.W.WalkO q loose XP YP l.row.toRowW d [] (fun f vs => PySem.call f vs) :=
  walk_guard [Str.ofString "is_word"] hn (by decide) hdf ⟨rfl, by decide, by decide⟩ recs hY (fun w mg fa h _ KX G hm t => F w mg fa h KX G hm t)
end Kf
open PySem PySem.W PyProof.Rows in
set_option maxRecDepth 100000 in
set_option maxHeartbeats 0 in
theorem PySem.Challenge.cw_prooffruit_k02_what_is_a_saying_holds : PySem.Challenge.rw_prooffruit_k02_what_is_a_saying.Holds := by
  w_on; o_law; k_head; (case hw => w_witness2)
  k_fill
  refine Kf.walk (l := PySem.Challenge.rw_prooffruit_k02_what_is_a_saying) rfl rfl (by decide +kernel) (fun w h Y => PySem.W.kIn_of Y) ?F
  case F =>
    intro w mg fa h KX G hmg own
    refine' Kf.all_mk KX G hmg own ?a1 ?l1 ?c1 ?k1 ?a2 ?l2 ?c2 ?k2 ?a3 ?l3 ?c3 ?k3 ?a4 ?l4 ?c4 ?k4 ?a5 ?l5 ?c5 ?k5 ?a6 ?l6 ?c6 ?k6 ?a7 ?l7 ?c7 ?k7 ?a8 ?l8 ?c8 ?k8 ?a9 ?l9 ?c9 ?k9 ?a10 ?l10 ?c10 ?k10 ?a11 ?l11 ?c11 ?k11 ?a12 ?l12 ?c12 ?k12 ?a13 ?l13 ?c13 ?k13 ?a14 ?l14 ?c14 ?k14 ?a15 ?l15 ?c15 ?k15 ?a16 ?l16 ?c16 ?k16 ?a17 ?l17 ?c17 ?k17 ?a18 ?l18 ?c18 ?k18 ?a19 ?l19 ?c19 ?k19 ?a20 ?l20 ?c20 ?k20 ?a21 ?l21 ?c21 ?k21 ?a22 ?l22 ?c22 ?k22 ?a23 ?l23 ?c23 ?k23 ?zrange ?zmax ?zmin ?zlen ?zabs ?zisinstance ?zint ?zbool ?zstr ?ztuple ?zlist ?zall ?zzip ?zrepr ?aF ?oF ?litF ?lowF ?n1 ?p1 ?q1 ?n2 ?p2 ?q2 ?n3 ?p3 ?q3 ?n4 ?p4 ?q4 ?n5 ?p5 ?q5 ?n6 ?p6 ?q6 ?n7 ?p7 ?q7 ?n8 ?p8 ?q8 ?n9 ?p9 ?q9 ?n10 ?p10 ?q10 ?keysF ?aL ?oL ?aB ?oB ?aG ?eG ?aT ?aM ?aP ?aW ?lC1 ?v111 ?g111 ?g181 ?g71 ?g91 ?g101 ?ncp1 ?nPT1
    (case a1 => first | k_is | rfl)
    (case l1 => first | k_is | rfl)
    (case c1 => first | k_is | rfl)
    (case k1 => first | k_is | rfl)
    (case a2 => first | k_is | rfl)
    (case l2 => first | k_is | rfl)
    (case c2 => first | k_is | rfl)
    (case k2 => first | k_is | rfl)
    (case a3 => first | k_is | rfl)
    (case l3 => first | k_is | rfl)
    (case c3 => first | k_is | rfl)
    (case k3 => first | k_is | rfl)
    (case a4 => first | k_is | rfl)
    (case l4 => first | k_is | rfl)
    (case c4 => first | k_is | rfl)
    (case k4 => first | k_is | rfl)
    (case a5 => first | k_is | rfl)
    (case l5 => first | k_is | rfl)
    (case c5 => first | k_is | rfl)
    (case k5 => first | k_is | rfl)
    (case a6 => first | k_is | rfl)
    (case l6 => first | k_is | rfl)
    (case c6 => first | k_is | rfl)
    (case k6 => first | k_is | rfl)
    (case a7 => first | k_is | rfl)
    (case l7 => first | k_is | rfl)
    (case c7 => first | k_is | rfl)
    (case k7 => first | k_is | rfl)
    (case a8 => first | k_is | rfl)
    (case l8 => first | k_is | rfl)
    (case c8 => first | k_is | rfl)
    (case k8 => first | k_is | rfl)
    (case a9 => first | k_is | rfl)
    (case l9 => first | k_is | rfl)
    (case c9 => first | k_is | rfl)
    (case k9 => first | k_is | rfl)
    (case a10 => first | k_is | rfl)
    (case l10 => first | k_is | rfl)
    (case c10 => first | k_is | rfl)
    (case k10 => first | k_is | rfl)
    (case a11 => first | k_is | rfl)
    (case l11 => first | k_is | rfl)
    (case c11 => first | k_is | rfl)
    (case k11 => first | k_is | rfl)
    (case a12 => first | k_is | rfl)
    (case l12 => first | k_is | rfl)
    (case c12 => first | k_is | rfl)
    (case k12 => first | k_is | rfl)
    (case a13 => first | k_is | rfl)
    (case l13 => first | k_is | rfl)
    (case c13 => first | k_is | rfl)
    (case k13 => first | k_is | rfl)
    (case a14 => first | k_is | rfl)
    (case l14 => first | k_is | rfl)
    (case c14 => first | k_is | rfl)
    (case k14 => first | k_is | rfl)
    (case a15 => first | k_is | rfl)
    (case l15 => first | k_is | rfl)
    (case c15 => first | k_is | rfl)
    (case k15 => first | k_is | rfl)
    (case a16 => first | k_is | rfl)
    (case l16 => first | k_is | rfl)
    (case c16 => first | k_is | rfl)
    (case k16 => first | k_is | rfl)
    (case a17 => first | k_is | rfl)
    (case l17 => first | k_is | rfl)
    (case c17 => first | k_is | rfl)
    (case k17 => first | k_is | rfl)
    (case a18 => first | k_is | rfl)
    (case l18 => first | k_is | rfl)
    (case c18 => first | k_is | rfl)
    (case k18 => first | k_is | rfl)
    (case a19 => first | k_is | rfl)
    (case l19 => first | k_is | rfl)
    (case c19 => first | k_is | rfl)
    (case k19 => first | k_is | rfl)
    (case a20 => first | k_is | rfl)
    (case l20 => first | k_is | rfl)
    (case c20 => first | k_is | rfl)
    (case k20 => first | k_is | rfl)
    (case a21 => first | k_is | rfl)
    (case l21 => first | k_is | rfl)
    (case c21 => first | k_is | rfl)
    (case k21 => first | k_is | rfl)
    (case a22 => first | k_is | rfl)
    (case l22 => first | k_is | rfl)
    (case c22 => first | k_is | rfl)
    (case k22 => first | k_is | rfl)
    (case a23 => first | k_is | rfl)
    (case l23 => first | k_is | rfl)
    (case c23 => first | k_is | rfl)
    (case k23 => first | k_is | rfl)
    (case zrange => first | k_is | rfl)
    (case zmax => first | k_is | rfl)
    (case zmin => first | k_is | rfl)
    (case zlen => first | k_is | rfl)
    (case zabs => first | k_is | rfl)
    (case zisinstance => first | k_is | rfl)
    (case zint => first | k_is | rfl)
    (case zbool => first | k_is | rfl)
    (case zstr => first | k_is | rfl)
    (case ztuple => first | k_is | rfl)
    (case zlist => first | k_is | rfl)
    (case zall => first | k_is | rfl)
    (case zzip => first | k_is | rfl)
    (case zrepr => first | k_is | rfl)
    (case aF => first | k_is | rfl)
    (case oF => first | k_is | rfl)
    (case litF => first | k_is | exact ⟨⟨_, _, rfl, rfl⟩, ⟨_, _, rfl, rfl⟩, ⟨_, _, rfl, rfl⟩, ⟨_, _, rfl, rfl⟩, ⟨_, _, rfl, rfl⟩, ⟨_, _, rfl, rfl⟩, ⟨_, _, rfl, rfl⟩, ⟨_, _, rfl, rfl⟩, ⟨_, _, rfl, rfl⟩, ⟨_, _, rfl, rfl⟩, trivial⟩)
    (case lowF => first | k_is | rfl)
    (case n1 => first | k_is | rfl)
    (case p1 => first | k_is | rfl)
    (case q1 => first | k_is | rfl)
    (case n2 => first | k_is | rfl)
    (case p2 => first | k_is | rfl)
    (case q2 => first | k_is | rfl)
    (case n3 => first | k_is | rfl)
    (case p3 => first | k_is | rfl)
    (case q3 => first | k_is | rfl)
    (case n4 => first | k_is | rfl)
    (case p4 => first | k_is | rfl)
    (case q4 => first | k_is | rfl)
    (case n5 => first | k_is | rfl)
    (case p5 => first | k_is | rfl)
    (case q5 => first | k_is | rfl)
    (case n6 => first | k_is | rfl)
    (case p6 => first | k_is | rfl)
    (case q6 => first | k_is | rfl)
    (case n7 => first | k_is | rfl)
    (case p7 => first | k_is | rfl)
    (case q7 => first | k_is | rfl)
    (case n8 => first | k_is | rfl)
    (case p8 => first | k_is | rfl)
    (case q8 => first | k_is | rfl)
    (case n9 => first | k_is | rfl)
    (case p9 => first | k_is | rfl)
    (case q9 => first | k_is | rfl)
    (case n10 => first | k_is | rfl)
    (case p10 => first | k_is | rfl)
    (case q10 => first | k_is | rfl)
    (case keysF => first | k_is | rfl | decide +kernel)
    (case aL => first | k_is | rfl)
    (case oL => first | k_is | rfl)
    (case aB => first | k_is | rfl)
    (case oB => first | k_is | rfl)
    (case aG => first | k_is | rfl)
    (case eG => first | rfl | decide +kernel)
    (case aT => first | k_is | rfl)
    (case aM => first | k_is | rfl)
    (case aP => first | k_is | rfl)
    (case aW => first | k_is | rfl)
    (case lC1 => first | k_is | rfl)
    (case v111 => first | k_is | rfl)
    (case g111 => first | k_is | rfl)
    (case g181 => first | k_is | rfl)
    (case g71 => first | k_is | rfl)
    (case g91 => first | k_is | rfl)
    (case g101 => first | k_is | rfl)
    (case ncp1 => first | decide | decide +kernel)
    (case nPT1 => first | k_is | rfl)
