import PyProof.Rows.All
import Wide.All
import OpenK.AllK
import Wide.FinOn
import HandS.ForMost
import HandS.SetKeys
import HandS.SetFor
import HandS.Strs
import HandS.More
import HandS.Wide
import HandS.IsInst
import HandS.TupAny
import HandS.EndBits
import HandS.WideBits
import HandS.Deep
import HandS.DeepEq
import HandS.Lambda
import HandS.Nested
import HandS.Star
import HandS.Flow
import HandS.EndTab
import PyProof.ReprRoads
import HandS.EndOwn
import PyProof.ReprLen
import HandS.Zip
import HandS.Comp
import HandS.Style
import HandS.Iter
import HandS.Conv
import PySem.Challenge.RW_prooffruit_k21_kinds_of_sayings
set_option Elab.async false
set_option linter.all false
set_option maxRecDepth 100000
set_option maxHeartbeats 4000000
/-! Sets of texts, whatever the world's order of them is: set(), set(a list), add, sorted. -/
namespace Sx
open PySem PySem.Spec PyProof.Rows L2
/-- the text of an entry -/
def tx (e : Int × Value) : Str := match e.2 with
  | .str k _ => k
  | _ => Str.empty
def Ent (w : World) (e : Int × Value) : Prop := ∃ k tk, e = (hashStr w k, Value.str k tk)
/-- one text more -/
def ins (k : Str) (ks : List Str) : List Str := if k ∈ ks then ks else k :: ks
theorem ins_mem {k j : Str} {ks : List Str} : j ∈ ins k ks ↔ j = k ∨ j ∈ ks := by
  unfold ins
  split
  · rename_i h
    exact ⟨.inr, fun q => q.elim (fun e => e ▸ h) (fun q => q)⟩
  · exact List.mem_cons
theorem ins_nodup {k : Str} {ks : List Str} (h : ks.Nodup) : (ins k ks).Nodup := by
  unfold ins
  split
  · exact h
  · rename_i q
    exact List.nodup_cons.mpr ⟨q, h⟩
theorem ins_len {k : Str} {ks : List Str} : (ins k ks).length ≤ ks.length + 1 := by
  unfold ins
  split
  · omega
  · exact Nat.le_refl _
/-- the set's table: its rows are the texts ks, it can be walked -/
structure Rows (w : World) (es : Array (Int × Value)) (t : SetTable) (ks : List Str) : Prop where
  ent : ∀ e ∈ es.toList, Ent w e
  perm : (es.toList.map tx).Perm ks
  nd : ks.Nodup
  few : es.size < scanBound
  fit : t.fits es.size = true
  ris : Ris t.place.toList
  led : w.params.followText "set-order" = true ∨ t.led = true
def SetS (w : World) (h : Heap) (a : Addr) (ks : List Str) : Prop := ∃ o es ep t, h.get? a = some o ∧ o.ExactSet ∧ o.data = .set es ep t ∧ Rows w es t ks
section
variable {P : Program} {w : World} {h h' : Heap} {a : Addr} {ks : List Str} {es : Array (Int × Value)} {t : SetTable}
theorem SetS.stay (R : SetS w h a ks) (k : ∀ o, h.get? a = some o → h'.get? a = some o) : SetS w h' a ks := by
  obtain ⟨o, es, ep, t, ho, z⟩ := R
  exact ⟨o, es, ep, t, k o ho, z⟩
theorem Rows.size (r : Rows w es t ks) : es.size = ks.length := by
  have q := r.perm.length_eq
  rw [List.length_map, Array.length_toList] at q
  exact q
theorem ent_is {e : Int × Value} (g : Ent w e) (k : Str) : (PySem.strKind P w).is k e.2 = true ↔ tx e = k := by
  obtain ⟨j, tk, rfl⟩ := g
  show (j == k) = true ↔ j = k
  exact beq_iff_eq
theorem Rows.elems (r : Rows w es t ks) : ElemsOf (PySem.strKind P w) es.toList := by
  intro e he
  obtain ⟨k, tk, rfl⟩ := r.ent e he
  exact ⟨⟨k, strKind_is P w k tk, rfl⟩, rfl⟩
theorem Rows.mem (r : Rows w es t ks) (k : Str) : k ∈ ks ↔ ∃ e ∈ es.toList, (PySem.strKind P w).is k e.2 = true := by
  rw [← r.perm.mem_iff, List.mem_map]
  exact ⟨fun ⟨e, he, q⟩ => ⟨e, he, (ent_is (r.ent e he) k).2 q⟩, fun ⟨e, he, q⟩ => ⟨e, he, (ent_is (r.ent e he) k).1 q⟩⟩
theorem SetS.of (R : SetS w h a ks) : h.SetOf (PySem.strKind P w) a (fun k => decide (k ∈ ks)) ks.length := by
  obtain ⟨o, es, ep, t, ho, hx, hd, r⟩ := R
  exact ⟨o, es, ep, t, ho, hx, hd, r.elems, fun k => by rw [decide_eq_true_iff]; exact r.mem k, r.few, r.fit, r.size⟩
theorem rows_new (w : World) : Rows w #[] (.fresh 0 0 (!w.params.followText "set-order")) [] where
  ent := fun e he => by simp at he
  perm := List.Perm.refl _
  nd := List.nodup_nil
  few := by decide
  fit := rfl
  ris := List.Pairwise.nil
  led := by
    show _ ∨ (!w.params.followText "set-order") = true
    cases w.params.followText "set-order" with
    | true => exact .inl rfl
    | false => exact .inr rfl
end
section
variable {P : Program} {w : World} {A : Around} {E : Value → Shared → Prop} {s : Shared} {a : Addr} {ks : List Str}
/-- the table is stored, and laid anew where it is too full -/
theorem stored {gave : Bool → Sem Unit} (hg : ∀ (b : Bool) (z : Shared) (Y : Unit → Shared → Prop), Y () z → wpAny (model P w) A (gave b) Y E z)
    {o : Obj} {es0 es : Array (Int × Value)} {ep : Nat} {t0 t : SetTable} (ho : s.heap.get? a = some o) (hx : o.ExactSet) (hd : o.data = .set es0 ep t0) (r : Rows w es t ks) {dummy : Bool} {Z : Option Bool → Shared → Prop}
    (hZ : ∀ h', Heap.SameBut a s.heap h' → SetS w h' a ks → Z (some true) { s with heap := h' }) :
    wpAny (model P w) A (do
        storeSet a es t
        if (!dummy && t.tooFull) = true then do
            gave (relayAll t es (SetTable.grown es.size)).2.2
            storeSet a (relayAll t es (SetTable.grown es.size)).1 (relayAll t es (SetTable.grown es.size)).2.1
            pure (some true)
          else pure (some true)) Z E s := by
  have first := Heap.SameBut.update s.heap a (Obj.putSet es t)
  have o1 := store_at (es' := es) (t' := t) ho hd
  refine wpAny_bind (wpAny_storeSet_of ho hd ?_ (fits_of_scanBound r.few))
  by_cases full : (!dummy && t.tooFull) = true
  · rw [if_pos full]
    have r2 : Rows w (relayAll t es (SetTable.grown es.size)).1 (relayAll t es (SetTable.grown es.size)).2.1 ks := by
      have pm := relayAll_perm t es (SetTable.grown es.size)
      have sz : (relayAll t es (SetTable.grown es.size)).1.size = es.size := by
        have q := pm.length_eq
        rw [Array.length_toList, Array.length_toList] at q
        exact q
      exact ⟨fun e he => r.ent e (pm.mem_iff.mp he), (pm.map tx).trans r.perm, r.nd, Nat.lt_of_le_of_lt (Nat.le_of_eq sz) r.few, relayAll_fits _ _ _, relayAll_ris _ _ _, r.led.imp (fun z => z) fun z => (relayAll_led _ _ _).trans z⟩
    refine wpAny_bind (hg _ _ _ (wpAny_bind (wpAny_storeSet_of o1 rfl ?_ (fits_of_scanBound r2.few))))
    exact wpAny_pure (hZ _ (first.trans (Heap.SameBut.update _ a _)) ⟨_, _, _, _, store_at o1 rfl, hx, rfl, r2⟩)
  · rw [if_neg full]
    exact wpAny_pure (hZ _ first ⟨_, _, _, _, o1, hx, rfl, r⟩)
theorem plain_off {w : World} {es : Array (Int × Value)} {t : SetTable} {ks : List Str} (r : Rows w es t ks) : Rows w es { t with plain := false } ks :=
  ⟨r.ent, r.perm, r.nd, r.few, SetTable.fits_plain_off r.fit, r.ris, r.led⟩
/-- a text whose hash is known is added -/
theorem add_at {k : Str} {tk : Tok} {Z : Bool → Shared → Prop} (R : SetS w s.heap a ks) (room : ks.length + 1 < scanBound)
    (hZ : ∀ b h', Heap.SameBut a s.heap h' → SetS w h' a (ins k ks) → Z b { s with heap := h' }) : wpAny (model P w) A (setAddHashed a (.str k tk) (hashStr w k)) Z E s := by
  obtain ⟨o, es, ep, t, ho, hx, hd, r⟩ := R
  have hel : ElemsOf (PySem.strKind P w) es.toList := r.elems
  have hscan : byScan (Value.str k tk) es = true := byScan_of rfl r.few hel
  unfold setAddHashed setAddHashedIn
  refine wpAny_holding (wpAny_bind (wpAny_setState_of ho hd r.fit ?_))
  dsimp only
  rw [hscan]
  simp only [↓reduceIte]
  unfold setAddByScan
  refine wpAny_bind (wpAny_bind (wpAny_rule (wpAny_bind (wpAny_setScan_of (knd := PySem.strKind P w) (k := k) (strKind_is P w k tk) ho hd r.fit hel ?_))))
  cases found : List.findIdx? (fun e => (PySem.strKind P w).is k e.2) es.toList with
  | some j =>
    obtain ⟨lt, hit, _⟩ := List.findIdx?_eq_some_iff_getElem.mp found
    have there : k ∈ ks := (r.mem (P := P) k).2 ⟨_, List.getElem_mem lt, hit⟩
    refine wpAny_pure (wpAny_pure (hZ _ s.heap (Heap.SameBut.refl a s.heap) ⟨o, es, ep, t, ho, hx, hd, ?_⟩))
    unfold ins
    rw [if_pos there]
    exact r
  | none =>
    have away : k ∉ ks := fun z => by
      obtain ⟨e, he, hit⟩ := (r.mem (P := P) k).1 z
      have no := List.findIdx?_eq_none_iff.mp found e he
      rw [hit] at no
      cases no
    have pm0 := layNew_perm t es (hashStr w k) (.str k tk)
    rw [Array.toList_push] at pm0
    have pm := pm0.trans (List.perm_append_singleton (hashStr w k, Value.str k tk) es.toList)
    have r1 : Rows w (layNew t es (hashStr w k) (.str k tk)).1 (layNew t es (hashStr w k) (.str k tk)).2.1 (ins k ks) := by
      have sz : (layNew t es (hashStr w k) (.str k tk)).1.size = ks.length + 1 := by
        have q := pm.length_eq
        rw [Array.length_toList, List.length_cons, Array.length_toList, r.size] at q
        exact q
      refine ⟨fun e he => ?_, ?_, ins_nodup r.nd, Nat.lt_of_le_of_lt (Nat.le_of_eq sz) room, layNew_fits _ _ _ _, layNew_ris _ _ _ _ r.ris, r.led.imp (fun z => z) fun z => (layNew_led _ _ _ _).trans z⟩
      · rcases List.mem_cons.mp (pm.mem_iff.mp he) with z | z
        · exact ⟨k, tk, z⟩
        · exact r.ent e z
      · unfold ins
        rw [if_neg away]
        exact (pm.map tx).trans (List.Perm.cons k r.perm)
    have gw : ∀ (b : Bool) (z : Shared) (Y : Unit → Shared → Prop), Y () z → wpAny (model P w) A (match b with | true => rule "set.scan.the-table-gave-way" | false => pure ()) Y E z := by
      intro b z Y q
      cases b with
      | true => exact wpAny_rule q
      | false => exact wpAny_pure q
    have goal2 : ∀ h', Heap.SameBut a s.heap h' → SetS w h' a (ins k ks) → Z true { s with heap := h' } := fun h' sb r' => hZ true h' sb r'
    dsimp only
    change wpAny _ _ _ _ _ _
    generalize layNew t es (hashStr w k) (.str k tk) = L at r1 ⊢
    obtain ⟨es1, t1, dummy, gave⟩ := L
    dsimp only at r1 ⊢
    refine wpAny_bind (gw _ _ _ ?_)
    by_cases pl : t1.plain = true
    · rw [if_pos pl]
      refine wpAny_bind ?_
      rw [hashByValue_scannable 8 (show (Value.str k tk).scannable = true from rfl)]
      refine wpAny_pure ?_
      refine stored gw ho hx hd (ks := ins k ks) ?_ fun h' sb r' => wpAny_pure (goal2 h' sb r')
      split
      · exact r1
      · exact plain_off r1
    · rw [if_neg pl]
      refine wpAny_bind (wpAny_pure ?_)
      simp only [↓reduceIte]
      exact stored gw ho hx hd (ks := ins k ks) r1 fun h' sb r' => wpAny_pure (goal2 h' sb r')
end
/-- the texts of the first i are put in, one by one -/
def insAll (ks : List Str) : List Str → List Str
  | [] => ks
  | x :: r => insAll (ins x ks) r
theorem insAll_mem {j : Str} : ∀ (xs ks : List Str), j ∈ insAll ks xs ↔ j ∈ xs ∨ j ∈ ks
  | [], ks => by simp [insAll]
  | x :: r, ks => by
    rw [insAll, insAll_mem r, ins_mem, List.mem_cons]
    constructor
    · rintro (h | h | h)
      · exact .inl (.inr h)
      · exact .inl (.inl h)
      · exact .inr h
    · rintro ((h | h) | h)
      · exact .inr (.inl h)
      · exact .inl h
      · exact .inr (.inr h)
theorem insAll_len : ∀ (xs ks : List Str), (insAll ks xs).length ≤ ks.length + xs.length
  | [], ks => Nat.le_refl _
  | x :: r, ks => by
    have h1 := insAll_len r (ins x ks)
    have h2 := ins_len (k := x) (ks := ks)
    rw [insAll, List.length_cons]
    omega
section
variable {P : Program} {w : World} {A : Around} {E : Value → Shared → Prop} {s : Shared}
/-- set.update's own loop over a walk that yields texts -/
theorem feed_loop {I : Addr} {fp wr : List Addr} {G : Array GenState → Array GenState → Prop} {n : Nat} {Y : Nat → Value → Prop} {St : Nat → Shared → Prop} {Z : Result → Shared → Prop}
    (W : WalksS P w A.in1 I fp wr G n Y St) (S : Addr) (out : S ∉ fp) (texts : List Str) (hn : texts.length = n) (hb : n + 1 < scanBound) (hY : ∀ i v, Y i v → ∃ k tk, texts[i]? = some k ∧ v = .str k tk) :
    ∀ (left : Nat) (i : Nat) (ks : List Str) (s : Shared), i + left = n → St i s → SetS w s.heap S ks → ks.length ≤ i →
      (∀ s', Moved (S :: wr) G s s' → SetS w s'.heap S (insAll ks (texts.drop i)) → Z (.ok (.ret .none)) s') → codeAny (model P w) A (.builtin "set.update.loop" ⟨[.ref S, .ref I], []⟩) Z s := by
  have quietS : S ∉ wr := fun z => out (W.sub _ z)
  have more : ∀ b ∈ wr, b ∈ S :: wr := fun b hb => List.mem_cons_of_mem _ hb
  intro left
  induction left with
  | zero =>
    intro i ks s hi hst hS _ hZ
    have e0 : texts.drop i = [] := List.drop_eq_nil_of_le (by omega)
    rw [e0] at hZ
    have e1 : i = n := by omega
    rw [e1] at hst
    refine codeAny_builtin F.entry_set_update_loop ?_
    rw [Around.under_plainId F.plain_set_update_loop _]
    show wpAny _ A.in1 (pyNext (.ref I) >>= _) _ _ s
    refine wpAny_bind (W.done s _ _ hst fun s' mv => wpAny_pure (hZ s' (mv.mono more) (hS.stay fun o e => mv.heap S o quietS e)))
  | succ left ih =>
    intro i ks s hi hst hS hk hZ
    have lt : i < n := by omega
    refine codeAny_builtin F.entry_set_update_loop ?_
    rw [Around.under_plainId F.plain_set_update_loop _]
    show wpAny _ A.in1 (pyNext (.ref I) >>= _) _ _ s
    refine wpAny_bind (W.item i s _ _ lt hst fun v s1 hv hst1 mv => ?_)
    obtain ⟨k, tk, hk1, rfl⟩ := hY i v hv
    have hS1 : SetS w s1.heap S ks := hS.stay fun o e => mv.heap S o quietS e
    have ed : texts.drop i = k :: texts.drop (i + 1) := by
      obtain ⟨lt2, e2⟩ := List.getElem?_eq_some_iff.mp hk1
      rw [← e2]
      exact List.drop_eq_getElem_cons lt2
    rw [ed] at hZ
    show wpAny _ A.in1 (holding [Value.str k tk] (setAdd S (.str k tk)) >>= _) _ _ s1
    unfold setAdd
    refine wpAny_bind (wpAny_holding (wpAny_holding (wpAny_bind ((PySem.strKind P w).pyHash (k := k) (strKind_is P w k tk) ?_))))
    refine add_at (s := { s1 with toks := s1.toks + 1 }) hS1 (by omega) fun b h' sb hS2 => ?_
    refine wpAny_pure ⟨plainId_quiet F.plain_set_update_loop _, ih (i + 1) (ins k ks) _ (by omega) (W.frame _ s1 _ _ hst1 (Nat.le_succ _) fun c hc o e => ?_) hS2 ?_ fun s2 mv2 hS3 => ?_⟩
    · have away : c ≠ S := fun z => out (z ▸ hc)
      rw [sb.2 c away]
      exact e
    · have := ins_len (k := k) (ks := ks)
      omega
    · refine hZ s2 (Moved.trans W.gtrans ((mv.mono more).then_heap (Nat.le_succ _) fun c o hc e => ?_) mv2) hS3
      have away : c ≠ S := fun z => hc (z ▸ List.mem_cons_self)
      rw [sb.2 c away]
      exact e
/-- the empty set, as it is made -/
abbrev bare (w : World) : Obj := { cls := .type "set", dict := none, data := .set #[] 0 (.fresh 0 0 (!w.params.followText "set-order")) }
theorem bare_holds {h : Heap} {a : Addr} (ho : h.get? a = some (bare w)) : SetS w h a [] := ⟨_, _, _, _, ho, ⟨rfl, rfl, rfl⟩, rfl, rows_new w⟩
set_option maxHeartbeats 8000000 in
theorem set_of_list {l : Addr} {items : Array Value} (texts : List Str) {Z : Value → Shared → Prop} (hh : A.handled = none) (hl : s.heap.IsList l items) (ht : StrsAre items.toList texts) (hb : texts.length + 1 < scanBound)
    (hZ : ∀ (h' : Heap) (tk : Nat), SetS w h' s.heap.objs.size (insAll [] texts) → (∀ b o, s.heap.get? b = some o → h'.get? b = some o) → Z (.ref s.heap.objs.size) { s with heap := h', toks := tk }) :
    wpAny (model P w) A (call (.type "set") [.ref l]) Z E s := by
  have count : texts.length = items.size := by
    have q := StrsAre.len_eq ht
    rw [Array.length_toList] at q
    exact q.symm
  obtain ⟨c, tl, hmro⟩ := F.called_set.mro
  have made := F.called_set.made
  have sub := F.called_set.sub
  have noType := F.called_set.notType
  have can := F.called_set.canCreate
  have tcall := F.typeCall_set_1 (.ref l)
  refine wpAny_call (codeAny_of_tree ?_)
  show wpAny _ _ (callAny (.type "set") _) _ _ _
  refine wpAny_pure ⟨Code.quiet_builtin _ (by decide +kernel), codeAny_builtin F.entry_type_call ?_⟩
  rw [Around.under_plain (weight_type_call_type "set" [.ref l] []) rfl]
  repeat (any_goals (first | assumption | wp_step))
  refine codeAny_mono (code_set_led1 (.ref l) (E := E) (Q₁ := fun v z => v = .ref s.heap.objs.size ∧ z = { s with heap := s.heap.push (bare w) }) ⟨rfl, rfl⟩) fun r z hr => ?_
  match r, hr with
  | .error _, hr => exact hr
  | .ok .next, hr => exact hr.elim
  | .ok .brk, hr => exact hr.elim
  | .ok .cont, hr => exact hr.elim
  | .ok (.ret _), hr =>
    obtain ⟨rfl, rfl⟩ := hr
    have hS : (s.heap.push (bare w)).get? s.heap.objs.size = some (bare w) := Heap.get?_push_size _ rfl
    have isSet : Shared.TypeIs { s with heap := s.heap.push (bare w) } (.ref s.heap.objs.size) "set" := ⟨_, hS, rfl⟩
    have initL := F.called_set.init.lookup
    have initB := F.called_set.init.bind (.ref s.heap.objs.size)
    repeat (any_goals (first | assumption | wp_step))
    refine codeAny_mono (codeAny_call_builtin (R := wants (fun v z => v = .none ∧ ∃ h' tk, z = { s with heap := h', toks := tk } ∧ SetS w h' s.heap.objs.size (insAll [] texts) ∧ ∀ b o, s.heap.get? b = some o → h'.get? b = some o) E)
      F.called_set.init.plain F.entry_set_init (check_set_init_1 isSet ?_)) fun r z hr => ?_
    · have hl1 : (s.heap.push (bare w)).IsList l items := hl.push _
      obtain ⟨⟨_, dd, _, sl⟩, hol, rfl, nl, rfl⟩ := id hl
      have hol1 : (s.heap.push (bare w)).get? l = some ⟨.type "list", dd, .seq items nl, sl⟩ := Heap.get?_push_of_some _ hol
      have sub1 := F.sub_list_set
      have sub2 := F.sub_list_frozenset
      have unlike : (Value.type "list" == Value.type "dict") = false := by decide
      unfold Builtin.«set.__init__» noKeywords Builtin.Frozenset.updateFrom
      generalize hPI : pyIter = PI
      wp_walk
      subst hPI
      refine wpAny_pyIter_list hl1 (wpAny_bind (wpAny_runValue ?_))
      have old : l < s.heap.objs.size := Heap.lt_size hol
      have sz1 : (s.heap.push (bare w)).objs.size = s.heap.objs.size + 1 := Heap.size_push ..
      have apart : l ≠ (s.heap.push (bare w)).objs.size := by
        rw [sz1]
        exact Nat.ne_of_lt (Nat.lt_succ_of_lt old)
      have out : s.heap.objs.size ∉ [(s.heap.push (bare w)).objs.size, l] := by
        intro z
        rcases List.mem_cons.mp z with z | z
        · rw [sz1] at z
          omega
        · exact absurd old (by rw [← List.mem_singleton.mp z]; exact Nat.lt_irrefl _)
      have texty : ∀ (i : Nat) (v : Value), items[i]? = some v → ∃ k tk, texts[i]? = some k ∧ v = .str k tk := fun i v hv => by
        have hi : i < texts.length := by
          rw [count]
          exact (Array.getElem?_eq_some_iff.mp hv).1
        obtain ⟨tk, e⟩ := SS.strs_at ht i v (by rw [Array.getElem?_toList]; exact hv)
        refine ⟨texts[i], tk, List.getElem?_eq_getElem hi, ?_⟩
        rw [e, List.getD_eq_getElem?_getD, List.getElem?_eq_getElem hi]
        rfl
      have hh3 : A.in1.in1.in1.handled = none := by simp [hh]
      refine feed_loop ((Walks.list hh3 _ l apart items).toS) s.heap.objs.size out texts count (by rw [← count]; exact hb) texty items.size 0 [] _ (Nat.zero_add _) ⟨⟨_, Heap.get?_push_size _ rfl, rfl, rfl⟩, hl1.push _⟩
        (bare_holds (Heap.get?_push_of_some _ hS)) (Nat.le_refl _) fun s' mv hS' => ?_
      obtain ⟨h', g', d', tk', os'⟩ := s'
      have eg : g' = s.gens := mv.gens
      have ed : d' = s.drawn := mv.drawn
      have eo : os' = s.os := mv.os
      subst eg ed eo
      show wpAny _ _ _ _ _ _
      refine wpAny_pure ?_
      show wpAny _ _ (ret Value.none) _ _ _
      refine wpAny_pure ⟨rfl, h', tk', rfl, hS', fun b o e => ?_⟩
      have lt := Heap.lt_size e
      refine mv.heap b o (fun z => ?_) (Heap.get?_push_of_some _ (Heap.get?_push_of_some _ e))
      rcases List.mem_cons.mp z with z | z
      · rw [z] at lt
        exact Nat.lt_irrefl _ lt
      · have z2 := List.mem_singleton.mp z
        have lt2 : b < (s.heap.push (bare w)).objs.size := by
          rw [sz1]
          exact Nat.lt_succ_of_lt lt
        rw [z2] at lt2
        exact Nat.lt_irrefl _ lt2
    · match r, hr with
      | .error _, hr => exact hr
      | .ok .next, hr => exact hr.elim
      | .ok .brk, hr => exact hr.elim
      | .ok .cont, hr => exact hr.elim
      | .ok (.ret _), hr =>
        obtain ⟨rfl, h', tk, rfl, hS', keep⟩ := hr
        repeat (any_goals (first | assumption | wp_step))
        exact hZ _ _ hS' keep
/-- the texts of values that are texts -/
theorem texts_of : ∀ (vs : List Value), (∀ v ∈ vs, ∃ k tk, v = Value.str k tk) → ∃ ks, StrsAre vs ks ∧ ks = vs.map fun v => tx (0, v)
  | [], _ => ⟨[], .nil, rfl⟩
  | v :: vs, h => by
    obtain ⟨k, tk, rfl⟩ := h v List.mem_cons_self
    obtain ⟨ks, h1, h2⟩ := texts_of vs fun u hu => h u (List.mem_cons_of_mem _ hu)
    exact ⟨k :: ks, .cons k tk h1, by rw [h2]; rfl⟩
theorem sorted_of_set {a : Addr} {ks : List Str} {Z : Value → Shared → Prop} (R : SetS w s.heap a ks) (hh : A.handled = none) (few : ks.length < 64)
    (hZ : ∀ s' p (out : Array Value) (c : Nat) (ys : List Str), (∀ b o, s.heap.get? b = some o → s'.heap.get? b = some o) → s'.gens = s.gens → s'.os = s.os → s.heap.objs.size ≤ p →
      s'.heap.get? p = some (seqObj "list" out c) → StrsAre out.toList ys → ys.Perm ks → sortedS ys = true → Z (.ref p) s') :
    wpAny (model P w) A (call (.builtin "sorted") [.ref a]) Z E s := by
  obtain ⟨o, es, ep, t, ho, hx, hd, r⟩ := R
  refine Calls.call_function_entry kind_sorted plain_sorted entry_sorted (args_sorted1 _) ?_
  unfold Builtin.«sorted»
  refine wpAny_bind (m := checkCount "sorted" 1 1 _) (wpAny_pure ?_)
  refine wpAny_bind (collect_set (A := A.in1) hh ⟨o, ho, hx.1, hd⟩ r.fit r.few r.ris r.led fun s1 vs keep more g1 o1 pm => ?_)
  obtain ⟨texts, isT, eT⟩ := texts_of vs fun v hv => by
    obtain ⟨e, he, q⟩ := List.mem_map.mp (pm.mem_iff.mp hv)
    obtain ⟨k, tk, ee⟩ := r.ent e he
    exact ⟨k, tk, by rw [← q, ee]⟩
  have pT : texts.Perm ks := by
    refine List.Perm.trans ?_ r.perm
    rw [eT]
    have q := pm.map fun v => tx (0, v)
    rw [List.map_map] at q
    exact q
  have len : vs.length = ks.length := by
    rw [StrsAre.len_eq isT]
    exact pT.length_eq
  have line : vs.length ≤ sizeLine := by
    rw [len, sizeLine_eq]
    omega
  have hL : (s1.heap.push (seqObj "list" vs.toArray 0)).get? s1.heap.objs.size = some (seqObj "list" vs.toArray 0) := Heap.get?_push_size _ rfl
  refine wpAny_bind (wpAny_newList ?_ line)
  refine wpAny_bind (wpAny_holding (wpAny_call_entry slot_list_sort ⟨_, hL, rfl⟩ entry_list_sort (list_sort_treeK strKind_oneLt hL isT.keysOf (fun v₁ v₂ rest e => keyKind_strs (by rw [← e]; exact isT)) (by rw [len]; exact few) fun st hp hs => ?_) (args_list_sort _)))
  obtain ⟨ys, y1, y2, y3⟩ := sorted_out_str isT hp hs
  obtain ⟨c, hc⟩ := sortedHeap_at (vs := vs) (out := (arrOf st).map (·.2)) hL
  refine ⟨_, rfl, wpAny_pure ⟨_, rfl, hZ _ s1.heap.objs.size _ c ys (fun b u e => ?_) g1 o1 more hc y1 (y2.trans pT) y3⟩⟩
  have q := keep b u e
  have lt := Heap.lt_size q
  show (sortedHeap (s1.heap.push (seqObj "list" vs.toArray 0)) s1.heap.objs.size vs _).get? b = some u
  rw [sortedHeap_old (Nat.ne_of_lt lt) (by rw [Heap.size_push]; exact Nat.lt_succ_of_lt lt)]
  exact Heap.get?_push_of_some _ q
end
end Sx
set_option Elab.async false
set_option linter.all false
set_option maxRecDepth 100000
set_option maxHeartbeats 4000000
/-! The rules over sets of texts. -/
namespace Sx
open PySem PySem.Spec PyProof.Rows L2
/-- a set of the texts ks stands at a -/
def SetX (w : World) (a : Addr) (ks : List Str) : HO := .ext fun h => SetS w h a ks
section
variable {X : Cx}
theorem setX_new {w : World} {P : Program} {H : Hp} {h : Heap} {a : Addr} {ks : List Str} (R : SetS w h a ks) : ObjOk P w H h a (SetX w a ks) := by
  have ⟨o, _, _, _, ho, _⟩ := R
  exact ⟨R, ⟨o, ho⟩, fun _ _ r k => SetS.stay r k⟩
theorem setX_get {pins : List (Addr × Obj)} {σ : L2.St} {H : Hp} {s : Shared} {a : Addr} {ks : List Str} (I : Inv X pins σ H s) (e : H a = some (SetX X.w a ks)) : SetS X.w s.heap a ks := (I.hok a _ e).1
/-- set() -/
def rNewX (w : World) : List V → Hp → VK → Prop := fun xs H Q => xs = [] ∧ ∀ p, H p = none → Q (.ref p) (upd H p (SetX w p []))
theorem cr_newX : CallR X (.type "set") (rNewX X.w) := by
  intro pins s σ H xs us Q I r ⟨e, q⟩
  subst e
  cases r
  refine setR_new fun _ => ⟨.ref _, upd H s.heap.objs.size (SetX X.w s.heap.objs.size []), ?_, rfl, q _ (I.hok.fresh (Nat.le_refl _))⟩
  exact I.laid (t' := s.toks) (fun b u e => Heap.get?_push_of_some _ e) (Nat.le_refl _) (setX_new (bare_holds (Heap.get?_push_size _ rfl)))
/-- set(a list of texts) -/
def rOfX (K : PySem.W.Frag) (w : World) : List V → Hp → VK → Prop := fun xs H Q => ∃ (l : Addr) (texts : List Str), xs = [.ref l] ∧ SqL K H l (texts.map V.str) ∧ texts.length + 1 < scanBound ∧
  ∀ p, H p = none → Q (.ref p) (upd H p (SetX w p (insAll [] texts)))
theorem cr_ofX (hc : X.calm = true) : CallR X (.type "set") (rOfX X.K X.w) := by
  intro pins s σ H xs us Q I r ⟨l, texts, e, hq, few, q⟩
  subst e
  rw [Vals.ref1 r]
  obtain ⟨its, rv, pl, _⟩ := I.list hq
  refine set_of_list texts (I.ok.hd hc) pl.isList (by simpa using strsAre_of rv) few fun h' tk hS keep => ?_
  exact ⟨.ref _, upd H s.heap.objs.size (SetX X.w s.heap.objs.size (insAll [] texts)), I.laid (t' := tk) keep (Nat.le_refl _) (setX_new hS), rfl, q _ (I.hok.fresh (Nat.le_refl _))⟩
/-- found.add(text) -/
def rAddX (w : World) : V → List V → Hp → VK → Prop := fun x xs H Q => ∃ (a : Addr) (k : Str) (ks : List Str), x = V.ref a ∧ xs = [V.str k] ∧ H a = some (SetX w a ks) ∧ ks.length + 1 < scanBound ∧ Q .non (upd H a (SetX w a (ins k ks)))
theorem mt_addX : MtR X "set.add" (rAddX X.w) := by
  intro pins s σ H x xs v us Q I rx rxs ⟨a, k, ks, e1, e2, ha, room, q⟩
  subst e1 e2
  cases rx
  obtain ⟨u, rfl, tk, rfl⟩ := vals1 rxs
  have R := setX_get I ha
  refine wpAny_call_entry F.slot_set_add (R.of (P := X.prog)).typeIs F.entry_set_add ?_ (F.args_set_add_2 _ _)
  unfold Builtin.«set.add» Builtin.Frozenset.oneOther
  simp only [List.isEmpty_nil, bind_assoc]
  unfold Builtin.Frozenset.addrOf setAdd
  refine wpAny_bind (wpAny_pure ?_)
  try dsimp only
  refine wpAny_bind (wpAny_pure ?_)
  try dsimp only
  refine wpAny_bind (wpAny_holding (wpAny_bind ((PySem.strKind X.prog X.w).pyHash (strKind_is X.prog X.w k tk) ?_)))
  refine add_at (s := { s with toks := s.toks + 1 }) R room fun b h' sb new => ?_
  show wpAny _ _ (ret Value.none) _ _ _
  have there : ∃ u, h'.get? a = some u := by
    obtain ⟨o, _, _, _, ho, _⟩ := new
    exact ⟨o, ho⟩
  exact wpAny_pure ⟨_, rfl, .non, upd H a (SetX X.w a (ins k ks)), I.write (e := a) (t' := s.toks + 1) (by rw [ha]; trivial) (.inl rfl) (fun c u hc hu => (sb.2 c hc).trans hu) there (setX_new new), rfl, q⟩
def tAddX (w : World) (to : TE) (t : TA) : TE := fun σ H Q => to σ H fun x H1 => (∃ a ks, x = V.ref a ∧ H1 a = some (SetX w a ks)) ∧ t σ H1 fun xs H2 => rAddX w x xs H2 Q
theorem pe_addX {o e : Expr} {to : TE} {t : TA} {apos cpos : Pos} (ho : PE X o to) (ha : PA X [e] t)
    (h1 : attributeBase o "add" X.env (eval o X.env) = eval o X.env := by rfl)
    (h2 : ((backTo cpos (starEach [e] X.env)).all (fun x => !x.1) && (backToKw cpos (keywordEach [] X.env)).all (fun x => x.1.isSome) && decide ([e].length + ([] : List Keyword).length + (if ([] : List Keyword).isEmpty then 0 else 1) < 30)) = true := by rfl)
    (h3 : (apos.endLine == cpos.line) = true := by rfl) (h4 : starEach [e] X.env = (false, eval e X.env) :: starEach [] X.env := by rfl) (h5 : (backTo cpos (starEach [] X.env)).any (·.1) = false := by rfl) :
    PE X (.Call (.Attribute o "add" apos) [e] [] cpos) (tAddX X.w to t) := by
  refine ⟨fun pins s σ H Q I h => wpAny_Call_method_late h1 h2 h3 rfl (thn (ho.run pins s σ H _ I h) fun v s1 ⟨x, H1, I1, r1, ⟨a, ks, ex, hka⟩, q1⟩ => ?_)⟩
  subst ex
  cases r1
  have R := (setX_get I1 hka).of (P := X.prog)
  have run := ha.run cpos pins s1 σ H1 _ I1 q1
  refine ⟨"set", "set.add", F.plainAttrs_set, F.slot_set_add, F.type_set_add, R.typeIs, R.noDict, ?_⟩
  rw [h4] at run ⊢
  refine Calls.callWith_builtin (by show (false || (backTo cpos (starEach [] X.env)).any (·.1)) = false; rw [h5]; rfl) (Calls.evalArgs_plain (thn run fun us s2 ⟨vs, H2, I2, r2, q2⟩ => ?_))
  exact mt_addX pins s2 σ H2 (.ref a) vs (.ref a) us Q I2 rfl r2 q2
/-- sorted(a set of texts) -/
def rSortX (w : World) : List V → Hp → VK → Prop := fun vs H Q => ∃ (a : Addr) (ks : List Str), vs = [V.ref a] ∧ H a = some (SetX w a ks) ∧ ks.length < 64 ∧
  ∀ (ys : List Str) (p : Addr), ys.Perm ks → ys.Nodup → sortedS ys = true → H p = none → Q (.ref p) (upd H p (.lst (ys.map V.str)))
theorem cr_sortX (hc : X.calm = true) : CallR X (.builtin "sorted") (rSortX X.w) := by
  intro pins s σ H vs us Q I r ⟨a, ks, e, ha, few, q⟩
  subst e
  rw [Vals.ref1 r]
  have R := setX_get I ha
  have nd : ks.Nodup := by
    obtain ⟨_, _, _, _, _, _, _, rows⟩ := R
    exact rows.nd
  refine sorted_of_set R (I.ok.hd hc) few fun s' p out c ys keep g1 o1 old hp y1 y2 y3 => ?_
  have line : (ys.map V.str).length ≤ sizeLine := by
    rw [List.length_map, y2.length_eq]
    exact small64 few
  have free : H p = none := I.hok.fresh old
  have J : Inv X pins σ (upd H p (.lst (ys.map V.str))) { s with heap := s'.heap, gens := s'.gens, drawn := s'.drawn, toks := s'.toks } :=
    I.call (ch := []) (Un.laid keep old free) (I.hok.laid keep old ⟨line, out.toList, c, vals_of_strs y1, hp⟩) (by rw [g1]; exact I.bare) (fun _ z => nomatch z)
  have back : s' = { s with heap := s'.heap, gens := s'.gens, drawn := s'.drawn, toks := s'.toks } := by
    cases s'
    cases s
    cases o1
    rfl
  rw [back]
  exact ⟨.ref p, _, J, rfl, q ys p y2 (y2.nodup_iff.mpr nd) y3 free⟩
end
end Sx
set_option Elab.async false
set_option linter.all false
set_option maxRecDepth 100000
set_option maxHeartbeats 4000000
/-! Trees, heaps: what the defs of these laws share. -/
namespace Kf
open PySem PySem.Spec PyProof.Rows L2 Sx
/-! ### lists, pair by pair -/
inductive All2 {α β : Type} (F : α → β → Prop) : List α → List β → Prop
  | nil : All2 F [] []
  | cons {a : α} {b : β} {l : List α} {m : List β} : F a b → All2 F l m → All2 F (a :: l) (b :: m)
section
variable {α β : Type} {F G : α → β → Prop}
theorem All2.len : ∀ {l : List α} {m : List β}, All2 F l m → l.length = m.length
  | _, _, .nil => rfl
  | _, _, .cons _ t => congrArg Nat.succ t.len
theorem All2.app : ∀ {l l2 : List α} {m m2 : List β}, All2 F l m → All2 F l2 m2 → All2 F (l ++ l2) (m ++ m2)
  | _, _, _, _, .nil, h => h
  | _, _, _, _, .cons r t, h => .cons r (t.app h)
theorem All2.mono (f : ∀ a b, F a b → G a b) : ∀ {l : List α} {m : List β}, All2 F l m → All2 G l m
  | _, _, .nil => .nil
  | _, _, .cons r t => .cons (f _ _ r) (t.mono f)
theorem All2.one {a : α} {b : β} (h : F a b) : All2 F [a] [b] := .cons h .nil
theorem All2.rev : ∀ {l : List α} {m : List β}, All2 F l m → All2 F l.reverse m.reverse
  | _, _, .nil => .nil
  | _, _, .cons r t => by
    rw [List.reverse_cons, List.reverse_cons]
    exact t.rev.app (.one r)
theorem All2.last {l : List α} {m : List β} {y : β} (h : All2 F l (m ++ [y])) : ∃ k x, l = k ++ [x] ∧ All2 F k m ∧ F x y := by
  have q := h.rev
  rw [List.reverse_append, List.reverse_singleton, List.singleton_append] at q
  generalize hr : l.reverse = r at q
  cases q with
  | @cons x _ k _ r t =>
    have t2 := t.rev
    rw [List.reverse_reverse] at t2
    refine ⟨k.reverse, x, ?_, t2, r⟩
    have e := congrArg List.reverse hr
    rw [List.reverse_reverse, List.reverse_cons] at e
    exact e
theorem All2.get : ∀ {l : List α} {m : List β} {i : Nat} {y : β}, All2 F l m → m[i]? = some y → ∃ x, l[i]? = some x ∧ F x y
  | _, _, _, _, .nil, h => by simp at h
  | _, _, 0, _, .cons r _, h => ⟨_, rfl, (Option.some.inj h) ▸ r⟩
  | _, _, i + 1, _, .cons _ t, h => t.get (i := i) (by simpa using h)
end
/-! ### heaps -/
/-- all but what stands at f is as it was -/
def But (f : Addr) (H H' : Hp) : Prop := ∀ b o, b ≠ f → H b = some o → H' b = some o
/-- all tuples stand -/
def Tups (H H' : Hp) : Prop := ∀ b xs, H b = some (.tup xs) → H' b = some (.tup xs)
section
variable {f : Addr} {H H1 H2 : Hp} {p : Addr} {o : HO}
theorem But.refl (f : Addr) (H : Hp) : But f H H := fun _ _ _ e => e
theorem But.trans (a : But f H H1) (b : But f H1 H2) : But f H H2 := fun c u n e => b c u n (a c u n e)
theorem but_same (a : Same H H1) : But f H H1 := fun c u _ e => a c u e
theorem But.new (a : But f H H1) (h : H1 p = none) : But f H (upd H1 p o) := fun c u n e => by
  have q := a c u n e
  rw [upd_ne (ne_of_none q h)]
  exact q
theorem But.own (a : But f H H1) : But f H (upd H1 f o) := fun c u n e => by
  rw [upd_ne n]
  exact a c u n e
theorem same_new (h : H p = none) : Same H (upd H p o) := fun b u q => by
  rw [upd_ne (ne_of_none q h)]
  exact q
theorem same_put (s : Same H H1) (h : H1 p = none) : Same H (upd H1 p o) := fun b u q => by
  rw [upd_ne (ne_of_none (s b u q) h)]
  exact s b u q
theorem Tups.refl (H : Hp) : Tups H H := fun _ _ e => e
theorem Tups.trans (a : Tups H H1) (b : Tups H1 H2) : Tups H H2 := fun c u e => b c u (a c u e)
theorem tups_same (a : Same H H1) : Tups H H1 := fun c u e => a c _ e
theorem But.tups {xs : List V} (a : But f H H1) (h : H f = some (.lst xs)) : Tups H H1 := fun c u e => a c _ (fun z => by
  rw [z, h] at e
  cases e) e
theorem tups_put (h : ∀ xs, H p ≠ some (.tup xs)) : Tups H (upd H p o) := fun c u e => by
  rw [upd_ne (fun z => h u (by rw [← z]; exact e))]
  exact e
end
/-! ### trees -/
inductive Tr where
  | leaf (w : Str) (x : V)
  | n0 (w : Str)
  | n1 (w : Str) (a : Tr)
  | n2 (w : Str) (a b : Tr)
abbrev leafVs : List V := [.str "num", .str "name", .str "bound"]
abbrev bindVs : List V := [.str "all", .str "some"]
def leafy (w : Str) : Bool := inV (.str w) leafVs
def binds (w : Str) : Bool := inV (.str w) bindVs
/-- how many stand around the parts -/
def inner (w : Str) (r : Nat) : Nat := if binds w = true then r + 1 else r
def Tr.word : Tr → Str
  | .leaf w _ => w
  | .n0 w => w
  | .n1 w _ => w
  | .n2 w _ _ => w
def Tr.kids : Tr → List Tr
  | .leaf _ _ => []
  | .n0 _ => []
  | .n1 _ a => [a]
  | .n2 _ a b => [a, b]
/-- the tree t is the value v -/
def At (H : Hp) : Tr → V → Prop
  | .leaf w x, v => ∃ p, v = .ref p ∧ H p = some (.tup [.str w, x])
  | .n0 w, v => ∃ p, v = .ref p ∧ H p = some (.tup [.str w])
  | .n1 w a, v => ∃ p y, v = .ref p ∧ H p = some (.tup [.str w, y]) ∧ At H a y
  | .n2 w a b, v => ∃ p y z, v = .ref p ∧ H p = some (.tup [.str w, y, z]) ∧ At H a y ∧ At H b z
theorem At.keep {H H' : Hp} (k : Tups H H') : ∀ {t : Tr} {v : V}, At H t v → At H' t v
  | .leaf _ _, _, ⟨p, e, h⟩ => ⟨p, e, k _ _ h⟩
  | .n0 _, _, ⟨p, e, h⟩ => ⟨p, e, k _ _ h⟩
  | .n1 _ _, _, ⟨p, y, e, h, a⟩ => ⟨p, y, e, k _ _ h, a.keep k⟩
  | .n2 _ _ _, _, ⟨p, y, z, e, h, a, b⟩ => ⟨p, y, z, e, k _ _ h, a.keep k, b.keep k⟩
/-- leaves by their words -/
def Tr.Ok : Tr → Prop
  | .leaf w x => leafy w = true ∧ ((∃ i, x = .int i) ∧ w ≠ "name" ∨ (∃ z, x = .str z) ∧ w = "name")
  | .n0 w => leafy w = false
  | .n1 w a => leafy w = false ∧ a.Ok
  | .n2 w a b => leafy w = false ∧ a.Ok ∧ b.Ok
/-- how far within one another -/
def Tr.deep : Tr → Nat
  | .leaf _ _ => 1
  | .n0 _ => 1
  | .n1 _ a => a.deep + 1
  | .n2 _ a b => max a.deep b.deep + 1
def Tr.size : Tr → Nat
  | .leaf _ _ => 1
  | .n0 _ => 1
  | .n1 _ a => a.size + 1
  | .n2 _ a b => a.size + b.size + 1
theorem size_deep : ∀ t : Tr, t.size + 1 ≤ 2 ^ t.deep
  | .leaf _ _ => Nat.le_refl _
  | .n0 _ => Nat.le_refl _
  | .n1 _ a => by
    have h := size_deep a
    have p : 2 ^ (a.deep + 1) = 2 ^ a.deep * 2 := Nat.pow_succ _ _
    show a.size + 1 + 1 ≤ 2 ^ (a.deep + 1)
    omega
  | .n2 _ a b => by
    have h := size_deep a
    have h2 := size_deep b
    have p : 2 ^ (max a.deep b.deep + 1) = 2 ^ (max a.deep b.deep) * 2 := Nat.pow_succ _ _
    have q1 : 2 ^ a.deep ≤ 2 ^ (max a.deep b.deep) := Nat.pow_le_pow_right (by decide) (Nat.le_max_left _ _)
    have q2 : 2 ^ b.deep ≤ 2 ^ (max a.deep b.deep) := Nat.pow_le_pow_right (by decide) (Nat.le_max_right _ _)
    show a.size + b.size + 1 + 1 ≤ 2 ^ (max a.deep b.deep + 1)
    omega
def Tr.names : Tr → List Str
  | .leaf w x => if w = "name" then (match x with | .str z => [z] | _ => []) else []
  | .n0 _ => []
  | .n1 _ a => a.names
  | .n2 _ a b => a.names ++ b.names
theorem names_size : ∀ t : Tr, t.names.length ≤ t.size
  | .leaf w x => by
    show (if w = "name" then (match x with | .str z => [z] | _ => []) else ([] : List Str)).length ≤ 1
    split
    · cases x <;> simp
    · simp
  | .n0 _ => Nat.zero_le _
  | .n1 _ a => Nat.le_succ_of_le (names_size a)
  | .n2 _ a b => by
    have h1 := names_size a
    have h2 := names_size b
    show (a.names ++ b.names).length ≤ a.size + b.size + 1
    rw [List.length_append]
    omega
/-! ### the pieces, parts ahead of the whole, from the left; each with how many all and some stand around it -/
def Tr.post : Tr → Nat → List (Tr × Nat)
  | .leaf w x, r => [(.leaf w x, r)]
  | .n0 w, r => [(.n0 w, r)]
  | .n1 w a, r => a.post (inner w r) ++ [(.n1 w a, r)]
  | .n2 w a b, r => a.post (inner w r) ++ b.post (inner w r) ++ [(.n2 w a b, r)]
theorem post_len : ∀ (t : Tr) (r : Nat), (t.post r).length = t.size
  | .leaf _ _, _ => rfl
  | .n0 _, _ => rfl
  | .n1 w a, r => by
    show (a.post _ ++ [_]).length = a.size + 1
    rw [List.length_append, post_len a]
    rfl
  | .n2 w a b, r => by
    show (a.post _ ++ b.post _ ++ [_]).length = a.size + b.size + 1
    rw [List.length_append, List.length_append, post_len a, post_len b]
    rfl
theorem post_kids (t : Tr) (r : Nat) : t.post r = (t.kids.flatMap fun a => a.post (inner t.word r)) ++ [(t, r)] := by
  cases t with
  | leaf w x => rfl
  | n0 w => rfl
  | n1 w a => simp [Tr.post, Tr.kids, Tr.word]
  | n2 w a b => simp [Tr.post, Tr.kids, Tr.word]
/-- what a whole list of pieces has for names -/
def leafName : Tr → List Str
  | .leaf w x => Tr.names (.leaf w x)
  | _ => []
theorem post_names : ∀ (t : Tr) (r : Nat), ((t.post r).flatMap fun (e : Tr × Nat) => leafName e.1) = t.names
  | .leaf w x, r => by simp [Tr.post, leafName]
  | .n0 w, r => by simp [Tr.post, leafName, Tr.names]
  | .n1 w a, r => by
    show ((a.post _ ++ [_]).flatMap fun (e : Tr × Nat) => leafName e.1) = a.names
    rw [List.flatMap_append, post_names a]
    simp [leafName]
  | .n2 w a b, r => by
    show ((a.post _ ++ b.post _ ++ [_]).flatMap fun (e : Tr × Nat) => leafName e.1) = a.names ++ b.names
    rw [List.flatMap_append, List.flatMap_append, post_names a, post_names b]
    simp [leafName]
theorem post_ok : ∀ (t : Tr) (r : Nat), t.Ok → ∀ e ∈ t.post r, e.1.Ok
  | .leaf w x, r, h, e, he => by
    rw [List.mem_singleton.mp he]
    exact h
  | .n0 w, r, h, e, he => by
    rw [List.mem_singleton.mp he]
    exact h
  | .n1 w a, r, h, e, he => by
    rcases List.mem_append.mp he with z | z
    · exact post_ok a _ h.2 e z
    · rw [List.mem_singleton.mp z]
      exact h
  | .n2 w a b, r, h, e, he => by
    rcases List.mem_append.mp he with z | z
    · rcases List.mem_append.mp z with z | z
      · exact post_ok a _ h.2.1 e z
      · exact post_ok b _ h.2.2 e z
    · rw [List.mem_singleton.mp z]
      exact h
theorem no_leaf {w : Str} (h : leafy w = false) (z : leafy w = true) : False := by
  rw [h] at z
  cases z
/-- a tree's own tuple -/
theorem At.view {H : Hp} {t : Tr} {v : V} (h : At H t v) (ok : t.Ok) : ∃ p vs, v = .ref p ∧ H p = some (.tup (.str t.word :: vs)) ∧ vs.length ≤ 2 ∧ (leafy t.word = false → All2 (At H) t.kids vs) ∧ (leafy t.word = true → ∃ x, t = .leaf t.word x ∧ vs = [x]) := by
  cases t with
  | leaf w x =>
    obtain ⟨p, e, h⟩ := h
    exact ⟨p, [x], e, h, Nat.le_succ 1, fun z => (no_leaf z ok.1).elim, fun _ => ⟨x, rfl, rfl⟩⟩
  | n0 w =>
    obtain ⟨p, e, h⟩ := h
    exact ⟨p, [], e, h, Nat.zero_le 2, fun _ => .nil, fun z => (no_leaf ok z).elim⟩
  | n1 w a =>
    obtain ⟨p, y, e, h, ha⟩ := h
    exact ⟨p, [y], e, h, Nat.le_succ 1, fun _ => .one ha, fun z => (no_leaf ok.1 z).elim⟩
  | n2 w a b =>
    obtain ⟨p, y, z, e, h, ha, hb⟩ := h
    exact ⟨p, [y, z], e, h, Nat.le_refl 2, fun _ => .cons ha (.one hb), fun q => (no_leaf ok.1 q).elim⟩
theorem kids_ok {t : Tr} (ok : t.Ok) : ∀ a ∈ t.kids, a.Ok := by
  cases t with
  | leaf w x => intro a h; cases h
  | n0 w => intro a h; cases h
  | n1 w a =>
    intro c h
    rw [List.mem_singleton.mp h]
    exact ok.2
  | n2 w a b =>
    intro c h
    rcases List.mem_cons.mp h with z | z
    · rw [z]
      exact ok.2.1
    · rw [List.mem_singleton.mp z]
      exact ok.2.2
/-! ### sorted lists of texts -/
theorem nodup_le : ∀ (ks ms : List Str), ks.Nodup → (∀ k ∈ ks, k ∈ ms) → ks.length ≤ ms.length
  | [], _, _, _ => Nat.zero_le _
  | k :: r, ms, nd, h => by
    obtain ⟨n1, n2⟩ := List.nodup_cons.mp nd
    have hk : k ∈ ms := h k List.mem_cons_self
    have q := nodup_le r (ms.erase k) n2 fun j hj => (List.mem_erase_of_ne (fun z : j = k => n1 (z ▸ hj))).mpr (h j (List.mem_cons_of_mem _ hj))
    rw [List.length_erase_of_mem hk] at q
    have pos : 0 < ms.length := List.length_pos_of_mem hk
    rw [List.length_cons]
    omega
def Le (a b : Str) : Prop := ltCps b.cps.toList a.cps.toList = false
theorem rising_pairs : ∀ (p : Str) (l : List Str), risingS p l = true → (∀ (a b c : Str), Le a b → Le b c → Le a c) → (p :: l).Pairwise Le
  | p, [], _, _ => List.pairwise_singleton _ _
  | p, x :: r, h, tr => by
    have h' : (!ltCps x.cps.toList p.cps.toList && risingS x r) = true := h
    rw [Bool.and_eq_true] at h'
    have q := rising_pairs x r h'.2 tr
    have px : Le p x := by
      unfold Le
      simpa using h'.1
    refine List.pairwise_cons.mpr ⟨fun y hy => ?_, q⟩
    rcases List.mem_cons.mp hy with z | z
    · rw [z]
      exact px
    · exact tr _ _ _ px (List.rel_of_pairwise_cons q z)
theorem le_iff (a b : Str) : Le a b ↔ a.cps.toList ≤ b.cps.toList := by
  unfold Le
  rw [ltCps_eq]
  simp
theorem le_trans3 (a b c : Str) (h1 : Le a b) (h2 : Le b c) : Le a c := by
  rw [le_iff] at *
  exact List.le_trans h1 h2
theorem le_anti (a b : Str) (h1 : Le a b) (h2 : Le b a) : a = b := by
  rw [le_iff] at *
  have q := List.le_antisymm h1 h2
  cases a with
  | mk x =>
    cases b with
    | mk y =>
      have q' : x.toList = y.toList := q
      rw [Array.toList_inj.mp q']
theorem one_order : ∀ (l m : List Str), l.Pairwise Le → m.Pairwise Le → l.Nodup → m.Nodup → (∀ x, x ∈ l ↔ x ∈ m) → l = m
  | [], [], _, _, _, _, _ => rfl
  | [], y :: m, _, _, _, _, h => by
    have := (h y).2 List.mem_cons_self
    cases this
  | x :: l, [], _, _, _, _, h => by
    have := (h x).1 List.mem_cons_self
    cases this
  | x :: l, y :: m, pl, pm, nl, nm, h => by
    obtain ⟨l1, l2⟩ := List.pairwise_cons.mp pl
    obtain ⟨m1, m2⟩ := List.pairwise_cons.mp pm
    obtain ⟨k1, k2⟩ := List.nodup_cons.mp nl
    obtain ⟨j1, j2⟩ := List.nodup_cons.mp nm
    have exy : x = y := by
      rcases List.mem_cons.mp ((h x).1 List.mem_cons_self) with z | z
      · exact z
      · rcases List.mem_cons.mp ((h y).2 List.mem_cons_self) with q | q
        · exact q.symm
        · exact le_anti _ _ (l1 y q) (m1 x z)
    subst exy
    rw [one_order l m l2 m2 k2 j2 fun z => ?_]
    constructor
    · intro hz
      rcases List.mem_cons.mp ((h z).1 (List.mem_cons_of_mem _ hz)) with e | e
      · exact absurd (e ▸ hz) k1
      · exact e
    · intro hz
      rcases List.mem_cons.mp ((h z).2 (List.mem_cons_of_mem _ hz)) with e | e
      · exact absurd (e ▸ hz) j1
      · exact e
theorem sorted_pairs : ∀ l : List Str, sortedS l = true → l.Pairwise Le
  | [], _ => List.Pairwise.nil
  | x :: r, h => rising_pairs x r h le_trans3
end Kf
set_option Elab.async false
set_option linter.all false
set_option maxRecDepth 100000
set_option maxHeartbeats 4000000
set_option pp.maxSteps 1500
/-! k20: the dice, a pick. -/
namespace Kf
open PySem PySem.Spec PyProof.Rows L2 Sx
def top (i : Nat) : Stmt := PySem.Challenge.pw_prooffruit_k21_kinds_of_sayings.main.body.getD i (.Pass ⟨0, 0, 0, 0⟩)
abbrev sRoll : Stmt := top 14
abbrev sPick : Stmt := top 15
abbrev rollN : List Str := ["dice", "size", "spot", "cell", "seed", "rest"]
theorem scRoll : FnScope rollN ["dice", "size"] (defScope sRoll) := ⟨rfl, rfl, rfl, by decide +kernel, rfl, by decide +kernel, by decide +kernel⟩
theorem scPick : FnScope ["dice", "some"] ["dice", "some"] (defScope sPick) := ⟨rfl, rfl, rfl, by decide +kernel, rfl, by decide +kernel, by decide +kernel⟩
/-- the dice: its cells, how many are used up, below m -/
def DiceAt (H : Hp) (p L : Addr) (m : Int) : Prop := ∃ (spot n rest : Int) (cells : List Int), H p = some (.lst [.ref L, .int spot, .int n, .int rest]) ∧ L ≠ p ∧ H L = some (.lst (cells.map V.int)) ∧ cells.length ≤ 63 ∧ 0 ≤ spot ∧ spot ≤ m
theorem DiceAt.same {H H' : Hp} {p L : Addr} {m : Int} (h : DiceAt H p L m) (b : Same H H') : DiceAt H' p L m := by
  obtain ⟨x, n, r, cs, e, nl, eL, q⟩ := h
  exact ⟨x, n, r, cs, b _ _ e, nl, b _ _ eL, q⟩
theorem DiceAt.more {H : Hp} {p L : Addr} {m k : Int} (h : DiceAt H p L m) (l : m ≤ k) : DiceAt H p L k := by
  obtain ⟨x, n, r, cs, e, nl, eL, hc, h0, h1⟩ := h
  exact ⟨x, n, r, cs, e, nl, eL, hc, h0, Int.le_trans h1 l⟩
theorem DiceAt.ne {H : Hp} {p q L : Addr} {m : Int} (h : DiceAt H p L m) (e : H q = none) : q ≠ p := fun z => by
  obtain ⟨x, n, r, cs, e2, _⟩ := h
  rw [z, e2] at e
  cases e
theorem DiceAt.tups {H H' : Hp} {p L : Addr} {m : Int} (h : DiceAt H p L m) (b : But p H H') : Tups H H' := by
  obtain ⟨x, n, r, cs, e2, _⟩ := h
  intro c xs e
  refine b _ _ (fun z => ?_) e
  rw [z, e2] at e
  cases e
/-! ### whole numbers as data -/
theorem dp_ints {K : PySem.W.Frag} {H : Hp} {a : Addr} {ns : List Int} (h : SqL K H a (ns.map V.int)) : Dp K H (.ref a) (.list (ns.map PyData.int)) := by
  refine .lst h ?_
  clear h
  induction ns with
  | nil => exact .nil
  | cons x r ih => exact .cons (.int x) ih
theorem lay_ints : ∀ ns : List Int, PyData.canLayAll0 (ns.map .int) = true ∧ PyData.depthAll (ns.map .int) = 0
  | [] => ⟨rfl, rfl⟩
  | z :: r => by
    obtain ⟨h1, h2⟩ := lay_ints r
    refine ⟨?_, ?_⟩
    · show (true && PyData.canLayAll0 (r.map .int)) = true
      rw [h1]
      rfl
    · show max 0 (PyData.depthAll (r.map .int)) = 0
      rw [h2]
      rfl
theorem shaped_ints (ns : List Int) : SeqAt.shaped (.list (ns.map .int)) = true := by
  obtain ⟨h1, h2⟩ := lay_ints ns
  show (PyData.canLayAll0 (ns.map .int) && decide (PyData.depthAll (ns.map .int) + 1 ≤ 64)) = true
  rw [h1, h2]
  rfl
theorem notM {m : Int} (h : 0 < m) : m ≠ 0 := Int.ne_of_gt h
theorem mod_in {i m : Int} (h : 0 < m) : 0 ≤ i.fmod m ∧ i.fmod m < m := by
  rw [Int.fmod_eq_emod_of_nonneg _ (Int.le_of_lt h)]
  exact ⟨Int.emod_nonneg _ (Int.ne_of_gt h), Int.emod_lt_of_pos _ h⟩
theorem atI_in {α : Type} {xs : List α} {r : Int} (h0 : 0 ≤ r) (h1 : r < (xs.length : Int)) : ∃ x ∈ xs, atI xs r = some x := by
  obtain ⟨k, rfl⟩ := Int.eq_ofNat_of_zero_le h0
  have lt : k < xs.length := by omega
  exact ⟨xs[k], List.getElem_mem lt, atI_nat (List.getElem?_eq_getElem lt)⟩
section
variable {P : Program} {w : World} {K : PySem.W.Frag} {mg : Str → Option Value} {base : Heap}
def spRoll : Sp := fun vs H Q _ => ∃ (p L : Addr) (size m : Int), vs = [.ref p, .int size] ∧ 0 < size ∧ size.natAbs < 2 ^ 200 ∧ m < 2 ^ 50 ∧ DiceAt H p L m ∧
  ∀ (r : Int) H', 0 ≤ r → r < size → But p H H' → DiceAt H' p L (m + 1) → Q (.int r) H'
theorem ok_roll {f : Addr} {fd : FuncData} {j : Nat} (F : Fun K "_law_roll" "_law_roll" sRoll f fd) (ml : mg "len" = none) : FnOk P w K mg base CX0 (j + 1) f fd ["dice", "size"] spRoll := by
  refine F.ok scRoll (fun vs H Q E h => ?_) (fun cdv A outer s H vs Q E hr h => ?_)
  · obtain ⟨a, L, z, m, rfl, _⟩ := h
    rfl
  obtain ⟨p, L, size, m, rfl, pos, small, mm, ⟨spot, n, rest, cells, hp, nl, hL, hc, s0, s1⟩, q⟩ := h
  have u1 : (A.deeper (envOfC "_law_roll" (defScope sRoll) s.heap.objs.size f cdv)).units + 64 < cLine := by
    have := hr.units
    omega
  refine ⟨_, pss_cons (ps_if (pt_cmpR op_eq (pe_ix ix_list (pv 0) pe_int (fun _ _ => rfl)) pe_int (nomark _))
      (pss_cons (ps_set (i := 2) scRoll.nd rfl (.inl rfl) (pe_ix ix_list (pv 0) pe_int (fun _ _ => rfl)))
      (pss_cons (ps_asg (pe_op op_add (pv 2) pe_int) (pg_sub (pv 0) pe_int set_list))
      (pss_cons (ps_set (i := 3) scRoll.nd rfl (.inl rfl) pe_int)
      (pss_cons (ps_if (pt_cmpR (op_neD u1) (pe_ix ix_list (pv 0) pe_int (fun _ _ => rfl)) (pe_lst pa_nil) (nomark _))
        (pss_one (ps_set (i := 3) scRoll.nd rfl (.inl rfl) (pe_ix ix_list (pe_ix ix_list (pv 0) pe_int (fun _ _ => rfl)) (pe_op op_modN (pv 2) (pe_callB call_len_seq (by rfl) ml PySem.boot_len (pa_cons (pe_ix ix_list (pv 0) pe_int (fun _ _ => rfl)) pa_nil))) (fun _ _ => rfl)))) pss_nil)
      (pss_cons (ps_if (PW.pt (pw_or (pt_cmpR op_ge (pv 2) (pe_callB call_len_seq (by rfl) ml PySem.boot_len (pa_cons (pe_ix ix_list (pv 0) pe_int (fun _ _ => rfl)) pa_nil)) (nomark _)) (pw_or1 (pt_cmpR op_lt (pv 3) (pe_op op_pow pe_int pe_int) (nomark _)))))
        (pss_cons (ps_set (i := 4) scRoll.nd rfl (.inl rfl) (pe_op op_modN (pe_op op_mul (pe_op op_add (pe_op op_modN (pv 3) pe_int) pe_int) (pe_op op_add (pe_op op_add (pe_op op_mul (pv 2) (pv 2)) (pe_op op_mul pe_int (pv 2))) pe_int)) pe_int))
        (pss_cons (ps_set (i := 4) scRoll.nd rfl (.inl rfl) (pe_op op_modN (pe_op op_pow (pv 4) pe_int) pe_int))
        (pss_one (ps_ret (pe_op op_modN (pe_op op_fdiv (pe_op op_modN (pe_op op_add (pv 4) (pe_op op_mul pe_int (pv 2))) pe_int) pe_int) (pv 1)))))) pss_nil)
      (pss_cons (ps_asg pe_int (pg_sub (pv 0) pe_int set_list))
      (pss_one (ps_asg (pe_op op_sub (pv 3) (pe_op op_pow pe_int pe_int)) (pg_sub (pv 0) pe_int set_list))))))))) pss_nil)
    (pss_cons (ps_asg (pe_op op_sub (pe_ix ix_list (pv 0) pe_int (fun _ _ => rfl)) pe_int) (pg_sub (pv 0) pe_int set_list))
    (pss_cons (ps_set (i := 5) scRoll.nd rfl (.inl rfl) (pe_ix ix_list (pv 0) pe_int (fun _ _ => rfl)))
    (pss_cons (ps_asg (pe_op op_fdivW (pv 5) (pv 1)) (pg_sub (pv 0) pe_int set_list)) (pss_one (ps_ret (pe_op op_modN (pv 5) (pv 1))))))), ?_⟩
  have sq : ∀ (H' : Hp) a b c, H' p = some (.lst [.ref L, a, b, c]) → SqL K H' p [.ref L, a, b, c] := fun H' a b c e => .inl (.inl e)
  have end_ : ∀ (H' : Hp) (x a b : Int), H' p = some (.lst [.ref L, .int x, .int a, .int b]) → But p H H' → 0 ≤ x → x ≤ m + 1 →
      (∃ H2, H2 = upd (upd H' p (.lst [.ref L, .int x, .int (a - 1), .int b])) p (.lst [.ref L, .int x, .int (a - 1), .int (b / size)]) ∧ Q (.int (b.fmod size)) H2) := fun H' x a b e bb x0 x1 => by
    refine ⟨_, rfl, ?_⟩
    refine q _ _ (mod_in pos).1 (mod_in pos).2 ((bb.own).own) ⟨x, a - 1, b / size, cells, upd_same, nl, ?_, hc, x0, x1⟩
    rw [upd_ne nl, upd_ne nl]
    exact bb _ _ nl hL
  have sp : CMul spot spot := .inl ⟨by omega, by omega⟩
  have in64 : ∀ c : Int, -(2 ^ 64) < c.fmod 999953 + 37 ∧ c.fmod 999953 + 37 < 2 ^ 64 := fun c => by
    obtain ⟨a, b⟩ := mod_in (i := c) (m := 999953) (by decide)
    omega
  have pow64 : ∀ c : Int, (c.fmod 1000003).natAbs < 2 ^ 64 := fun c => by
    obtain ⟨a, b⟩ := mod_in (i := c) (m := 1000003) (by decide)
    omega
  refine ⟨_, rfl, p, _, 2, .int n, rfl, rfl, sq _ _ _ _ hp, rfl, rfl, _, rfl, ?_⟩
  refine ite2 (fun c => ?_) (fun c => ?_)
  · refine ⟨_, rfl, p, _, 1, .int spot, rfl, rfl, sq _ _ _ _ hp, rfl, ?_⟩
    refine ⟨_, rfl, _, _, rfl, rfl, _, rfl, p, _, 1, 1, rfl, rfl, hp, rfl, ?_⟩
    have b1 : But p H (upd H p (.lst [.ref L, .int (spot + 1), .int n, .int rest])) := (But.refl p H).own
    have hL1 := b1 _ _ nl hL
    have hp1 : upd H p (.lst [.ref L, .int (spot + 1), .int n, .int rest]) p = some (.lst [.ref L, .int (spot + 1), .int n, .int rest]) := upd_same
    refine ⟨_, rfl, p, _, 0, .ref L, rfl, rfl, sq _ _ _ _ hp1, rfl, (by show 0 ≤ sizeLine; decide), fun e0 ne0 => ?_⟩
    have s2 := same_new (o := .lst []) ne0
    have b2 := b1.new (o := .lst []) ne0
    have hL2 := s2 _ _ hL1
    have hp2 := s2 _ _ hp1
    refine ⟨_, _, dp_ints (.inl (.inl hL2)), .lst (.inl (.inl upd_same)) .nil, shaped_ints _, rfl, _, rfl, ?_⟩
    cases cells with
    | nil =>
      refine iteF ?_
      refine ⟨_, rfl, _, rfl, p, _, 0, .ref L, rfl, rfl, sq _ _ _ _ hp2, rfl, L, _, rfl, .inl (.inl (.inl hL2)), _, _, rfl, rfl, _, rfl, ?_⟩
      refine ite2 (fun c2 => ?_) (fun c2 => (c2 (decide_eq_true s0)).elim)
      refine ⟨_, rfl, _, _, rfl, rfl, notM (by decide), _, _, rfl, rfl, _, rfl, _, rfl, _, _, rfl, rfl, sp, _, rfl, _, _, rfl, rfl, .inl ⟨by decide, by decide⟩, _, _, rfl, rfl, _, _, rfl, rfl, _, _, rfl, rfl, .inl (in64 _), _, _, rfl, rfl, notM (by decide), ?_⟩
      refine ⟨_, rfl, _, _, rfl, rfl, ⟨by decide, by decide, pow64 _⟩, _, _, rfl, rfl, notM (by decide), ?_⟩
      refine ⟨_, rfl, _, rfl, _, _, rfl, rfl, .inl ⟨by decide, by decide⟩, _, _, rfl, rfl, _, _, rfl, rfl, notM (by decide), _, _, rfl, rfl, ⟨by decide, by decide⟩, _, rfl, _, _, rfl, rfl, notM pos, ?_⟩
      exact q _ _ (mod_in pos).1 (mod_in pos).2 b2 ⟨spot + 1, n, rest, _, hp2, nl, hL2, hc, by omega, by omega⟩
    | cons z zs =>
      refine iteT ?_
      refine ⟨_, rfl, p, _, 0, .ref L, rfl, rfl, sq _ _ _ _ hp2, rfl, _, rfl, _, rfl, p, _, 0, .ref L, rfl, rfl, sq _ _ _ _ hp2, rfl, L, _, rfl, .inl (.inl (.inl hL2)), _, _, rfl, rfl, notM (by show (0 : Int) < (((z :: zs).map V.int).length : Nat); rw [List.length_map]; exact Int.natCast_pos.mpr (Nat.succ_pos _)), ?_⟩
      obtain ⟨i0, i1⟩ := mod_in (i := spot) (m := (((z :: zs).map V.int).length : Nat)) (by rw [List.length_map]; exact Int.natCast_pos.mpr (Nat.succ_pos _))
      have item : ∃ y : Int, atI ((z :: zs).map V.int) (spot.fmod (((z :: zs).map V.int).length : Nat)) = some (.int y) := by
        obtain ⟨x, mem, e⟩ := atI_in i0 i1
        obtain ⟨y, _, ey⟩ := List.mem_map.mp mem
        exact ⟨y, by rw [e, ← ey]⟩
      obtain ⟨y, item⟩ := item
      refine ⟨L, _, _, _, rfl, rfl, .inl (.inl hL2), item, ?_⟩
      refine ⟨_, rfl, _, rfl, p, _, 0, .ref L, rfl, rfl, sq _ _ _ _ hp2, rfl, L, _, rfl, .inl (.inl (.inl hL2)), _, _, rfl, rfl, _, rfl, ?_⟩
      refine ite2 (fun c2 => ?_) (fun c2 => ?_)
      · refine ⟨_, rfl, _, _, rfl, rfl, notM (by decide), _, _, rfl, rfl, _, rfl, _, rfl, _, _, rfl, rfl, sp, _, rfl, _, _, rfl, rfl, .inl ⟨by decide, by decide⟩, _, _, rfl, rfl, _, _, rfl, rfl, _, _, rfl, rfl, .inl (in64 _), _, _, rfl, rfl, notM (by decide), ?_⟩
        refine ⟨_, rfl, _, _, rfl, rfl, ⟨by decide, by decide, pow64 _⟩, _, _, rfl, rfl, notM (by decide), ?_⟩
        refine ⟨_, rfl, _, rfl, _, _, rfl, rfl, .inl ⟨by decide, by decide⟩, _, _, rfl, rfl, _, _, rfl, rfl, notM (by decide), _, _, rfl, rfl, ⟨by decide, by decide⟩, _, rfl, _, _, rfl, rfl, notM pos, ?_⟩
        exact q _ _ (mod_in pos).1 (mod_in pos).2 b2 ⟨spot + 1, n, rest, _, hp2, nl, hL2, hc, by omega, by omega⟩
      · refine ⟨_, rfl, _, _, rfl, rfl, ⟨by decide, by decide, by decide⟩, _, _, rfl, rfl, _, rfl, ?_⟩
        refine ite2 (fun c3 => ?_) (fun c3 => ?_)
        · refine ⟨_, rfl, _, _, rfl, rfl, notM (by decide), _, _, rfl, rfl, _, rfl, _, rfl, _, _, rfl, rfl, sp, _, rfl, _, _, rfl, rfl, .inl ⟨by decide, by decide⟩, _, _, rfl, rfl, _, _, rfl, rfl, _, _, rfl, rfl, .inl (in64 _), _, _, rfl, rfl, notM (by decide), ?_⟩
          refine ⟨_, rfl, _, _, rfl, rfl, ⟨by decide, by decide, pow64 _⟩, _, _, rfl, rfl, notM (by decide), ?_⟩
          refine ⟨_, rfl, _, rfl, _, _, rfl, rfl, .inl ⟨by decide, by decide⟩, _, _, rfl, rfl, _, _, rfl, rfl, notM (by decide), _, _, rfl, rfl, ⟨by decide, by decide⟩, _, rfl, _, _, rfl, rfl, notM pos, ?_⟩
          exact q _ _ (mod_in pos).1 (mod_in pos).2 b2 ⟨spot + 1, n, rest, _, hp2, nl, hL2, hc, by omega, by omega⟩
        · refine ⟨_, rfl, p, _, 2, 2, rfl, rfl, hp2, rfl, ?_⟩
          refine ⟨_, rfl, _, _, rfl, rfl, ⟨by decide, by decide, by decide⟩, _, _, rfl, rfl, _, rfl, p, _, 3, 3, rfl, rfl, upd_same, rfl, ?_⟩
          refine ⟨_, rfl, p, _, 2, _, rfl, rfl, sq _ _ _ _ upd_same, rfl, _, _, rfl, rfl, _, rfl, p, _, 2, 2, rfl, rfl, upd_same, rfl, ?_⟩
          refine ⟨_, rfl, p, _, 3, _, rfl, rfl, sq _ _ _ _ upd_same, rfl, ?_⟩
          refine ⟨_, rfl, _, rfl, _, _, rfl, rfl, wide_div pos small (by decide) (by decide), _, rfl, p, _, 3, 3, rfl, rfl, upd_same, rfl, ?_⟩
          refine ⟨_, rfl, _, rfl, _, _, rfl, rfl, notM pos, ?_⟩
          refine q _ _ (mod_in pos).1 (mod_in pos).2 ((((b2.own).own).own).own) ⟨spot + 1, _, _, _, upd_same, nl, ?_, hc, by omega, by omega⟩
          rw [upd_ne nl, upd_ne nl, upd_ne nl, upd_ne nl]
          exact hL2
  · refine ⟨_, rfl, p, _, 2, _, rfl, rfl, sq _ _ _ _ hp, rfl, _, _, rfl, rfl, _, rfl, p, _, 2, 2, rfl, rfl, hp, rfl, ?_⟩
    refine ⟨_, rfl, p, _, 3, _, rfl, rfl, sq _ _ _ _ upd_same, rfl, ?_⟩
    refine ⟨_, rfl, _, rfl, _, _, rfl, rfl, wide_div pos small (by decide) (by decide), _, rfl, p, _, 3, 3, rfl, rfl, upd_same, rfl, ?_⟩
    refine ⟨_, rfl, _, rfl, _, _, rfl, rfl, notM pos, ?_⟩
    refine q _ _ (mod_in pos).1 (mod_in pos).2 ((((But.refl p H).own).own)) ⟨spot, _, _, _, upd_same, nl, ?_, hc, s0, by omega⟩
    rw [upd_ne nl, upd_ne nl]
    exact hL
end
end Kf
set_option Elab.async false
set_option linter.all false
set_option maxRecDepth 100000
set_option maxHeartbeats 4000000
set_option pp.maxSteps 800
/-! Data of any form. -/
namespace Kf
open PySem PySem.Spec PyProof.Rows L2 Sx
section
variable {K : PySem.W.Frag} {H H' : Hp}
theorem sqL_up {a : Addr} {xs : List V} (b : Same H H') (h : SqL K H a xs) : SqL K H' a xs := by
  rcases h with (h | ⟨o, h⟩) | h
  · exact .inl (.inl (b _ _ h))
  · exact .inl (.inr ⟨o, b _ _ h⟩)
  · exact .inr h
theorem sqT_up {a : Addr} {xs : List V} (b : Same H H') (h : SqT K H a xs) : SqT K H' a xs := by
  rcases h with (h | ⟨o, h⟩) | h
  · exact .inl (.inl (b _ _ h))
  · exact .inl (.inr ⟨o, b _ _ h⟩)
  · exact .inr h
mutual
theorem dp_up (s : Same H H') : ∀ (d : PyData) (v : V), Dp K H v d → Dp K H' v d
  | .none, _, h => by cases h; exact .non
  | .bool b, _, h => by cases h; exact .bl b
  | .int b, _, h => by cases h; exact .int b
  | .str b, _, h => by cases h; exact .str b
  | .list ds, _, h => by
    cases h with
    | lst h a => exact .lst (sqL_up s h) (dps_up s ds _ a)
  | .tuple ds, _, h => by
    cases h with
    | tup h a => exact .tup (sqT_up s h) (dps_up s ds _ a)
  | .dict _, _, h => by cases h
theorem dps_up (s : Same H H') : ∀ (ds : List PyData) (vs : List V), DpAll K H vs ds → DpAll K H' vs ds
  | [], _, h => by cases h; exact .nil
  | d :: ds, _, h => by
    cases h with
    | cons a b => exact .cons (dp_up s d _ a) (dps_up s ds _ b)
end
/-- the name of a thing's type -/
def tyN : PyData → String
  | .none => "NoneType"
  | .bool _ => "bool"
  | .int _ => "int"
  | .str _ => "str"
  | .list _ => "list"
  | .tuple _ => "tuple"
  | .dict _ => "dict"
theorem dp_ty {v : V} {d : PyData} (h : Dp K H v d) : TyX K H v (.type (tyN d)) := by
  cases h with
  | non => exact .base .non
  | bl b => exact .base (.bl b)
  | int i => exact .base (.int i)
  | str z => exact .base (.str z)
  | lst h _ =>
    rcases h with (h | ⟨o, h⟩) | ⟨o, its, n, e, c, _⟩
    · exact .base (.lst h)
    · exact .base (.frz h)
    · exact .kList e c
  | tup h _ =>
    rcases h with (h | ⟨o, h⟩) | ⟨o, its, n, e, c, _⟩
    · exact .base (.tup h)
    · exact .fTuple h
    · exact .kTuple e c
def isI : PyData → Bool
  | .int _ | .bool _ => true
  | _ => false
def isB : PyData → Bool
  | .bool _ => true
  | _ => false
def isS : PyData → Bool
  | .str _ => true
  | _ => false
def isTu : PyData → Bool
  | .tuple _ => true
  | _ => false
theorem kit_i (d : PyData) : PySem.W.kitOne K (.type (tyN d)) (.type "int") = some (isI d) := by
  cases d with
  | none => exact kit_ty (show kitB "NoneType" "int" = some false by decide +kernel)
  | bool _ => exact kit_ty (show kitB "bool" "int" = some true by decide +kernel)
  | int _ => exact kit_ty (show kitB "int" "int" = some true by decide +kernel)
  | str _ => exact kit_ty (show kitB "str" "int" = some false by decide +kernel)
  | list _ => exact kit_ty (show kitB "list" "int" = some false by decide +kernel)
  | tuple _ => exact kit_ty (show kitB "tuple" "int" = some false by decide +kernel)
  | dict _ => exact kit_ty (show kitB "dict" "int" = some false by decide +kernel)
theorem kit_b (d : PyData) : PySem.W.kitOne K (.type (tyN d)) (.type "bool") = some (isB d) := by
  cases d with
  | none => exact kit_ty (show kitB "NoneType" "bool" = some false by decide +kernel)
  | bool _ => exact kit_ty (show kitB "bool" "bool" = some true by decide +kernel)
  | int _ => exact kit_ty (show kitB "int" "bool" = some false by decide +kernel)
  | str _ => exact kit_ty (show kitB "str" "bool" = some false by decide +kernel)
  | list _ => exact kit_ty (show kitB "list" "bool" = some false by decide +kernel)
  | tuple _ => exact kit_ty (show kitB "tuple" "bool" = some false by decide +kernel)
  | dict _ => exact kit_ty (show kitB "dict" "bool" = some false by decide +kernel)
theorem kit_s (d : PyData) : PySem.W.kitOne K (.type (tyN d)) (.type "str") = some (isS d) := by
  cases d with
  | none => exact kit_ty (show kitB "NoneType" "str" = some false by decide +kernel)
  | bool _ => exact kit_ty (show kitB "bool" "str" = some false by decide +kernel)
  | int _ => exact kit_ty (show kitB "int" "str" = some false by decide +kernel)
  | str _ => exact kit_ty (show kitB "str" "str" = some true by decide +kernel)
  | list _ => exact kit_ty (show kitB "list" "str" = some false by decide +kernel)
  | tuple _ => exact kit_ty (show kitB "tuple" "str" = some false by decide +kernel)
  | dict _ => exact kit_ty (show kitB "dict" "str" = some false by decide +kernel)
theorem kit_tu (d : PyData) : PySem.W.kitOne K (.type (tyN d)) (.type "tuple") = some (isTu d) := by
  cases d with
  | none => exact kit_ty (show kitB "NoneType" "tuple" = some false by decide +kernel)
  | bool _ => exact kit_ty (show kitB "bool" "tuple" = some false by decide +kernel)
  | int _ => exact kit_ty (show kitB "int" "tuple" = some false by decide +kernel)
  | str _ => exact kit_ty (show kitB "str" "tuple" = some false by decide +kernel)
  | list _ => exact kit_ty (show kitB "list" "tuple" = some false by decide +kernel)
  | tuple _ => exact kit_ty (show kitB "tuple" "tuple" = some true by decide +kernel)
  | dict _ => exact kit_ty (show kitB "dict" "tuple" = some false by decide +kernel)
theorem dps_len : ∀ {vs : List V} {ds : List PyData}, DpAll K H vs ds → vs.length = ds.length
  | _, _, .nil => rfl
  | _, _, .cons _ t => congrArg Nat.succ (dps_len t)
end
/-! ### in a tuple -/
section
variable {X : Cx}
def rInDT (K : PySem.W.Frag) : R2 := fun x y H Q => ∃ d ds, Dp K H x d ∧ Dp K H y (.tuple ds) ∧ SeqAt.shaped d = true ∧ SeqAt.shaped (.list ds) = true ∧ PyData.depthAll ds = 0 ∧ Q (.bl (ds.any fun z => PyData.eqv z d)) H
theorem op_inDT (hu : X.A.units + 64 < cLine) : OpR X (compareOp .In) (rInDT X.K) := by
  intro pins s σ H x y v u Q I rx ry h
  obtain ⟨d, ds, hd, he, sd, se, z0, q⟩ := h
  obtain ⟨as, r1⟩ := Dp.reads I d x v hd rx
  obtain ⟨bs, r2⟩ := Dp.reads I (.tuple ds) y u he ry
  exact SeqAt.in_tuple_reads r2 r1 (SeqAt.canLay_of_shaped se) (SeqAt.canLay_of_shaped sd) (by rw [z0, Nat.zero_min]; omega) ⟨.bl _, H, I, rfl, q⟩
def rNotInDT (K : PySem.W.Frag) : R2 := fun x y H Q => ∃ d ds, Dp K H x d ∧ Dp K H y (.tuple ds) ∧ SeqAt.shaped d = true ∧ SeqAt.shaped (.list ds) = true ∧ PyData.depthAll ds = 0 ∧ Q (.bl (!ds.any fun z => PyData.eqv z d)) H
theorem op_notInDT (hu : X.A.units + 64 < cLine) : OpR X (compareOp .NotIn) (rNotInDT X.K) := by
  intro pins s σ H x y v u Q I rx ry h
  obtain ⟨d, ds, hd, he, sd, se, z0, q⟩ := h
  obtain ⟨as, r1⟩ := Dp.reads I d x v hd rx
  obtain ⟨bs, r2⟩ := Dp.reads I (.tuple ds) y u he ry
  exact SeqAt.notIn_tuple_reads r2 r1 (SeqAt.canLay_of_shaped se) (SeqAt.canLay_of_shaped sd) (by rw [z0, Nat.zero_min]; omega) ⟨.bl _, H, I, rfl, q⟩
end
/-! ### data of any depth: ==, !=, repr -/
section
variable {X : Cx}
def rEqW (K : PySem.W.Frag) : R2 := fun x y H Q => ∃ d e, Dp K H x d ∧ Dp K H y e ∧ d.canLay0 = true ∧ e.canLay0 = true ∧ d.depth ≤ 120 ∧ Q (.bl (PyData.eqv d e)) H
def rNeW (K : PySem.W.Frag) : R2 := fun x y H Q => ∃ d e, Dp K H x d ∧ Dp K H y e ∧ d.canLay0 = true ∧ e.canLay0 = true ∧ d.depth ≤ 120 ∧ Q (.bl (!PyData.eqv d e)) H
theorem op_eqW (hu : X.A.units + 130 < cLine) : OpR X (compareOp .Eq) (rEqW X.K) := by
  intro pins s σ H x y v u Q I rx ry h
  obtain ⟨d, e, hd, he, sd, se, dd, q⟩ := h
  obtain ⟨as, r1⟩ := Dp.reads I d x v hd rx
  obtain ⟨bs, r2⟩ := Dp.reads I e y u he ry
  exact SeqAt.compareEq_reads r1 r2 sd se (by omega) ⟨.bl _, H, I, rfl, q⟩
theorem op_neW (hu : X.A.units + 130 < cLine) : OpR X (compareOp .NotEq) (rNeW X.K) := by
  intro pins s σ H x y v u Q I rx ry h
  obtain ⟨d, e, hd, he, sd, se, dd, q⟩ := h
  obtain ⟨as, r1⟩ := Dp.reads I d x v hd rx
  obtain ⟨bs, r2⟩ := Dp.reads I e y u he ry
  exact SeqAt.compareNe_reads r1 r2 sd se (by omega) ⟨.bl _, H, I, rfl, q⟩
def rInW (K : PySem.W.Frag) : R2 := fun x y H Q => ∃ d ds, Dp K H x d ∧ Dp K H y (.tuple ds) ∧ d.canLay0 = true ∧ PyData.canLayAll0 ds = true ∧ min (PyData.depthAll ds) d.depth ≤ 120 ∧ Q (.bl (ds.any fun z => PyData.eqv z d)) H
theorem op_inW (hu : X.A.units + 130 < cLine) : OpR X (compareOp .In) (rInW X.K) := by
  intro pins s σ H x y v u Q I rx ry h
  obtain ⟨d, ds, hd, he, sd, se, z0, q⟩ := h
  obtain ⟨as, r1⟩ := Dp.reads I d x v hd rx
  obtain ⟨bs, r2⟩ := Dp.reads I (.tuple ds) y u he ry
  exact SeqAt.in_tuple_reads r2 r1 se sd (by omega) ⟨.bl _, H, I, rfl, q⟩
def rNotInW (K : PySem.W.Frag) : R2 := fun x y H Q => ∃ d ds, Dp K H x d ∧ Dp K H y (.tuple ds) ∧ d.canLay0 = true ∧ PyData.canLayAll0 ds = true ∧ min (PyData.depthAll ds) d.depth ≤ 120 ∧ Q (.bl (!ds.any fun z => PyData.eqv z d)) H
theorem op_notInW (hu : X.A.units + 130 < cLine) : OpR X (compareOp .NotIn) (rNotInW X.K) := by
  intro pins s σ H x y v u Q I rx ry h
  obtain ⟨d, ds, hd, he, sd, se, z0, q⟩ := h
  obtain ⟨as, r1⟩ := Dp.reads I d x v hd rx
  obtain ⟨bs, r2⟩ := Dp.reads I (.tuple ds) y u he ry
  exact SeqAt.notIn_tuple_reads r2 r1 se sd (by omega) ⟨.bl _, H, I, rfl, q⟩
end
end Kf
set_option Elab.async false
set_option linter.all false
set_option maxRecDepth 100000
set_option maxHeartbeats 8000000
set_option pp.maxSteps 1200
/-! k20: has_form. -/
namespace Kf
open PySem PySem.Spec PyProof.Rows L2 Sx
abbrev sForm : Stmt := top 6
theorem scForm : FnScope ["piece"] ["piece"] (defScope sForm) := ⟨rfl, rfl, rfl, by decide +kernel, rfl, by decide +kernel, by decide +kernel⟩
def none1 : PyData := .tuple [.str "none"]
def num1 : PyData := .tuple [.str "number"]
/-- whether a piece has the form of a kind -/
def form : PyData → Bool
  | .tuple [x] => [none1, num1].any fun z => PyData.eqv z (.tuple [x])
  | .tuple [.str w, a, b] => (decide (w = "pair") || (decide (w = "from") || decide (w = "either"))) && (decide (w = "either") || !(PyData.eqv a none1 || (PyData.eqv b none1 || false)))
  | _ => false
theorem form_no {x a b : PyData} (h : isS x = false) : form (.tuple [x, a, b]) = false := by
  cases x with
  | str _ => cases h
  | _ => rfl
theorem eqv_str (w z : Str) : PyData.eqv (.str w) (.str z) = decide (z = w) := by
  show (w == z) = _
  by_cases e : z = w
  · subst e
    simp
  · rw [decide_eq_false e]
    exact beq_eq_false_iff_ne.mpr fun y => e y.symm
theorem head_at (x : V) (us : List V) : atI (x :: us) 0 = some x := atI_nat (j := 0) rfl
section
variable {P : Program} {w : World} {K : PySem.W.Frag} {mg : Str → Option Value} {base : Heap}
/-- the module's tuples -/
structure Tx (K : PySem.W.Frag) (mg : Str → Option Value) (NO NU PA : Addr) : Prop where
  mO : mg "NONE" = some (.ref NO)
  mU : mg "NUMBER" = some (.ref NU)
  mP : mg "PAIRED" = some (.ref PA)
  tO : ∀ H, SqT K H NO [.str "none"]
  tU : ∀ H, SqT K H NU [.str "number"]
  tP : ∀ H, SqT K H PA [.str "pair", .str "from", .str "either"]
  zIs : mg "isinstance" = none
  zTuple : mg "tuple" = none
  zLen : mg "len" = none
def spForm (K : PySem.W.Frag) : Sp := fun vs H Q _ => ∃ (v : V) (d : PyData), vs = [v] ∧ Dp K H v d ∧ d.canLay0 = true ∧ d.depth ≤ 120 ∧ ∀ H', Same H H' → Q (.bl (form d)) H'
theorem ok_form {f NO NU PA : Addr} {fd : FuncData} {j : Nat} (F : Fun K "has_form" "has_form" sForm f fd) (T : Tx K mg NO NU PA) : FnOk P w K mg base CX0 (j + 1) f fd ["piece"] (spForm K) := by
  refine F.ok scForm (fun vs H Q E h => ?_) (fun cdv A outer s H vs Q E hr h => ?_)
  · obtain ⟨v, d, rfl, _⟩ := h
    rfl
  obtain ⟨v, d, rfl, hd, lay, dd, q⟩ := h
  have u1 : (A.deeper (envOfC "has_form" (defScope sForm) s.heap.objs.size f cdv)).units + 130 < cLine := by
    have := hr.un
    omega
  refine ⟨_, pss_cons (ps_if (pt_not (pt_val (pe_callB call_isi (by rfl) T.zIs (by decide +kernel) (pa_cons (pv 0) (pa_cons (pe_bltn (v := .ty "tuple") (by rfl) T.zTuple (by decide +kernel) rfl) pa_nil))))) (pss_one (ps_ret pe_bl)) pss_nil)
    (pss_cons (ps_if (pt_cmpR op_eq (pe_callB call_len_seq (by rfl) T.zLen PySem.boot_len (pa_cons (pv 0) pa_nil)) pe_int (nomark _)) (pss_one (ps_ret (pe_cmpR (op_inW u1) (pv 0) (pe_tup (pa_cons (pe_glob (v := .ref NO) (by rfl) T.mO rfl) (pa_cons (pe_glob (v := .ref NU) (by rfl) T.mU rfl) pa_nil))) (by rfl)))) pss_nil)
    (pss_cons (ps_if (PW.pt (pw_or (pt_cmpR op_ne (pe_callB call_len_seq (by rfl) T.zLen PySem.boot_len (pa_cons (pv 0) pa_nil)) pe_int (nomark _)) (pw_or1 (pt_cmpR (op_notInW u1) (pe_ix ix_tup (pv 0) pe_int (fun _ _ => rfl)) (pe_glob (v := .ref PA) (by rfl) T.mP rfl) (by rfl))))) (pss_one (ps_ret pe_bl)) pss_nil)
    (pss_one (ps_ret (pe_or (pe_cmpR (op_eqW u1) (pe_ix ix_tup (pv 0) pe_int (fun _ _ => rfl)) pe_str (nomark _)) (pe_one (pe_cmpR (op_notInW u1) (pe_glob (v := .ref NO) (by rfl) T.mO rfl) (pv 0) (by rfl)))))))), ?_⟩
  refine ⟨_, rfl, _, _, _, _, isTu d, rfl, .ty "tuple", dp_ty hd, kit_tu d, _, rfl, ?_⟩
  have q0 := q H fun _ _ e => e
  cases ht : isTu d with
  | false =>
    have e : form d = false := by
      cases d with
      | tuple _ => cases ht
      | _ => rfl
    rw [e] at q0
    exact iteT q0
  | true =>
    obtain ⟨ds, rfl⟩ : ∃ ds, d = .tuple ds := by
      cases d with
      | tuple ds => exact ⟨ds, rfl⟩
      | _ => cases ht
    cases hd with
    | @tup a xs _ hs ha =>
    have hl := dps_len ha
    refine iteF ⟨_, rfl, a, xs, rfl, .inr hs, rfl, _, rfl, ?_⟩
    have dO : ∀ H', Dp K H' (.ref NO) none1 := fun H' => .tup (T.tO H') (.cons (.str _) .nil)
    have dU : ∀ H', Dp K H' (.ref NU) num1 := fun H' => .tup (T.tU H') (.cons (.str _) .nil)
    cases ha with
    | nil => exact iteF ⟨_, rfl, a, _, rfl, .inr hs, rfl, _, rfl, iteT q0⟩
    | @cons x vs d0 dr hx hr =>
    cases hr with
    | nil =>
      refine iteT ⟨_, rfl, (by show 2 ≤ sizeLine; decide), fun q3 n3 => ?_⟩
      have s3 := same_new (o := .tup [.ref NO, .ref NU]) n3
      refine ⟨.tuple [d0], [none1, num1], .tup (sqT_up s3 hs) (.cons (dp_up s3 _ _ hx) .nil), .tup (.inl (.inl upd_same)) (.cons (dO _) (.cons (dU _) .nil)), lay, (by decide +kernel), Nat.le_trans (Nat.min_le_right _ _) dd, ?_⟩
      exact q _ s3
    | @cons y vs2 d1 dr2 hy hr2 =>
    cases hr2 with
    | nil => exact iteF ⟨_, rfl, a, _, rfl, .inr hs, rfl, _, rfl, iteT (by
        have e : form (.tuple [d0, d1]) = false := by cases d0 <;> rfl
        rw [e] at q0
        exact q0)⟩
    | @cons z vs3 d2 dr3 hz hr3 =>
    cases hr3 with
    | nil =>
      have l3 : (d0.canLay0 && (d1.canLay0 && (d2.canLay0 && true))) = true := lay
      have m3 : max d0.depth (max d1.depth (max d2.depth 0)) + 1 ≤ 120 := dd
      have l0 : d0.canLay0 = true := by
        cases hl0 : d0.canLay0 with
        | true => rfl
        | false => rw [hl0] at l3; exact (Bool.false_ne_true l3).elim
      refine iteF ⟨_, rfl, a, _, rfl, .inr hs, rfl, _, rfl, iteF ?_⟩
      refine ⟨_, rfl, a, _, 0, _, rfl, rfl, hs, head_at _ _, d0, [.str "pair", .str "from", .str "either"], hx, .tup (T.tP H) (.cons (.str _) (.cons (.str _) (.cons (.str _) .nil))), l0, (by decide +kernel), Nat.le_trans (Nat.min_le_right _ _) (by omega), _, rfl, ?_⟩
      cases hS : isS d0 with
      | false =>
        have e : ([PyData.str "pair", .str "from", .str "either"].any fun z => PyData.eqv z d0) = false := by
          cases d0 with
          | str _ => cases hS
          | _ => rfl
        rw [e]
        rw [form_no hS] at q0
        exact iteT q0
      | true =>
        obtain ⟨wd, rfl⟩ : ∃ w, d0 = .str w := by
          cases d0 with
          | str w => exact ⟨w, rfl⟩
          | _ => cases hS
        have e : ([PyData.str "pair", .str "from", .str "either"].any fun z => PyData.eqv z (.str wd)) = (decide (wd = "pair") || (decide (wd = "from") || decide (wd = "either"))) := by
          show (PyData.eqv (.str "pair") (.str wd) || (PyData.eqv (.str "from") (.str wd) || (PyData.eqv (.str "either") (.str wd) || false))) = _
          rw [eqv_str, eqv_str, eqv_str, Bool.or_false]
        rw [e]
        have ef : form (.tuple [.str wd, d1, d2]) = ((decide (wd = "pair") || (decide (wd = "from") || decide (wd = "either"))) && (decide (wd = "either") || !(PyData.eqv d1 none1 || (PyData.eqv d2 none1 || false)))) := rfl
        rw [ef] at q0
        cases hP : (decide (wd = "pair") || (decide (wd = "from") || decide (wd = "either"))) with
        | false =>
          rw [hP] at q0
          exact iteT q0
        | true =>
          rw [hP] at q0
          refine iteF ⟨_, rfl, a, _, 0, _, rfl, rfl, hs, head_at _ _, PyData.str wd, PyData.str "either", hx, .str _, l0, (by decide +kernel), Nat.zero_le _, _, rfl, ?_⟩
          rw [eqv_str, show decide (Str.ofString "either" = wd) = decide (wd = "either") from decide_eq_decide.mpr ⟨fun y => y.symm, fun y => y.symm⟩]
          cases hE : decide (wd = "either") with
          | true =>
            rw [hE] at q0
            exact iteT q0
          | false =>
            rw [hE] at q0
            refine iteF ⟨_, rfl, none1, [.str wd, d1, d2], dO H, .tup hs (.cons hx (.cons hy (.cons hz .nil))), (by decide +kernel), lay, Nat.le_trans (Nat.min_le_right _ _) (by decide), ?_⟩
            exact q0
    | @cons u vs4 d3 dr4 hu hr4 =>
      have e : form (.tuple (d0 :: d1 :: d2 :: d3 :: dr4)) = false := by cases d0 <;> rfl
      rw [e] at q0
      rw [show decide (V.int (((x :: y :: z :: u :: vs4).length : Nat) : Int) = V.int 1) = false from decide_eq_false (fun e2 => by injection e2 with e2; simp only [List.length_cons] at e2; omega)]
      refine iteF ⟨_, rfl, a, _, rfl, .inr hs, rfl, _, rfl, ?_⟩
      rw [show (!decide (V.int (((x :: y :: z :: u :: vs4).length : Nat) : Int) = V.int 3)) = true by
        rw [decide_eq_false (fun e2 => by injection e2 with e2; simp only [List.length_cons] at e2; omega)]
        rfl]
      exact iteT q0
end
end Kf
set_option Elab.async false
set_option linter.all false
set_option maxRecDepth 100000
set_option maxHeartbeats 4000000
set_option pp.maxSteps 1200
/-! k20: what a kind is, of data. -/
namespace Kf
open PySem PySem.Spec PyProof.Rows L2 Sx
def kn : PyData → Bool
  | .tuple [x] => form (.tuple [x])
  | .tuple [w, a, b] => form (.tuple [w, a, b]) && (kn a && kn b)
  | _ => false
mutual
/-- texts and tuples alone -/
def pur : PyData → Bool
  | .str _ => true
  | .tuple ds => purs ds
  | _ => false
def purs : List PyData → Bool
  | [] => true
  | d :: ds => pur d && purs ds
end
mutual
theorem pur_eq : ∀ a b : PyData, pur a = true → PyData.eqv a b = true → a = b
  | .str w, b, _, e => by
    cases b with
    | str z =>
      rw [eqv_str] at e
      rw [of_decide_eq_true e]
    | _ => exact (Bool.false_ne_true e).elim
  | .tuple ds, b, p, e => by
    cases b with
    | tuple es => rw [purs_eq ds es p e]
    | _ => exact (Bool.false_ne_true e).elim
  | .none, _, p, _ => (Bool.false_ne_true p).elim
  | .bool _, _, p, _ => (Bool.false_ne_true p).elim
  | .int _, _, p, _ => (Bool.false_ne_true p).elim
  | .list _, _, p, _ => (Bool.false_ne_true p).elim
  | .dict _, _, p, _ => (Bool.false_ne_true p).elim
theorem purs_eq : ∀ as bs : List PyData, purs as = true → PyData.eqvAll as bs = true → as = bs
  | [], [], _, _ => rfl
  | [], _ :: _, _, e => (Bool.false_ne_true e).elim
  | _ :: _, [], _, e => (Bool.false_ne_true e).elim
  | a :: as, b :: bs, p, e => by
    have p2 : (pur a && purs as) = true := p
    have e2 : (PyData.eqv a b && PyData.eqvAll as bs) = true := e
    rw [Bool.and_eq_true] at p2 e2
    rw [pur_eq a b p2.1 e2.1, purs_eq as bs p2.2 e2.2]
end
theorem form_one {x : PyData} (h : form (.tuple [x]) = true) : ∃ w, x = .str w := by
  cases x with
  | str w => exact ⟨w, rfl⟩
  | _ => exact (Bool.false_ne_true h).elim
theorem form_three {x a b : PyData} (h : form (.tuple [x, a, b]) = true) : ∃ w, x = .str w := by
  cases x with
  | str w => exact ⟨w, rfl⟩
  | _ => exact (Bool.false_ne_true h).elim
theorem kn_pur : ∀ d : PyData, kn d = true → pur d = true
  | .tuple [x], h => by
    have h2 : form (.tuple [x]) = true := by
      rw [kn] at h
      exact h
    obtain ⟨w, rfl⟩ := form_one h2
    rfl
  | .tuple [x, a, b], h => by
    rw [kn, Bool.and_eq_true, Bool.and_eq_true] at h
    obtain ⟨w, rfl⟩ := form_three h.1
    have pa := kn_pur a h.2.1
    have pb := kn_pur b h.2.2
    show (true && (pur a && (pur b && true))) = true
    rw [pa, pb]
    rfl
  | .tuple [], h => by
    simp [kn] at h
  | .tuple [_, _], h => by
    simp [kn] at h
  | .tuple (_ :: _ :: _ :: _ :: _), h => by
    simp [kn] at h
  | .none, h => by simp [kn] at h
  | .bool _, h => by simp [kn] at h
  | .int _, h => by simp [kn] at h
  | .str _, h => by simp [kn] at h
  | .list _, h => by simp [kn] at h
  | .dict _, h => by simp [kn] at h
/-- where the one is a kind, what is like it is one, too -/
theorem kn_like {a b : PyData} : (kn a && (PyData.eqv a b || kn b)) = (kn a && kn b) := by
  cases h : kn a with
  | false => rfl
  | true =>
    cases e : PyData.eqv a b with
    | false => rfl
    | true =>
      rw [← pur_eq a b (kn_pur a h) e, h]
      rfl
theorem kn_form {d : PyData} (h : form d = false) : kn d = false := by
  match d, h with
  | .tuple [x], h => rw [kn]; exact h
  | .tuple [x, a, b], h => rw [kn, h]; rfl
  | .tuple [], _ => simp [kn]
  | .tuple [_, _], _ => simp [kn]
  | .tuple (_ :: _ :: _ :: _ :: _), _ => simp [kn]
  | .none, _ => simp [kn]
  | .bool _, _ => simp [kn]
  | .int _, _ => simp [kn]
  | .str _, _ => simp [kn]
  | .list _, _ => simp [kn]
  | .dict _, _ => simp [kn]
end Kf
set_option Elab.async false
set_option linter.all false
set_option maxRecDepth 100000
set_option maxHeartbeats 8000000
set_option pp.maxSteps 1200
/-! k20: is_kind. -/
namespace Kf
open PySem PySem.Spec PyProof.Rows L2 Sx
abbrev sIsKind : Stmt := top 7
abbrev isN : List Str := ["thing", "todo", "piece", "within", "is_half_through"]
theorem scIsKind : FnScope isN ["thing"] (defScope sIsKind) := ⟨rfl, rfl, rfl, by decide +kernel, rfl, by decide +kernel, by decide +kernel⟩
mutual
def psz : PyData → Nat
  | .tuple ds => 1 + pszs ds
  | .list ds => 1 + pszs ds
  | _ => 1
def pszs : List PyData → Nat
  | [] => 0
  | d :: ds => psz d + pszs ds
end
theorem psz_pos : ∀ d, 1 ≤ psz d
  | .tuple ds => Nat.le_add_right _ _
  | .list ds => Nat.le_add_right _ _
  | .none => Nat.le_refl _
  | .bool _ => Nat.le_refl _
  | .int _ => Nat.le_refl _
  | .str _ => Nat.le_refl _
  | .dict _ => Nat.le_refl _
structure En where
  d : PyData
  n : Nat
  h : Bool
def En.c (e : En) : Bool := if e.h then (match e.d with | .tuple [_, a, b] => PyData.eqv a b || kn b | _ => false) else kn e.d
def En.mu (e : En) : Nat := if e.h then (match e.d with | .tuple [_, _, b] => 2 * psz b + 1 | _ => 1) else 2 * psz e.d
theorem En.mu_pos (e : En) : 1 ≤ e.mu := by
  unfold En.mu
  split
  · split
    · exact Nat.le_add_left _ _
    · exact Nat.le_refl _
  · have := psz_pos e.d
    omega
def sumK (es : List En) : Nat := (es.map En.mu).sum
theorem sumK_app (es fs : List En) : sumK (es ++ fs) = sumK es + sumK fs := by
  unfold sumK
  rw [List.map_append, List.sum_append]
theorem sumK_one (e : En) : sumK [e] = e.mu := by
  unfold sumK
  simp
theorem sumK_len : ∀ es : List En, es.length ≤ sumK es
  | [] => Nat.zero_le _
  | e :: es => by
    have h := sumK_len es
    have p := e.mu_pos
    show es.length + 1 ≤ e.mu + sumK es
    omega
theorem all_snoc {α : Type} {f : α → Bool} {es : List α} {e : α} : (es ++ [e]).all f = (es.all f && f e) := by
  rw [List.all_append]
  simp
def En.fit (e : En) : Prop := e.d.canLay0 = true ∧ e.n + e.d.depth ≤ 101 ∧ (e.h = true → ∃ w a b, e.d = .tuple [w, a, b])
section
variable {P : Program} {w : World} {K : PySem.W.Frag} {mg : Str → Option Value} {base : Heap}
def RowK (K : PySem.W.Frag) (H0 H : Hp) (e : En) (v : V) : Prop := ∃ q x, v = .ref q ∧ H q = some (.tup [x, .int (e.n : Int), .bl e.h]) ∧ Dp K H0 x e.d
theorem RowK.keep {H0 H H' : Hp} (k : Tups H H') (e : En) (v : V) (h : RowK K H0 H e v) : RowK K H0 H' e v := by
  obtain ⟨q, x, e1, e2, a⟩ := h
  exact ⟨q, x, e1, k _ _ e2, a⟩
structure TurnK (K : PySem.W.Frag) (H0 H : Hp) (T : Addr) (R : Bool) (m : Nat) (es : List En) (vt : List V) : Prop where
  sm : Same H0 H
  lt : H T = some (.lst vt)
  rt : All2 (RowK K H0 H) es vt
  ok : ∀ e ∈ es, e.fit
  res : es.all En.c = R
  few : sumK es ≤ 2000000
  m : m = sumK es
def spIsKind (K : PySem.W.Frag) : Sp := fun vs H Q _ => ∃ (v : V) (d : PyData), vs = [v] ∧ Dp K H v d ∧ d.canLay0 = true ∧ d.depth ≤ 100 ∧ psz d ≤ 1000000 ∧ ∀ H', Same H H' → Q (.bl (kn d)) H'
structure PendK (K : PySem.W.Frag) (H0 X : Hp) (pt : Addr) (es : List En) (vt : List V) : Prop where
  sm : Same H0 X
  lt : X pt = some (.lst vt)
  rt : All2 (RowK K H0 X) es vt
theorem PendK.tup {H0 X : Hp} {pt : Addr} {es : List En} {vt : List V} (I : PendK K H0 X pt es vt) {q : Addr} {xs : List V} (nq : X q = none) : PendK K H0 (upd X q (.tup xs)) pt es vt := by
  refine ⟨same_put I.sm nq, ?_, I.rt.mono (RowK.keep (tups_same (same_new nq)))⟩
  rw [upd_ne (ne_of_none I.lt nq)]
  exact I.lt
theorem PendK.push {H0 X : Hp} {pt : Addr} {es : List En} {vt : List V} (I : PendK K H0 X pt es vt) (nf : H0 pt = none) {q : Addr} {x : V} {e : En} (hq : X q = some (.tup [x, .int (e.n : Int), .bl e.h])) (a : Dp K H0 x e.d) :
    PendK K H0 (upd X pt (.lst (vt ++ [.ref q]))) pt (es ++ [e]) (vt ++ [.ref q]) := by
  have k : Tups X (upd X pt (.lst (vt ++ [.ref q]))) := tups_put fun xs z => by
    rw [I.lt] at z
    cases z
  refine ⟨fun b o h => ?_, upd_same, (I.rt.mono (RowK.keep k)).app (.one ⟨q, x, rfl, k _ _ hq, a⟩)⟩
  rw [upd_ne (ne_of_none h nf)]
  exact I.sm _ _ h
theorem joinS {C G : L2.St → Hp → Prop} {M : Prop} (main : (∀ σ H, C σ H → G σ H) → M) (rest : ∀ σ H, C σ H → G σ H) : M := main rest
theorem form_is {d : PyData} (h : form d = true) : (∃ x, d = .tuple [x]) ∨ ∃ w a b, d = .tuple [w, a, b] := by
  match d, h with
  | .tuple [x], _ => exact .inl ⟨x, rfl⟩
  | .tuple [w, a, b], _ => exact .inr ⟨w, a, b, rfl⟩
  | .tuple [], h => exact (Bool.false_ne_true h).elim
  | .tuple [a, a2], h =>
    have e : form (.tuple [a, a2]) = false := by cases a <;> rfl
    rw [e] at h
    cases h
  | .tuple (a :: b :: c :: d :: e), h =>
    have z : form (.tuple (a :: b :: c :: d :: e)) = false := by cases a <;> rfl
    rw [z] at h
    cases h
  | .none, h => exact (Bool.false_ne_true h).elim
  | .bool _, h => exact (Bool.false_ne_true h).elim
  | .int _, h => exact (Bool.false_ne_true h).elim
  | .str _, h => exact (Bool.false_ne_true h).elim
  | .list _, h => exact (Bool.false_ne_true h).elim
  | .dict _, h => exact (Bool.false_ne_true h).elim
theorem three {H : Hp} {v : V} {w a b : PyData} (h : Dp K H v (.tuple [w, a, b])) : ∃ p xw xa xb, v = .ref p ∧ SqT K H p [xw, xa, xb] ∧ Dp K H xw w ∧ Dp K H xa a ∧ Dp K H xb b := by
  cases h with
  | @tup p xs _ hs ha =>
  cases ha with
  | @cons x vs _ _ hx hr =>
  cases hr with
  | @cons y vs2 _ _ hy hr2 =>
  cases hr2 with
  | @cons z vs3 _ _ hz hr3 =>
  cases hr3
  exact ⟨p, x, y, z, rfl, hs, hx, hy, hz⟩
theorem lay3 {w a b : PyData} (h : (PyData.tuple [w, a, b]).canLay0 = true) : a.canLay0 = true ∧ b.canLay0 = true := by
  have h2 : (w.canLay0 && (a.canLay0 && (b.canLay0 && true))) = true := h
  rw [Bool.and_eq_true, Bool.and_eq_true, Bool.and_eq_true] at h2
  exact ⟨h2.2.1, h2.2.2.1⟩
theorem dep3 {w a b : PyData} : a.depth + 1 ≤ (PyData.tuple [w, a, b]).depth ∧ b.depth + 1 ≤ (PyData.tuple [w, a, b]).depth := by
  have e : (PyData.tuple [w, a, b]).depth = max w.depth (max a.depth (max b.depth 0)) + 1 := rfl
  rw [e]
  omega
theorem dep_or (d : PyData) : 0 ≤ d.depth := Nat.zero_le _
theorem form_flat {d : PyData} (h : d.depth = 0) : form d = false := by
  cases d with
  | tuple ds =>
    have e : (PyData.tuple ds).depth = PyData.depthAll ds + 1 := rfl
    omega
  | _ => rfl
theorem ok_iskind {f g NO NU PA : Addr} {fd gd : FuncData} {tk : Tok} (F : Fun K "is_kind" "is_kind" sIsKind f fd) (T : Tx K mg NO NU PA) (mM : mg "MOST_WITHIN" = some (.int 100 tk))
    (G : FnOk P w K mg base CX0 1 g gd ["piece"] (spForm K)) (bG : L2.Binds K gd ["piece"] []) (kG : PySem.W.keepIn K (.ref g) = true) (mG : mg "has_form" = some (.ref g)) : FnOk P w K mg base CX0 2 f fd ["thing"] (spIsKind K) := by
  refine F.ok scIsKind (fun vs H Q E h => ?_) (fun cdv A outer s H vs Q E hr h => ?_)
  · obtain ⟨v, d, rfl, _⟩ := h
    rfl
  obtain ⟨v, d, rfl, hd, lay, dd, sz, q⟩ := h
  have h1 : Room 1 _ := hr.mono (by decide)
  have u1 : (A.deeper (envOfC "is_kind" (defScope sIsKind) s.heap.objs.size f cdv)).units + 130 < cLine := by
    have := hr.un
    omega
  refine ⟨_, pss_cons (ps_set (i := 1) scIsKind.nd rfl (.inl rfl) (pe_lst (pa_cons (pe_tup (pa_cons (pv 0) (pa_cons pe_int (pa_cons pe_bl pa_nil)))) pa_nil)))
    (pss_cons (ps_while PassesOwn.never (pt_truth (pv 1) (by intro _; rfl))
      (pss_cons (ps_asg (pe_bm0 PySem.F.plainAttrs_list PySem.F.slot_list_pop PySem.F.type_list_pop mt_pop (pv 1)) (pg_tup (by rfl) (pgs_cons (pg_name (i := 2) scIsKind.nd rfl (.inl rfl)) (pgs_cons (pg_name (i := 3) scIsKind.nd rfl (.inl rfl)) (pgs_cons (pg_name (i := 4) scIsKind.nd rfl (.inl rfl)) pgs_nil)))))
      (pss_one (ps_if (pt_val (pv 4))
        (pss_one (ps_if (pt_cmpR (op_neW u1) (pe_ix ix_tup (pv 2) pe_int (fun _ _ => rfl)) (pe_ix ix_tup (pv 2) pe_int (fun _ _ => rfl)) (nomark _))
          (pss_one (ps_expr (pe_bm PySem.F.plainAttrs_list PySem.F.slot_list_append PySem.F.type_list_append mt_append (pv 1) (pa_cons (pe_tup (pa_cons (pe_ix ix_tup (pv 2) pe_int (fun _ _ => rfl)) (pa_cons (pe_op op_add (pv 3) pe_int) (pa_cons pe_bl pa_nil)))) pa_nil)))) pss_nil))
        (pss_one (ps_if (PW.pt (pw_or (pt_cmpR op_gt (pv 3) (pe_glob (v := .int 100) (by rfl) mM ⟨_, rfl⟩) (nomark _)) (pw_or1 (pt_not (pt_val (pe_call G h1 (by rfl) mG kG bG .nil pass0 (pa_cons (pv 2) pa_nil)))))))
          (pss_one (ps_ret pe_bl))
          (pss_one (ps_if (pt_cmpR op_eq (pe_callB call_len_seq (by rfl) T.zLen PySem.boot_len (pa_cons (pv 2) pa_nil)) pe_int (nomark _))
            (pss_cons (ps_expr (pe_bm PySem.F.plainAttrs_list PySem.F.slot_list_append PySem.F.type_list_append mt_append (pv 1) (pa_cons (pe_tup (pa_cons (pv 2) (pa_cons (pv 3) (pa_cons pe_bl pa_nil)))) pa_nil)))
            (pss_one (ps_expr (pe_bm PySem.F.plainAttrs_list PySem.F.slot_list_append PySem.F.type_list_append mt_append (pv 1) (pa_cons (pe_tup (pa_cons (pe_ix ix_tup (pv 2) pe_int (fun _ _ => rfl)) (pa_cons (pe_op op_add (pv 3) pe_int) (pa_cons pe_bl pa_nil)))) pa_nil))))) pss_nil))))))))
    (pss_one (ps_ret pe_bl))), ?_⟩
  refine ⟨_, rfl, (by show 3 ≤ sizeLine; decide), fun q0 nq => ?_⟩
  refine ⟨(by show 1 ≤ sizeLine; decide), fun pt nt => ?_⟩
  have s1 : Same H (upd H q0 (.tup [v, .int 1, .bl false])) := same_new nq
  have s2 := same_put (o := .lst [.ref q0]) s1 nt
  have fresh : H pt = none := s1.free nt
  have nqt : q0 ≠ pt := fun z => by
    rw [← z, upd_same] at nt
    cases nt
  refine ⟨fun m σ H' => ∃ (es : List En) (vt : List V) (y2 y3 y4 : Option V), σ = [some v, some (.ref pt), y2, y3, y4] ∧ TurnK K H H' pt (kn d) m es vt,
    ⟨_, [⟨d, 1, false⟩], [.ref q0], none, none, none, rfl, ⟨s2, upd_same, .one ⟨q0, v, rfl, ?_, hd⟩, fun e he => by rw [List.mem_singleton.mp he]; exact ⟨lay, (by show 1 + d.depth ≤ 101; omega), fun z => by cases z⟩, (by show (kn d && true) = kn d; rw [Bool.and_true]), (by rw [sumK_one]; show 2 * psz d ≤ 2000000; omega), rfl⟩⟩, fun m σ H1 hI => ?_⟩
  · rw [upd_ne nqt, upd_same]
    rfl
  obtain ⟨es, vt, y2, y3, y4, rfl, W0⟩ := hI
  refine ⟨_, rfl, !vt.isEmpty, .inl ⟨vt, .inl (.inl W0.lt), rfl⟩, ?_⟩
  rcases List.eq_nil_or_concat vt with en | ⟨vt0, y, en⟩
  · subst en
    refine iteF ?_
    have ee : es = [] := List.length_eq_zero_iff.mp W0.rt.len
    subst ee
    have r := q H1 W0.sm
    rw [← W0.res] at r
    exact r
  · rw [List.concat_eq_append] at en
    subst en
    rw [show (!(vt0 ++ [y]).isEmpty) = true by simp]
    refine iteT ?_
    obtain ⟨es1, ⟨d1, n1, b1⟩, rfl, rt0, ⟨q1, x1, rfl, hq1, dp1⟩⟩ := W0.rt.last
    obtain ⟨lay1, dep1, half1⟩ := W0.ok ⟨d1, n1, b1⟩ (List.mem_append.mpr (.inr (List.mem_singleton.mpr rfl)))
    have res := W0.res
    rw [all_snoc] at res
    have few := W0.few
    rw [sumK_app, sumK_one] at few
    have em := W0.m
    rw [sumK_app, sumK_one] at em
    have sp := En.mu_pos ⟨d1, n1, b1⟩
    refine ⟨fun σ' H' => ∃ m', m' < m ∧ ∃ (es : List En) (vt : List V) (y2 y3 y4 : Option V), σ' = [some v, some (.ref pt), y2, y3, y4] ∧ TurnK K H H' pt (kn d) m' es vt,
      fun σ' H' h => h, ?_⟩
    refine ⟨_, rfl, .inl ⟨rfl, _, .inl (.inl W0.lt)⟩, pt, _, .ref q1, rfl, rfl, W0.lt, by simp, ?_⟩
    rw [List.dropLast_concat]
    have k2 : Tups H1 (upd H1 pt (.lst vt0)) := tups_put fun xs z => by
      rw [W0.lt] at z
      cases z
    have S2 : Same H (upd H1 pt (.lst vt0)) := fun a o e => by
      rw [upd_ne (ne_of_none e fresh)]
      exact W0.sm _ _ e
    have lt2 : (upd H1 pt (.lst vt0)) pt = some (.lst vt0) := upd_same
    have hq2 := k2 _ _ hq1
    have rt2 := rt0.mono (RowK.keep k2)
    have okr : ∀ e ∈ es1, e.fit := fun e he => W0.ok e (List.mem_append.mpr (.inl he))
    generalize upd H1 pt (.lst vt0) = H2 at k2 S2 lt2 hq2 rt2
    refine ⟨q1, [x1, .int (n1 : Int), .bl b1], rfl, .inl (.inl hq2), rfl, x1, _, rfl, .int (n1 : Int), _, rfl, .bl b1, [], rfl, rfl, ?_⟩
    have dp2 := dp_up S2 _ _ dp1
    have bnd : vt0.length + 2 ≤ sizeLine := by
      have l1 := rt2.len
      have l2 := sumK_len es1
      exact Nat.le_trans (m := 2000002) (by omega) (by decide)
    have pend : PendK K H H2 pt es1 vt0 := ⟨S2, lt2, rt2⟩
    cases b1 with
    | true =>
      obtain ⟨dw, da, db, ed⟩ := half1 rfl
      have ed' : d1 = .tuple [dw, da, db] := ed
      subst ed'
      obtain ⟨a, xw, xa, xb, rfl, hs, hw, ha, hb⟩ := three dp1
      have hs2 := sqT_up S2 hs
      have mu1 : En.mu ⟨.tuple [dw, da, db], n1, true⟩ = 2 * psz db + 1 := rfl
      have c1 : En.c ⟨.tuple [dw, da, db], n1, true⟩ = (PyData.eqv da db || kn db) := rfl
      rw [mu1] at few em
      rw [c1] at res
      obtain ⟨la, lb⟩ := lay3 lay1
      obtain ⟨ea, eb⟩ := dep3 (w := dw) (a := da) (b := db)
      have dep : n1 + (PyData.tuple [dw, da, db]).depth ≤ 101 := dep1
      refine ⟨_, rfl, _, rfl, ?_⟩
      refine iteT ⟨_, rfl, a, _, 1, _, rfl, rfl, hs2, atI_nat (j := 1) rfl, _, rfl, a, _, 2, _, rfl, rfl, hs2, atI_nat (j := 2) rfl, da, db, dp_up S2 _ _ ha, dp_up S2 _ _ hb, la, lb, by omega, _, rfl, ?_⟩
      cases hE : PyData.eqv da db with
      | true =>
        rw [hE, Bool.true_or, Bool.and_true] at res
        exact iteF ⟨sumK es1, by omega, es1, vt0, _, _, _, rfl, ⟨S2, lt2, rt2, okr, res, by omega, rfl⟩⟩
      | false =>
        rw [hE, Bool.false_or] at res
        refine iteT ?_
        refine ⟨_, rfl, .inl ⟨rfl, _, .inl (.inl lt2)⟩, _, rfl, a, _, 2, _, rfl, rfl, hs2, atI_nat (j := 2) rfl, _, rfl, _, _, rfl, rfl, (by show 3 ≤ sizeLine; decide), fun q3 nq3 => ?_⟩
        have I1 := pend.tup (xs := [xb, .int ((n1 : Int) + 1), .bl false]) nq3
        refine ⟨pt, vt0, .ref q3, rfl, rfl, I1.lt, Nat.lt_of_lt_of_le (by omega) bnd, ?_⟩
        have I2 := I1.push (e := ⟨db, n1 + 1, false⟩) fresh upd_same hb
        refine ⟨sumK (es1 ++ [⟨db, n1 + 1, false⟩]), ?_, _, _, _, _, _, rfl, ⟨I2.sm, I2.lt, I2.rt, fun e he => ?_, ?_, ?_, rfl⟩⟩
        · rw [sumK_app, sumK_one]
          show sumK es1 + 2 * psz db < m
          omega
        · rcases List.mem_append.mp he with he | he
          · exact okr e he
          · rw [List.mem_singleton.mp he]
            exact ⟨lb, (by show n1 + 1 + db.depth ≤ 101; omega), fun z => by cases z⟩
        · rw [all_snoc]
          exact res
        · rw [sumK_app, sumK_one]
          show sumK es1 + 2 * psz db ≤ 2000000
          omega
    | false =>
      have mu1 : En.mu ⟨d1, n1, false⟩ = 2 * psz d1 := rfl
      have c1 : En.c ⟨d1, n1, false⟩ = kn d1 := rfl
      rw [mu1] at few em
      rw [c1] at res
      have dep : n1 + d1.depth ≤ 101 := dep1
      have pd := dep_or d1
      refine ⟨_, rfl, _, rfl, ?_⟩
      refine iteF ⟨_, rfl, _, _, rfl, rfl, _, rfl, ?_⟩
      refine ite2 (fun c => ?_) (fun c => ?_)
      · have z : (n1 : Int) > 100 := of_decide_eq_true c
        have z0 : d1.depth = 0 := by omega
        have r := q H2 S2
        rw [← res, kn_form (form_flat z0), Bool.and_false] at r
        exact iteT r
      refine ⟨_, rfl, x1, d1, rfl, dp2, lay1, by omega, fun H3 s3 => ⟨_, rfl, ?_⟩⟩
      have S3 := S2.trans s3
      have pend3 : PendK K H H3 pt es1 vt0 := ⟨S3, s3 _ _ lt2, rt2.mono (RowK.keep (tups_same s3))⟩
      cases hf : form d1 with
      | false =>
        have r := q H3 S3
        rw [← res, kn_form hf, Bool.and_false] at r
        exact iteT r
      | true =>
        refine iteF ?_
        rcases form_is hf with ⟨x, ex⟩ | ⟨dw, da, db, ex⟩
        · subst ex
          cases dp1 with
          | @tup a xs _ hs ha =>
          cases ha with
          | @cons vx _ _ _ hx hr =>
          cases hr
          rw [show kn (.tuple [x]) = form (.tuple [x]) by rw [kn], hf, Bool.and_true] at res
          refine ⟨_, rfl, a, _, rfl, .inr (sqT_up S3 hs), rfl, _, rfl, iteF ?_⟩
          have p1 := psz_pos (.tuple [x])
          exact ⟨sumK es1, by omega, es1, vt0, _, _, _, rfl, ⟨S3, pend3.lt, pend3.rt, okr, res, by omega, rfl⟩⟩
        · subst ex
          obtain ⟨a, xw, xa, xb, rfl, hs, hw, ha, hb⟩ := three dp1
          have hs3 := sqT_up S3 hs
          obtain ⟨la, lb⟩ := lay3 lay1
          obtain ⟨ea, eb⟩ := dep3 (w := dw) (a := da) (b := db)
          have szs : psz (.tuple [dw, da, db]) = 1 + (psz dw + (psz da + (psz db + 0))) := rfl
          have pw := psz_pos dw
          rw [show kn (.tuple [dw, da, db]) = (form (.tuple [dw, da, db]) && (kn da && kn db)) by rw [kn], hf, Bool.true_and] at res
          refine ⟨_, rfl, a, _, rfl, .inr hs3, rfl, _, rfl, iteT ?_⟩
          refine ⟨_, rfl, .inl ⟨rfl, _, .inl (.inl pend3.lt)⟩, _, rfl, _, rfl, (by show 3 ≤ sizeLine; decide), fun q3 nq3 => ?_⟩
          have I1 := pend3.tup (xs := [.ref a, .int (n1 : Int), .bl true]) nq3
          refine ⟨pt, vt0, .ref q3, rfl, rfl, I1.lt, Nat.lt_of_lt_of_le (by omega) bnd, ?_⟩
          have I2 := I1.push (e := ⟨.tuple [dw, da, db], n1, true⟩) fresh upd_same (by show Dp K H (.ref a) (.tuple [dw, da, db]); exact .tup hs (.cons hw (.cons ha (.cons hb .nil))))
          generalize upd (upd H3 q3 (.tup [.ref a, .int (n1 : Int), .bl true])) pt (.lst (vt0 ++ [.ref q3])) = X2 at I2
          have hs4 := sqT_up I2.sm hs
          refine ⟨_, rfl, .inl ⟨rfl, _, .inl (.inl I2.lt)⟩, _, rfl, a, _, 1, _, rfl, rfl, hs4, atI_nat (j := 1) rfl, _, rfl, _, _, rfl, rfl, (by show 3 ≤ sizeLine; decide), fun q4 nq4 => ?_⟩
          have I3 := I2.tup (xs := [xa, .int ((n1 : Int) + 1), .bl false]) nq4
          refine ⟨pt, _, .ref q4, rfl, rfl, I3.lt, Nat.lt_of_lt_of_le (by rw [List.length_append, List.length_singleton]; omega) bnd, ?_⟩
          have I4 := I3.push (e := ⟨da, n1 + 1, false⟩) fresh upd_same ha
          have m1 : En.mu ⟨.tuple [dw, da, db], n1, true⟩ = 2 * psz db + 1 := rfl
          have m2 : En.mu ⟨da, n1 + 1, false⟩ = 2 * psz da := rfl
          refine ⟨_, ?_, _, _, _, _, _, rfl, ⟨I4.sm, I4.lt, I4.rt, fun e he => ?_, ?_, ?_, rfl⟩⟩
          · rw [sumK_app, sumK_app, sumK_one, sumK_one, m1, m2]
            omega
          · rcases List.mem_append.mp he with he | he
            · rcases List.mem_append.mp he with he | he
              · exact okr e he
              · rw [List.mem_singleton.mp he]
                exact ⟨lay1, dep1, fun _ => ⟨dw, da, db, rfl⟩⟩
            · rw [List.mem_singleton.mp he]
              exact ⟨la, (by show n1 + 1 + da.depth ≤ 101; omega), fun z => by cases z⟩
          · rw [all_snoc, all_snoc]
            show ((es1.all En.c && (PyData.eqv da db || kn db)) && kn da) = kn d
            rw [Bool.and_assoc, Bool.and_comm (PyData.eqv da db || kn db), kn_like]
            exact res
          · rw [sumK_app, sumK_app, sumK_one, sumK_one, m1, m2]
            omega
end
end Kf
set_option Elab.async false
set_option linter.all false
set_option maxRecDepth 100000
set_option maxHeartbeats 3900000
/-! A lambda with parameters and captured names, handed as the second of two to a def, called there. Its frame is begun as that of a def within a def. -/
namespace LmY
open PySem PySem.Spec PyProof.Rows L2 LamX NdefX
/-- the lambda as a def within the def of X, whose code object is k -/
abbrev lamF (X : Cx) (ar : Arguments) (sc : Scope) (k : Addr) : NF := ⟨"<lambda>", X.env.qual ++ "<lambda>", ar, [], sc, cloFrom X.env.cells sc.names [], k⟩
/-- where its body runs: its names are N -/
abbrev lamX (X : Cx) (N : List Str) (ar : Arguments) (sc : Scope) (fo k : Addr) (A : Around) (outer : List Env) (sh : Shared) (hp : Hp) : Cx := ncx L2.CX0 X.prog X.w X.K X.mg X.base N (lamF X ar sc k) fo A outer sh hp L2.E0
/-- where the def runs that got it, entered from X's frame -/
abbrev gotX (X : Cx) (Ng : List Str) (x : Str) (sg : Scope) (g : Addr) (cg : Value) (sh : Shared) (hp : Hp) : Cx := (cxOf L2.CX0 X.prog X.w X.K X.mg X.base Ng x sg g cg X.A X.stack sh hp L2.E0).nox
/-- cells that no def of the text writes hold what they held -/
theorem cells_stay {cl : List (Str × Addr)} {fr : List Str} {ws : List (Option V)} {g g2 : Heap} {hp hp2 : Hp} {fs : List Addr} (un : Un fs [] hp hp2 g g2) (cs : CellsAt cl fr ws g hp) : CellsAt cl fr ws g2 hp2 := by
  have still : ∀ a, hp a = none → ∀ val, g.IsCell a val → g2.IsCell a val := fun a off val ⟨ob, at1, dat⟩ => by
    obtain ⟨_, at2⟩ := un.any at1 off List.not_mem_nil
    exact ⟨_, at2, dat⟩
  refine ⟨cs.len, fun nm a e => ?_, cs.inj, fun j nm e => ?_⟩
  · obtain ⟨off, val, cell⟩ := cs.all nm a e
    obtain ⟨ob, at1, _⟩ := id cell
    exact ⟨un.free a ob at1 off List.not_mem_nil, val, still a off val cell⟩
  · obtain ⟨a, e1, has⟩ := cs.has j nm e
    refine ⟨a, e1, fun z ez => ?_⟩
    obtain ⟨u, rz, cell⟩ := has z ez
    exact ⟨u, rz, still a (cs.all nm a e1).1 _ cell⟩
section
variable {X : Cx} {pins : List (Addr × Obj)} {σ : L2.St} {H : Hp} {s : Shared}
/-- a call that ends without an exception, told to its caller -/
theorem land {fo : Addr} {us : List Value} {Q : VK} (I : Inv X pins σ H s) (run : codeAny (model X.prog X.w) X.A (.call (.ref fo) ⟨us, []⟩) (CR L2.CX0 X.stack X.prog X.w H s Q L2.E0) s) :
    wpAny (model X.prog X.w) X.A (call (.ref fo) us) (EP X pins σ Q) X.xe s :=
  wpAny_call (codeAny_mono run fun res s2 told => match res, told with
    | .ok (.ret _), told => I.after told
    | .ok .next, told => told.elim
    | .ok .brk, told => told.elim
    | .ok .cont, told => told.elim
    | .error _, told => (show False from told).elim)
/-- x(e, ..), in the def that got the lambda as x -/
theorem pe_lact {N ps fr Ng : List Str} {js : List Nat} {qg : Str} {sg : Scope} {g fo k : Addr} {cg pm ctv : Value} {ar : Arguments} {body : Expr} {sc : Scope} {m i : Nat} {a : Str} {tb : TE} {p1 p2 : Pos} {e : Expr} {es : List Expr} {t : TA}
    (I : Inv X pins σ H s) (S : NScope N ps fr sc) (cp : Caps X (cloFrom X.env.cells sc.names []) fr js)
    (at_ : s.heap.get? fo = some (PySem.W.kla_obj "<lambda>" (X.env.qual ++ "<lambda>") ar body sc (cloFrom X.env.cells sc.names []) pm k ctv)) (off : H fo = none) (noF : fo ∉ frs X.stack)
    (bind : ∀ us : List Value, us.length = ps.length → bindArgs (PySem.W.kla_fn "<lambda>" (X.env.qual ++ "<lambda>") ar body sc (cloFrom X.env.cells sc.names []) pm (.ref k) ctv) ⟨us, []⟩ = pure (ps.zip us))
    (room : Room (m + 1) (X.A.deeper (envOfC qg sg s.heap.objs.size g cg)))
    (inner : ∀ (A : Around) (outer : List Env) (sh : Shared) (hp : Hp), Room m (A.deeper (envF (lamF X ar sc k) fo sh.heap.objs.size)) → PE (lamX X N ar sc fo k A outer sh hp) body tb)
    (hN : Ng[i]? = some a) (hv : Vis sg a) (pa : PA (gotX X Ng qg sg g cg s H) (e :: es) t)
    (h1 : (a == ("__debug__" : Str)) = false := by decide) (h2 : (a == ("__classdict__" : Str)) = false := by decide)
    (h3 : starEach (e :: es) (envOfC qg sg s.heap.objs.size g cg) = (false, eval e (envOfC qg sg s.heap.objs.size g cg)) :: starEach es (envOfC qg sg s.heap.objs.size g cg) := by rfl)
    (h4 : (backTo p2 (starEach es (envOfC qg sg s.heap.objs.size g cg))).any (·.1) = false := by rfl) :
    PE (gotX X Ng qg sg g cg s H) (.Call (.Name a p1) (e :: es) [] p2)
      (fun σZ HZ Q => σZ[i]? = some (some (.ref fo)) ∧ t σZ HZ fun vs H1 => vs.length = ps.length ∧ H1 k = some (CodeO k (X.env.qual ++ "<lambda>")) ∧ tb (startF N vs (js.map (slotAt σ))) H1 Q) := by
  refine ⟨fun pinsZ sZ σZ HZ Q IZ ⟨slot, rest⟩ => ?_⟩
  have same : ∀ {pn : List (Addr × Obj)} {τ : L2.St} {hp : Hp} {sh : Shared}, Inv (gotX X Ng qg sg g cg s H) pn τ hp sh → sh.heap.get? fo = some (PySem.W.kla_obj "<lambda>" (X.env.qual ++ "<lambda>") ar body sc (cloFrom X.env.cells sc.names []) pm k ctv) :=
    fun J => J.base.keep fo _ at_ off noF List.not_mem_nil
  have name := (pe_var (X := gotX X Ng qg sg g cg s H) (pos := p1) (i := i) hN hv h1 h2).run pinsZ sZ σZ HZ (fun val hp => val = .ref fo ∧ hp = HZ) IZ ⟨.ref fo, slot, rfl, rfl⟩
  refine wpAny_Call_Name_kw (thn name fun val s1 ⟨_, _, I1, rel, ev, eh⟩ => ?_)
  subst ev eh
  cases (show val = Value.ref fo from rel)
  refine PySem.W.callWith_F (first := []) ⟨_, _, _, _, same I1⟩ (thn (pa.run p2 pinsZ s1 σZ _ _ I1 rest) fun us s2 ⟨vs, H2, I2, rv, len, code, ht⟩ => ⟨⟨_, _, _, _, same I2⟩, land (us := us) I2 ?_⟩) h3 h4
  obtain ⟨⟨oc, fields, tq, o1, o2, o3⟩, _, _⟩ := I2.hok k _ code
  refine PySem.W.kla_callFunE room.depth (same I2) rfl S.co S.gen rfl ⟨k, oc, fields, tq, rfl, o1, o2, o3⟩ ?_
  rw [bind us (rv.length.symm.trans len)]
  refine wpAny_pure (wpAny_newFunctionEnv (fun y hy => S.nocell y hy) (fun y hy => S.par y.1 (List.of_mem_zip hy).1) (fun g1 ns1 more => ⟨I2.nolimit.fresh _ more, ?_⟩) S.kind)
  have grown : ∀ b ob, s2.heap.get? b = some ob → g1.get? b = some ob := fun b ob eb => more.extBut b ob (Nat.ne_of_lt (Heap.lt_size eb)) (Heap.get?_push_of_some _ eb)
  have J := inv_startN (CX := L2.CX0) (E := L2.E0) (tk := s2.toks + (ps.zip us).length) (F := lamF X ar sc k) (f := fo) S room.hd I2.env0 len rv (cells_stay I2.base (cells_of I cp)) ns1 grown
  refine PySem.W.kla_codeExpr (wpAny_mono ((inner _ _ s2 H2 (room.deeper _)).run [] _ _ H2 Q J ht) (fun _ s3 ⟨w3, H3, J3, r3, q3⟩ => ?_) fun _ _ bad => bad)
  exact ⟨w3, H3, J3.os, J3.bare, J3.base, J3.hok, r3, q3⟩
end
/-- what the def that got the lambda makes of its calls: TT -/
def Gives2 (X : Cx) (Ng : List Str) (x : Str) (sg : Scope) (g : Addr) (cg : Value) (bg : List Stmt) (a : Str) (q : Str) (ps : List Str) (m : Nat) (TT : (List V → Hp → VK → Prop) → V → Hp → VK → Prop) : Prop :=
  ∀ (fo k : Addr) (s : Shared) (H : Hp) (v : V) (Q : VK) (tl : List V → Hp → VK → Prop),
    (∀ (p1 p2 : Pos) (e : Expr) (es : List Expr) (t : TA), PA (gotX X Ng x sg g cg s H) (e :: es) t →
      starEach (e :: es) (envOfC x sg s.heap.objs.size g cg) = (false, eval e (envOfC x sg s.heap.objs.size g cg)) :: starEach es (envOfC x sg s.heap.objs.size g cg) → (backTo p2 (starEach es (envOfC x sg s.heap.objs.size g cg))).any (·.1) = false →
      PE (gotX X Ng x sg g cg s H) (.Call (.Name a p1) (e :: es) [] p2) (fun σZ HZ Q => σZ[1]? = some (some (.ref fo)) ∧ t σZ HZ fun vs H1 => vs.length = ps.length ∧ H1 k = some (CodeO k q) ∧ tl vs H1 Q)) →
    Room (m + 1) (X.A.deeper (envOfC x sg s.heap.objs.size g cg)) → H k = some (CodeO k q) → TT tl v H Q →
    ∃ t, PSs (gotX X Ng x sg g cg s H) bg t ∧ t { nx := fun _ H' => Q .non H', rt := Q } (L2.start Ng [v, .ref fo]) H
def tLam2 (T : List (Addr × Str)) (N : List Str) (js : List Nat) (TT : (List V → Hp → VK → Prop) → V → Hp → VK → Prop) (te : TE) (t : TE) : TE := fun σ H Q => te σ H fun v H0 => Tabs T H0 ∧ ∀ H1, ExtN H0 H1 → Tabs T H1 → TT (fun vs H' Q' => t (startF N vs (js.map (slotAt σ))) H' Q') v H1 Q
section
variable {X : Cx}
/-- x(e, lambda ..: body) -/
theorem pe_lamcall2 {T : List (Addr × Str)} {TT : (List V → Hp → VK → Prop) → V → Hp → VK → Prop} {x a0 a : Str} {g c tab : Addr} {m : Nat} {pg : Arguments} {bg : List Stmt} {sg : Scope} {dV kV doc pm cdv ct oc : Value} {an od : Option Addr} {osl : Array (Option Value)} {N Ng ps fr : List Str} {js : List Nat}
    {ar : Arguments} {body e : Expr} {sc : Scope} {te t : TE} {p0 p1 p2 : Pos} (gx : Gl X x) (mx : X.mg x = some (.ref g)) (kx : PySem.W.keepIn X.K (.ref g) = true)
    (look : X.K.lookup g = some ⟨oc, od, .func (PySem.W.fnOf x x pg bg sg dV kV doc pm an cdv ct), osl⟩) (code : PySem.W.codeIn X.K cdv x = true) (bx : L2.Binds X.K (PySem.W.fnOf x x pg bg sg dV kV doc pm an cdv ct) [a0, a] []) (Sg : FnScope Ng [a0, a] sg) (second : Ng[1]? = some a) (seen : Vis sg a)
    (gives : Gives2 X Ng x sg g cdv bg a (X.env.qual ++ "<lambda>") ps m TT) (pe : PE X e te)
    (own : TabB X.base X.mg c tab) (mine : X.env.code = .ref c) (inT : (tab, X.env.qual ++ "<lambda>") ∈ T) (sole : ∀ p ∈ T, p.1 = tab → p.2 = X.env.qual ++ "<lambda>") (room : Room (m + 2) X.A)
    (S : NScope N ps fr sc) (held : ndefB X.env.scope sc fr = true) (slots : js.map (fun j => X.N[j]?) = fr.map some) (plain : defaultsOf ar X.env = ([], []))
    (bind : ∀ (q : Str) (cl : List (Str × Addr)) (pm cv ctv : Value) (us : List Value), us.length = ps.length → bindArgs (PySem.W.kla_fn "<lambda>" q ar body sc cl pm cv ctv) ⟨us, []⟩ = pure (ps.zip us))
    (inner : ∀ (A : Around) (outer : List Env) (sh : Shared) (hp : Hp) (fo k : Addr), Room m (A.deeper (envF (lamF X ar sc k) fo sh.heap.objs.size)) → PE (lamX X N ar sc fo k A outer sh hp) body t)
    (h0 : (x == ("__debug__" : Str)) = false := by decide) (h1 : (a == ("__debug__" : Str)) = false := by decide) (h2 : (a == ("__classdict__" : Str)) = false := by decide)
    (h3 : starEach (e :: [.Lambda ar body sc p1]) X.env = (false, eval e X.env) :: starEach [.Lambda ar body sc p1] X.env := by rfl) :
    PE X (.Call (.Name x p0) [e, .Lambda ar body sc p1] [] p2) (tLam2 T N js TT te t) := by
  refine ⟨fun pins s σ H Q I reading => wpAny_Call_Name_kw (ld_glob I gx mx (PySem.W.callWith_K (h₀ := X.base) I.ok.mod.kin kx ?_ h3 (by rfl)) h0)⟩
  rw [h3]
  show wpAny _ _ (spliced ((false, eval e X.env) :: backTo p2 (starEach [.Lambda ar body sc p1] X.env))) _ _ s
  refine Calls.spliced_cons (thn (pe.run pins s σ H _ I reading) fun u s0 ⟨v, H0, I0, r0, tabs0, later⟩ => ?_)
  show wpAny _ _ (spliced ((false, eval (.Lambda ar body sc p1) X.env) :: backTo p2 (starEach [] X.env))) _ _ s0
  refine Calls.spliced_cons (lam_make2 I0 own mine inT sole tabs0 plain (fun y hy e => (ndef_free held y hy e).elim (fun z => I0.ok.has _ (.inl z)) fun z => I0.ok.has _ (.inr z)) fun fo k pmF ctF H1 s1 I1 grown tabs1 at_ off noF codeK => Calls.spliced_nil ⟨I1.kIn, land I1 ?_⟩)
  refine run_ofS (N := Ng) (ps := [a0, a]) (us := [u, .ref fo]) (vs := [v, .ref fo]) look code Sg room I1.env0 (bx s1 [u, .ref fo] I1.kIn rfl) (.cons r0 (.cons rfl .nil)) rfl fun room1 => ?_
  obtain ⟨ts, run, told⟩ := gives fo k s1 H1 v Q _ (fun q1 q2 e1 es1 t1 pa he hp => pe_lact (i := 1) (js := js) I1 S (Caps.made I1.ok (ndef_free held) (ndef_fr held) slots) at_ off noF (fun us hl => bind _ _ _ _ _ us hl) room1 (fun A outer sh hp2 r2 => inner A outer sh hp2 fo k r2) second seen pa h1 h2 he hp) room1 codeK (later H1 grown tabs1)
  exact ⟨ts, run.nox, told⟩
end
end LmY
set_option Elab.async false
set_option linter.all false
set_option maxRecDepth 100000
set_option maxHeartbeats 3900000
/-! The end of a law whose defs want to know that no repr is under way around them: its def is run from the caller alone. -/
namespace Gd
open PySem PySem.Spec PyProof.Rows L2 LamX LmY
section
variable {P : Program} {w : World} {K : PySem.W.Frag} {mg mb : Str → Option Value} {k : Nat} {fa scr : Addr} {cs : List (Addr × Addr)} {st : Shared} {vs : List Value} {ns : List Int}
/-- what stands in the heap ahead of the law's call -/
structure Ahead (K : PySem.W.Frag) (mg mb : Str → Option Value) (cs : List (Addr × Addr)) (scr : Addr) (vs : List Value) (st : Shared) : Prop where
  kin : K.In st.heap
  glob : st.heap.Ns mainGlobals mg
  blt : st.heap.Ns builtinsNs mb
  boot : ∀ x : Str, x ≠ "__name__" → mb x = bootBuiltins x
  lim : st.heap.NoLimit
  gens : st.gens = #[]
  tabs : ∀ p ∈ cs, st.heap.get? p.2 = some { cls := .none, data := .fields #[] }
  offK : ∀ p ∈ cs, K.lookup p.2 = none
  codes : ∀ p ∈ cs, PySem.W.CodeHd st.heap p.1 p.2
  mod : ∃ (bm : Addr) (ob : Obj), mg "__builtins__" = some (.ref bm) ∧ bm ≠ builtinsNs ∧ st.heap.get? bm = some ob ∧ ob.cls = .type "module" ∧ ob.dict = some builtinsNs ∧ ob.data = .plain
  list : st.heap.get? scr = some { cls := .type "list", data := .seq vs.toArray }
/-- tracked are the script and the tables at most -/
structure Few (K : PySem.W.Frag) (cs : List (Addr × Addr)) (scr : Addr) (H : Hp) : Prop where
  only : ∀ b, H b ≠ none → b = scr ∨ ∃ p ∈ cs, p.2 = b
  notK : H scr ≠ none → K.lookup scr = none
theorem untracked (W : Ahead K mg mb cs scr vs st) {H : Hp} (F : Few K cs scr H) {b : Addr} {ob : Obj} (at_ : st.heap.get? b = some ob) (n1 : ∀ us m, ob.data ≠ .seq us m) (n2 : ob.data ≠ .fields #[]) : H b = none := by
  refine Decidable.byContradiction fun z => ?_
  rcases F.only b z with rfl | ⟨p, hp, rfl⟩
  · rw [W.list] at at_
    cases at_
    exact n1 _ _ rfl
  · rw [W.tabs p hp] at at_
    cases at_
    exact n2 rfl
theorem hid_ns (W : Ahead K mg mb cs scr vs st) {H : Hp} (F : Few K cs scr H) {b : Addr} {m : Str → Option Value} (h : st.heap.Ns b m) : (hidT st.heap H).Ns b m := by
  obtain ⟨ob, es, ep, at_, dat, rest⟩ := h
  refine ⟨ob, es, ep, hidT_get at_ (untracked W F at_ (fun us m z => ?_) fun z => ?_), dat, rest⟩ <;> (rw [dat] at z; cases z)
theorem hid_in (W : Ahead K mg mb cs scr vs st) {H : Hp} (F : Few K cs scr H) : K.In (hidT st.heap H) := fun b ob e => by
  refine hidT_get (W.kin b ob e) (Decidable.byContradiction fun z => ?_)
  rcases F.only b z with rfl | ⟨p, hp, rfl⟩
  · rw [F.notK z] at e
    cases e
  · rw [W.offK p hp] at e
    cases e
theorem hid_tab (W : Ahead K mg mb cs scr vs st) {H : Hp} (F : Few K cs scr H) : ∀ p ∈ cs, TabB (hidT st.heap H) mg p.1 p.2 := fun p hp => by
  have here := W.tabs p hp
  have plainG : ∀ {b : Addr} {ob : Obj}, st.heap.get? b = some ob → (∃ es ep, ob.data = .dict es ep) → b ≠ p.2 := fun e ⟨es, ep, d⟩ z => by
    rw [z, here] at e
    cases e
    cases d
  refine ⟨?_, ?_, ?_⟩
  · obtain ⟨ob, us, file, tf, flags, tg, inF, text, tt, e1, r1, r2, r3, rest⟩ := W.codes p hp
    refine ⟨ob, us, file, tf, flags, tg, inF, text, tt, hidT_get e1 (untracked W F e1 (fun us m z => ?_) fun z => ?_), r1, r2, r3, rest⟩
    · rw [r2] at z
      cases z
    · rw [r2] at z
      cases z
      simp at r3
  · obtain ⟨bm, ob, b1, b2, b3, b4, b5, b6⟩ := W.mod
    refine ⟨bm, ob, b1, b2, fun z => ?_, fun z => ?_, hidT_get b3 (untracked W F b3 (fun us m z => ?_) fun z => ?_), b4, b5, b6⟩
    · obtain ⟨og, es, ep, e, dat, _⟩ := W.glob
      rw [z, e] at b3
      cases b3
      rw [dat] at b6
      cases b6
    · rw [z, here] at b3
      cases b3
      cases b6
    · rw [b6] at z
      cases z
    · rw [b6] at z
      cases z
  · obtain ⟨og, es, ep, e, dat, _⟩ := W.glob
    exact plainG e ⟨es, ep, dat⟩
theorem hid_env (W : Ahead K mg mb cs scr vs st) {H : Hp} (F : Few K cs scr H) (hok : HOk P w H st.heap) : Env0 P w K mg (hidT st.heap H) callerA [] st H :=
  ⟨rfl, ⟨hid_in W F, hid_ns W F W.glob, ⟨mb, hid_ns W F W.blt, W.boot⟩, let ⟨mc, c1, c2⟩ := W.lim; ⟨mc, hid_ns W F c1, c2⟩⟩, fun b ob e => of_hidT e, Nat.le_of_eq (hidT_size _ _), trivial, fun b hb => (List.not_mem_nil (show b ∈ ([] : List Addr) from hb)).elim, hok, .of_eq W.gens⟩
/-- what is told of the heap behind the call -/
theorem behind (W : Ahead K mg mb cs scr vs st) {H : Hp} (F : Few K cs scr H) (hok : HOk P w H st.heap) (tb : ∀ p ∈ cs, H p.2 = some (.tbl #[])) (fz : H scr = none ∨ ∃ ob xs, H scr = some (.frz ob (.lst xs))) {r : Result} {s' : Shared}
    (told : CR L2.CX0 [] P w H st (fun v _ => v = .bl true) L2.E0 r s') : r = .ok (.ret (.bool true)) ∧ OldK st.heap s'.heap ∧ s'.os = st.os ∧ AllBare s'.gens := by
  match r, told with
  | .error _, told => exact (show False from told).elim
  | .ok .next, told => exact (show False from told).elim
  | .ok .brk, told => exact (show False from told).elim
  | .ok .cont, told => exact (show False from told).elim
  | .ok (.ret u), told =>
    obtain ⟨v, H2, os, bare, un, hok2, rel, isT⟩ := told
    have isT : v = .bl true := isT
    subst isT
    obtain rfl : u = Value.bool true := rel
    have noE : ∀ b : Addr, b ∉ ([] : List Addr) := fun _ => List.not_mem_nil
    have grown : ∀ p ∈ cs, ∃ more : Array Value, s'.heap.get? p.2 = some { cls := .none, data := .fields more } := fun p hp => by
      obtain ⟨more, e⟩ := un.tbls p.2 #[] (tb p hp)
      exact ⟨_, hok2 p.2 _ e⟩
    have stays : ∀ b ob, (¬ ∃ p ∈ cs, p.2 = b) → st.heap.get? b = some ob → s'.heap.get? b = some ob := fun b ob far e => by
      by_cases z : H b = none
      · exact un.keep b ob e z (noE b) (noE b)
      · rcases F.only b z with rfl | h
        · rcases fz with f | ⟨o2, xs, f⟩
          · exact absurd f z
          · obtain ⟨e1, _⟩ := hok _ _ f
            obtain ⟨e2, _⟩ := hok2 _ _ (un.frzs _ _ _ f)
            rw [e] at e1
            cases e1
            exact e2
        · exact absurd h far
    refine ⟨rfl, ⟨fun b ob e => ?_, fun b ob e => ?_⟩, os, bare⟩
    · by_cases h : ∃ p ∈ cs, p.2 = b
      · obtain ⟨p, hp, rfl⟩ := h
        obtain ⟨more, hm⟩ := grown p hp
        rw [W.tabs p hp] at e
        cases e
        exact .inr (.inl ⟨((W.codes p hp).tab (W.tabs p hp)).isCodeTable, rfl, #[], more, rfl, by rw [Array.empty_append]; exact hm⟩)
      · exact .inl (stays b ob h e)
    · by_cases h : ∃ p ∈ cs, p.2 = b
      · obtain ⟨p, hp, rfl⟩ := h
        obtain ⟨more, hm⟩ := grown p hp
        exact ⟨_, hm⟩
      · exact ⟨ob, stays b ob h e⟩
open Classical in
/-- THE END: the law's def by its run from the caller alone -/
theorem end_at (W : Ahead K mg mb cs scr vs st) (are : IntsAre vs ns) (short : ns.length ≤ sizeLine)
    (run : ∀ (base : Heap) (H : Hp), K.In base → base.Ns mainGlobals mg → (∀ p ∈ cs, TabB base mg p.1 p.2) → (∀ p ∈ cs, H p.2 = some (.tbl #[])) → SqL K H scr (ns.map V.int) → Env0 P w K mg base callerA [] st H →
      codeAny (model P w) callerA (.call (.ref fa) ⟨[.ref scr], []⟩) (CR L2.CX0 [] P w H st (fun v _ => v = .bl true) L2.E0) st) :
    codeAny (model P w) callerA (.call (.ref fa) ⟨[.ref scr], []⟩) (fun r s' => r = .ok (.ret (.bool true)) ∧ OldK st.heap s'.heap ∧ s'.os = st.os ∧ AllBare s'.gens) st := by
  have rv := vals_ints are
  have same := are.length
  have scrT : ¬ ∃ p ∈ cs, p.2 = scr := fun ⟨p, hp, e⟩ => by
    have z := W.tabs p hp
    rw [e, W.list] at z
    cases z
  have go : ∀ H : Hp, (∀ b, (∃ p ∈ cs, p.2 = b) → H b = some (.tbl #[])) → (∀ b, (¬ ∃ p ∈ cs, p.2 = b) → b ≠ scr → H b = none) → (H scr = none ∨ (K.lookup scr = none ∧ H scr = some (.frz { cls := .type "list", data := .seq vs.toArray } (.lst (ns.map V.int))))) → SqL K H scr (ns.map V.int) →
      codeAny (model P w) callerA (.call (.ref fa) ⟨[.ref scr], []⟩) (fun r s' => r = .ok (.ret (.bool true)) ∧ OldK st.heap s'.heap ∧ s'.os = st.os ∧ AllBare s'.gens) st := by
    intro H isTab noneElse atScr seq
    have few : Few K cs scr H := ⟨fun b z => by
      by_cases h : ∃ p ∈ cs, p.2 = b
      · exact .inr h
      · exact .inl (Decidable.byContradiction fun n => z (noneElse b h n)), fun z => (atScr.resolve_left z).1⟩
    have hok : HOk P w H st.heap := fun b ob e => by
      by_cases h : ∃ p ∈ cs, p.2 = b
      · rw [isTab b h] at e
        cases e
        obtain ⟨p, hp, rfl⟩ := h
        exact W.tabs p hp
      · by_cases n : b = scr
        · subst n
          rcases atScr with z | ⟨_, z⟩
          · rw [z] at e
            cases e
          · rw [z] at e
            cases e
            exact ⟨W.list, by rw [List.length_map]; exact short, vs, _, rv, W.list⟩
        · rw [noneElse b h n] at e
          cases e
    have tb : ∀ p ∈ cs, H p.2 = some (.tbl #[]) := fun p hp => isTab p.2 ⟨p, hp, rfl⟩
    exact codeAny_mono (run _ H (hid_in W few) (hid_ns W few W.glob) (hid_tab W few) tb seq (hid_env W few hok)) fun r s' told => behind W few hok tb (atScr.imp id fun z => ⟨_, _, z.2⟩) told
  cases hk : K.lookup scr with
  | some ob =>
    have e := W.kin scr ob hk
    rw [W.list] at e
    cases e
    exact go (fun b => if ∃ p ∈ cs, p.2 = b then some (.tbl #[]) else none) (fun b h => if_pos h) (fun b h _ => if_neg h) (.inl (if_neg scrT)) (.inr ⟨_, vs.toArray, _, hk, rfl, rfl, rfl, by rw [List.size_toArray, same]; exact short, by simpa using rv⟩)
  | none =>
    refine go (fun b => if b = scr then some (.frz { cls := .type "list", data := .seq vs.toArray } (.lst (ns.map V.int))) else if ∃ p ∈ cs, p.2 = b then some (.tbl #[]) else none) (fun b h => ?_) (fun b h n => ?_) (.inr ⟨hk, if_pos rfl⟩) (.inl (.inr ⟨_, if_pos rfl⟩))
    · exact (if_neg (fun z => scrT (by rw [← z]; exact h))).trans (if_pos h)
    · exact (if_neg n).trans (if_neg h)
end
end Gd
set_option Elab.async false
set_option linter.all false
set_option maxRecDepth 100000
set_option maxHeartbeats 3900000
/-! Defs that are run where no repr is under way; repr of data. -/
namespace Gd
open PySem PySem.Spec PyProof.Rows L2 LamX LmY
/-- as FnOk, where no repr is under way around the call -/
structure FnG (P : Program) (w : World) (K : PySem.W.Frag) (mg : Str → Option Value) (base : Heap) (k : Nat) (f : Addr) (fd : FuncData) (ps : List Str) (sp : Sp) : Prop where
  len : ∀ vs H Q E, sp vs H Q E → vs.length = ps.length
  run : ∀ (A : Around) (outer : List Env) (s : Shared) (H : Hp) (args : Args) (us : List Value) (vs : List V) (Q : VK), A.guards = some [] → Room k A → Env0 P w K mg base A outer s H → BindsTo s fd args (ps.zip us) → Vals vs us → sp vs H Q L2.E0 →
    codeAny (model P w) A (.call (.ref f) args) (CR L2.CX0 outer P w H s Q L2.E0) s
section
variable {P : Program} {w : World} {K : PySem.W.Frag} {mg : Str → Option Value} {base : Heap}
/-- a def of the text, by its body -/
theorem okG {x : Str} {st : Stmt} {f : Addr} {fd : FuncData} {N ps : List Str} {k : Nat} {sp : Sp} (F : Fun K x x st f fd) (S : FnScope N ps (defScope st)) (len : ∀ vs H Q E, sp vs H Q E → vs.length = ps.length)
    (body : ∀ (cdv : Value) (A : Around) (outer : List Env) (s : Shared) (H : Hp) (vs : List V) (Q : VK), A.guards = some [] → Room k (A.deeper (envOfC x (defScope st) s.heap.objs.size f cdv)) → sp vs H Q L2.E0 →
      ∃ t, PSs (cxOf L2.CX0 P w K mg base N x (defScope st) f cdv A outer s H L2.E0).nox (defBody st) t ∧ t { nx := fun _ H' => Q .non H', rt := Q } (L2.start N vs) H) : FnG P w K mg base (k + 1) f fd ps sp := by
  obtain ⟨oc, od, kV, doc, pm, an, cdv, ct, osl, rfl, look, code⟩ := F.ex
  refine ⟨len, fun A outer s H args us vs Q gu room e0 bind rel h => ?_⟩
  refine run_ofS look code S room e0 bind rel (len _ _ _ _ h) fun room1 => ?_
  obtain ⟨t, run, told⟩ := body cdv A outer s H vs Q gu room1 h
  exact ⟨t, run.nox, told⟩
/-- FnOk is more -/
theorem FnG.of {k : Nat} {f : Addr} {fd : FuncData} {ps : List Str} {sp : Sp} (F : FnOk P w K mg base L2.CX0 k f fd ps sp) : FnG P w K mg base k f fd ps sp := ⟨F.len, fun A outer s H args us vs Q _ room e0 bind rel h => F.run A outer s H args us vs Q L2.E0 room e0 bind rel h⟩
end
section
variable {X : Cx}
/-- x(e, ..), x such a def -/
theorem pe_callG {k : Nat} {f : Addr} {fd : FuncData} {ps : List Str} {sp : Sp} {x : Str} {p pos : Pos} {e : Expr} {es : List Expr} {t : TA} (F : FnG X.prog X.w X.K X.mg X.base k f fd ps sp) (gu : X.A.guards = some []) (room : Room k X.A) (gl : Gl X x) (mx : X.mg x = some (.ref f)) (kx : PySem.W.keepIn X.K (.ref f) = true)
    (bind : L2.Binds X.K fd ps []) (pa : PA X (e :: es) t) (h0 : (x == ("__debug__" : Str)) = false := by decide)
    (h1 : starEach (e :: es) X.env = (false, eval e X.env) :: starEach es X.env := by rfl) (h2 : (backTo pos (starEach es X.env)).any (·.1) = false := by rfl) :
    PE X (.Call (.Name x p) (e :: es) [] pos) (fun σ H Q => t σ H fun vs H1 => sp vs H1 Q L2.E0) := by
  refine ⟨fun pins s σ H Q I reading => wpAny_Call_Name_kw (ld_glob I gl mx (PySem.W.callWith_K (h₀ := X.base) I.ok.mod.kin kx (thn (pa.run pos pins s σ H _ I reading) fun us s1 ⟨vs, H1, I1, rel, q⟩ => ⟨I1.kIn, land (us := us) I1 ?_⟩) h1 h2) h0)⟩
  have given := bind s1 us I1.kIn (by rw [List.append_nil]; exact rel.length.symm.trans (F.len _ _ _ _ q))
  rw [List.append_nil] at given
  exact F.run X.A X.stack s1 H1 ⟨us, []⟩ us vs Q gu room I1.env0 given rel q
/-- repr of data, no repr being under way -/
theorem cr_reprD (gu : X.A.guards = some []) (un : X.A.units + 64 < cLine) : CallR X (.builtin "repr") (fun xs H Q => ∃ (a : Addr) (d : PyData), xs = [.ref a] ∧ Dp X.K H (.ref a) d ∧ d.showable = true ∧ d.hasDict = false ∧ d.depth ≤ 60 ∧ d.shown.length ≤ sizeLine ∧ Q (.str d.shown) H) := by
  intro pins s σ H xs us Q I rel ⟨a, d, ex, dp, sh, nd, dd, fits, q⟩
  subst ex
  rw [Vals.ref1 rel]
  obtain ⟨as, rd⟩ := Dp.reads I d (.ref a) (.ref a) dp rfl
  exact repr_of_reads' rd sh (fun e => by rw [nd] at e; cases e) gu (by omega) (fun _ _ e => e) (fun h' u tk kp => ⟨.str d.shown, H, I.kept kp, ⟨u, rfl⟩, q⟩) fits
end
/-- what the end wants of the law's def -/
def LawG (l : PySem.W.OpenLaw) (w : World) (K : PySem.W.Frag) (k n : Nat) (x : Str) (mg : Str → Option Value) (fa : Addr) (h : Heap) : Prop :=
  ∃ (fd : FuncData) (cs : List (Addr × Addr)) (sp : Sp), (∀ p ∈ cs, h.get? p.2 = some { cls := .none, data := .fields #[] }) ∧ (∀ p ∈ cs, K.lookup p.2 = none) ∧ (∀ p ∈ cs, PySem.W.CodeHd h p.1 p.2) ∧ (∀ (s : Shared) (u : Value), BindsTo s fd ⟨[u], []⟩ [(x, u)]) ∧
    (∀ (H : Hp) (a : Addr) (ns : List Int), ns.length ≤ n → (∀ z ∈ ns, Builtin.Int.intBits z ≤ 1048576) → (∀ p ∈ cs, H p.2 = some (.tbl #[])) → SqL K H a (ns.map V.int) → sp [.ref a] H (fun v _ => v = .bl true) L2.E0) ∧
    ∀ base : Heap, K.In base → base.Ns mainGlobals mg → (∀ p ∈ cs, TabB base mg p.1 p.2) → FnG l.prog w K mg base k fa fd [x] sp
/-- the end of a law some defs of which say repr, or hold lambdas: these ones' tables are still empty -/
theorem walk_guard {l : PySem.W.OpenLaw} {n k : Nat} {q : Program} {loose : List Str} {XP : (Str → Option Value) → Heap → Prop} {YP : World → Heap → Prop} {d : DefRec} {K : Params → PySem.W.Frag} {x : Str} (nms : List Str)
    (hn : l.most = some n) (line : n ≤ sizeLine) (hdf : d.params.defaults = []) (room : Room k callerA) (recs : ∀ nm ∈ nms, ((recsOf q).any fun e => e.name == nm) = true) (hY : ∀ (w : World) (h : Heap), YP w h → (K w.params).In h)
    (F : ∀ (w : World) (mg : Str → Option Value) (fa : Addr) (h : Heap), YP w h → (K w.params).In h → h.Ns mainGlobals mg → mg d.name = some (.ref fa) → (∀ nm ∈ nms, ∀ fw, mg nm = some (.ref fw) → OwnTab (K w.params) fw h) → LawG l w (K w.params) k n x mg fa h) :
    PySem.W.WalkO q loose XP YP l.row.toRowW d [] (fun f vs => PySem.call f vs) := by
  refine Att.attach_callB hn hdf fun w s0 s1 mg mb fa o pm cd doc a vs ns G Y ho hd hcd hmg hobj hints hlen hbits hg => ?_
  have KX := hY w _ Y
  have tabs : ∀ nm ∈ nms, ∀ fw, mg nm = some (.ref fw) → OwnTab (K w.params) fw s1.heap := by
    intro nm inn fw hw c P o1 fd1 e dd us sl look isF isC lookC at11
    obtain ⟨dR, mem, same⟩ := List.any_eq_true.mp (recs nm inn)
    have eN : dR.name = nm := beq_iff_eq.mp same
    obtain ⟨a2, o2, fd2, c2, P2, g1, g2, g3, g4, _, ⟨oc, vc, g5, _, g6, g7⟩, empty⟩ := G.T.tab dR mem
    rw [eN] at g1
    cases hw.symm.trans g1
    cases (KX _ _ look).symm.trans g2
    cases isF.symm.trans g3
    cases isC.symm.trans g4
    cases (KX _ _ lookC).symm.trans g5
    cases g6
    cases at11.symm.trans g7
    exact empty
  obtain ⟨fd, cs, sp, hT, nT, hC, hb, hsp, hF⟩ := F w mg fa _ Y KX G.T.g hmg tabs
  exact end_at ⟨KX, G.T.g, G.T.b, G.T.builtins, G.T.nolimit, hg, hT, nT, hC, G.T.bmain, hobj⟩ hints (Nat.le_trans hlen line) fun base H hK hG hB ht hS e0 =>
    (hF base hK hG hB).run callerA [] s1 H ⟨[.ref a], []⟩ [.ref a] [.ref a] _ rfl room e0 (hb s1 (.ref a)) (.cons rfl .nil) (hsp H a ns hlen hbits ht hS)
end Gd
set_option Elab.async false
set_option linter.all false
set_option maxRecDepth 100000
set_option maxHeartbeats 4000000
set_option pp.maxSteps 1200
/-! Things that stand beside the dice; how great they are. -/
namespace Kf
open PySem PySem.Spec PyProof.Rows L2 Sx
abbrev NmOk (z : Str) : Prop := z.cps.all (· < 0x110000) = true
/-- the heap without some places -/
def del (H : Hp) (S : List Addr) : Hp := fun c => if c ∈ S then none else H c
theorem del_ne {H : Hp} {S : List Addr} {c : Addr} (n : c ∉ S) : del H S c = H c := if_neg n
theorem del_same {H : Hp} {S : List Addr} : Same (del H S) H := fun c o e => by
  unfold del at e
  split at e
  · cases e
  · exact e
theorem del_but {H H' : Hp} {p : Addr} {S : List Addr} (pS : p ∈ S) (b : But p H H') : Same (del H S) (del H' S) := fun c o e => by
  by_cases n : c ∈ S
  · rw [show del H S c = none from if_pos n] at e
    cases e
  · rw [del_ne n] at e ⊢
    exact b _ _ (fun z => n (by rw [z]; exact pS)) e
/-- these places are lists -/
def LS (H : Hp) (S : List Addr) : Prop := ∀ a ∈ S, ∃ xs, H a = some (.lst xs)
theorem LS.but {H H' : Hp} {p L : Addr} {S : List Addr} {m : Int} (h : LS H S) (b : But p H H') (hD : DiceAt H' p L m) : LS H' S := fun a ha => by
  by_cases e : a = p
  · obtain ⟨x, n, r, cs, e2, _⟩ := hD
    rw [e]
    exact ⟨_, e2⟩
  · obtain ⟨xs, e2⟩ := h a ha
    exact ⟨xs, b _ _ e e2⟩
theorem LS.nin {H : Hp} {S : List Addr} {q : Addr} (h : LS H S) (e : H q = none) : q ∉ S := fun z => by
  obtain ⟨xs, e2⟩ := h q z
  rw [e] at e2
  cases e2
section
variable {K : PySem.W.Frag} {H H' : Hp} {p : Addr} {S : List Addr} {m : Int}
/-- data in the heap, but for these places -/
def Df (K : PySem.W.Frag) (S : List Addr) (H : Hp) (v : V) (d : PyData) : Prop := Dp K (del H S) v d
theorem Df.dp {v : V} {d : PyData} (h : Df K S H v d) : Dp K H v d := dp_up del_same _ _ h
theorem Df.but {v : V} {d : PyData} (pS : p ∈ S) (b : But p H H') (h : Df K S H v d) : Df K S H' v d := dp_up (del_but pS b) _ _ h
theorem del_up (b : Same H H') : Same (del H S) (del H' S) := fun c o e => by
  by_cases n : c ∈ S
  · rw [show del H S c = none from if_pos n] at e
    cases e
  · rw [del_ne n] at e ⊢
    exact b _ _ e
theorem Df.same {v : V} {d : PyData} (b : Same H H') (h : Df K S H v d) : Df K S H' v d := dp_up (del_up b) _ _ h
theorem sqT_del {a : Addr} {xs : List V} (hL : LS H S) (h : SqT K H a xs) : SqT K (del H S) a xs := by
  rcases h with (h | ⟨o, h⟩) | h
  · have ne : a ∉ S := fun z => by
      obtain ⟨ys, e⟩ := hL a z
      rw [e] at h
      cases h
    exact .inl (.inl (by rw [del_ne ne]; exact h))
  · have ne : a ∉ S := fun z => by
      obtain ⟨ys, e⟩ := hL a z
      rw [e] at h
      cases h
    exact .inl (.inr ⟨o, by rw [del_ne ne]; exact h⟩)
  · exact .inr h
def DfAll (K : PySem.W.Frag) (S : List Addr) (H : Hp) (vs : List V) (ds : List PyData) : Prop := DpAll K (del H S) vs ds
theorem df_tup {a : Addr} {xs : List V} {ds : List PyData} (hL : LS H S) (h : SqT K H a xs) (g : DfAll K S H xs ds) : Df K S H (.ref a) (.tuple ds) := .tup (sqT_del hL h) g
theorem df_lst {a : Addr} {xs : List V} {ds : List PyData} (n : a ∉ S) (h : H a = some (.lst xs)) (g : DfAll K S H xs ds) : Df K S H (.ref a) (.list ds) := .lst (.inl (.inl (by rw [del_ne n]; exact h))) g
theorem DfAll.but {vs : List V} {ds : List PyData} (pS : p ∈ S) (b : But p H H') (h : DfAll K S H vs ds) : DfAll K S H' vs ds := dps_up (del_but pS b) _ _ h
theorem dps_app : ∀ {vs ws : List V} {ds es : List PyData}, DpAll K H vs ds → DpAll K H ws es → DpAll K H (vs ++ ws) (ds ++ es)
  | _, _, _, _, .nil, h => h
  | _, _, _, _, .cons a b, h => .cons a (dps_app b h)
theorem dps_take : ∀ (k : Nat) {vs : List V} {ds : List PyData}, DpAll K H vs ds → DpAll K H (vs.take k) (ds.take k)
  | 0, _, _, _ => .nil
  | k + 1, _, _, .nil => .nil
  | k + 1, _, _, .cons a b => .cons a (dps_take k b)
theorem dps_drop : ∀ (k : Nat) {vs : List V} {ds : List PyData}, DpAll K H vs ds → DpAll K H (vs.drop k) (ds.drop k)
  | 0, _, _, h => h
  | k + 1, _, _, .nil => .nil
  | k + 1, _, _, .cons a b => dps_drop k b
theorem dps_rev : ∀ {vs : List V} {ds : List PyData}, DpAll K H vs ds → DpAll K H vs.reverse ds.reverse
  | _, _, .nil => .nil
  | _, _, .cons a b => by
    rw [List.reverse_cons, List.reverse_cons]
    exact dps_app (dps_rev b) (.cons a .nil)
theorem dps_get : ∀ {vs : List V} {ds : List PyData} {i : Nat} {v : V}, DpAll K H vs ds → vs[i]? = some v → ∃ d, ds[i]? = some d ∧ Dp K H v d
  | _, _, _, _, .nil, h => by simp at h
  | _, _, 0, _, .cons a _, h => ⟨_, rfl, (Option.some.inj h) ▸ a⟩
  | _, _, i + 1, _, .cons _ t, h => dps_get (i := i) t (by simpa using h)
end
/-! ### how great -/
def Atm : PyData → Prop
  | .none | .bool _ => True
  | .int i => i.natAbs < 10 ^ 62
  | .str z => NmOk z ∧ z.length ≤ 8
  | _ => False
def Gd (b : Nat) : Nat → PyData → Prop
  | 0, d => Atm d
  | n + 1, d => Atm d ∨ ∃ ds, (d = .tuple ds ∨ d = .list ds) ∧ ds.length ≤ b ∧ ∀ x ∈ ds, Gd b n x
theorem Gd.atm {b : Nat} {d : PyData} (h : Atm d) : ∀ n, Gd b n d
  | 0 => h
  | _ + 1 => .inl h
theorem Gd.mono {b c : Nat} (l : b ≤ c) : ∀ {n k : Nat} {d : PyData}, n ≤ k → Gd b n d → Gd c k d
  | 0, k, d, _, h => .atm h k
  | n + 1, 0, d, hk, _ => absurd hk (Nat.not_succ_le_zero n)
  | n + 1, k + 1, d, hk, .inl h => .inl h
  | n + 1, k + 1, d, hk, .inr ⟨ds, e, len, all⟩ => .inr ⟨ds, e, Nat.le_trans len l, fun x hx => Gd.mono l (Nat.le_of_succ_le_succ hk) (all x hx)⟩
theorem Gd.tup {b n : Nat} {ds : List PyData} (len : ds.length ≤ b) (all : ∀ x ∈ ds, Gd b n x) : Gd b (n + 1) (.tuple ds) := .inr ⟨ds, .inl rfl, len, all⟩
theorem Gd.lst {b n : Nat} {ds : List PyData} (len : ds.length ≤ b) (all : ∀ x ∈ ds, Gd b n x) : Gd b (n + 1) (.list ds) := .inr ⟨ds, .inr rfl, len, all⟩
theorem Gd.untup {b n : Nat} {ds : List PyData} (h : Gd b n (.tuple ds)) : ∃ k, n = k + 1 ∧ ds.length ≤ b ∧ ∀ x ∈ ds, Gd b k x := by
  cases n with
  | zero => exact h.elim
  | succ k =>
    rcases h with h | ⟨es, e | e, len, all⟩
    · exact h.elim
    · injection e with e
      subst e
      exact ⟨k, rfl, len, all⟩
    · cases e
/-- how long the text of one is at most -/
def LL (b : Nat) : Nat → Nat
  | 0 => 90
  | n + 1 => b * LL b n + 2 * b + 90
theorem LL_ge (b : Nat) : ∀ n, 90 ≤ LL b n
  | 0 => Nat.le_refl 90
  | n + 1 => Nat.le_add_left 90 _
structure Fit (d : PyData) (n m : Nat) : Prop where
  lay : d.canLay0 = true
  show_ : d.showable = true
  dict : d.hasDict = false
  deep : d.depth ≤ n
  len : d.shown.length ≤ m
theorem fit_all {n m : Nat} : ∀ ds : List PyData, (∀ x ∈ ds, Fit x n m) → PyData.canLayAll0 ds = true ∧ PyData.showableAll ds = true ∧ PyData.hasDictAll ds = false ∧ PyData.depthAll ds ≤ n ∧ ((PyData.shownAll ds).map (·.length)).sum ≤ ds.length * m ∧ (PyData.shownAll ds).length = ds.length
  | [], _ => ⟨rfl, rfl, rfl, Nat.zero_le _, Nat.zero_le _, rfl⟩
  | d :: ds, h => by
    obtain ⟨a1, a2, a3, a4, a5, a6⟩ := fit_all ds fun x hx => h x (List.mem_cons_of_mem _ hx)
    obtain ⟨b1, b2, b3, b4, b5⟩ := h d List.mem_cons_self
    refine ⟨?_, ?_, ?_, ?_, ?_, ?_⟩
    · show (d.canLay0 && PyData.canLayAll0 ds) = true
      rw [b1, a1]
      rfl
    · show (d.showable && PyData.showableAll ds) = true
      rw [b2, a2]
      rfl
    · show (d.hasDict || PyData.hasDictAll ds) = false
      rw [b3, a3]
      rfl
    · show max d.depth (PyData.depthAll ds) ≤ n
      omega
    · show d.shown.length + ((PyData.shownAll ds).map (·.length)).sum ≤ (ds.length + 1) * m
      rw [Nat.succ_mul]
      omega
    · show (PyData.shownAll ds).length + 1 = ds.length + 1
      rw [a6]
theorem fit_atm {d : PyData} (h : Atm d) : Fit d 0 90 := by
  cases d with
  | none => exact ⟨rfl, rfl, rfl, Nat.le_refl 0, by decide +kernel⟩
  | bool b => exact ⟨rfl, rfl, rfl, Nat.le_refl 0, by cases b <;> decide +kernel⟩
  | int i =>
    refine ⟨rfl, decide_eq_true ?_, rfl, Nat.le_refl 0, ?_⟩
    · by_cases z : i.natAbs = 0
      · rw [z]
        decide
      · refine (Nat.log2_lt z).2 ?_
        exact Nat.lt_of_lt_of_le h (Nat.le_trans (show 10 ^ 62 ≤ 2 ^ 208 by decide) (Nat.pow_le_pow_right (by decide) (by decide)))
    · have e := int_text_length_le10 (k := 62) (by decide) h
      show (Str.ofString (toString i)).length ≤ 90
      rw [PySem.ofString_length]
      exact Nat.le_trans e (by decide)
  | str z =>
    obtain ⟨h1, h2⟩ := h
    refine ⟨h1, rfl, rfl, Nat.le_refl 0, ?_⟩
    have all : ∀ c ∈ z.cps.toList, c < 16 ^ 8 := fun c hc => by
      have q := (Array.all_eq_true_iff_forall_mem.mp h1) c (Array.mem_toList_iff.mp hc)
      have q2 : c < 0x110000 := by simpa using q
      exact Nat.lt_of_lt_of_le q2 (by decide)
    have y := StrLaws.reprText_len z all
    have e : (PyData.shown (.str z)).length = (reprText z).length := rfl
    rw [e]
    omega
  | list _ => exact h.elim
  | tuple _ => exact h.elim
  | dict _ => exact h.elim
theorem Fit.mono {d : PyData} {n m n2 m2 : Nat} (h : Fit d n m) (a : n ≤ n2) (b : m ≤ m2) : Fit d n2 m2 := ⟨h.lay, h.show_, h.dict, Nat.le_trans h.deep a, Nat.le_trans h.len b⟩
theorem fit_gd {b : Nat} : ∀ {n : Nat} {d : PyData}, Gd b n d → Fit d n (LL b n)
  | 0, d, h => fit_atm h
  | n + 1, d, .inl h => (fit_atm h).mono (Nat.zero_le _) (LL_ge b _)
  | n + 1, d, .inr ⟨ds, e, len, all⟩ => by
    obtain ⟨a1, a2, a3, a4, a5, a6⟩ := fit_all ds fun x hx => fit_gd (all x hx)
    have l1 := listText_len_le (PyData.shownAll ds)
    have l2 := tupleText_len_le (PyData.shownAll ds)
    have l3 : ds.length * LL b n ≤ b * LL b n := Nat.mul_le_mul_right _ len
    have e9 : LL b (n + 1) = b * LL b n + 2 * b + 90 := rfl
    rcases e with e | e
    · subst e
      refine ⟨a1, a2, a3, Nat.succ_le_succ a4, ?_⟩
      show (tupleText (PyData.shownAll ds)).length ≤ _
      omega
    · subst e
      refine ⟨a1, a2, a3, Nat.succ_le_succ a4, ?_⟩
      show (listText (PyData.shownAll ds)).length ≤ _
      omega
theorem gd_shaped {b n : Nat} {d : PyData} (h : Gd b n d) (l : n ≤ 64) : SeqAt.shaped d = true := by
  have f := fit_gd h
  show (d.canLay0 && decide (d.depth ≤ 64)) = true
  rw [f.lay, decide_eq_true (Nat.le_trans f.deep l)]
  rfl
end Kf
set_option Elab.async false
set_option linter.all false
set_option maxRecDepth 100000
set_option maxHeartbeats 4000000
set_option pp.maxSteps 800
/-! k21: the dice's pick; sayings by their rows. -/
namespace Kf
open PySem PySem.Spec PyProof.Rows L2 Sx
section
variable {P : Program} {w : World} {K : PySem.W.Frag} {mg : Str → Option Value} {base : Heap}
def spPick (K : PySem.W.Frag) : Sp := fun vs H Q _ => ∃ (p l L : Addr) (xs : List V) (m : Int), vs = [.ref p, .ref l] ∧ SqL K H l xs ∧ l ≠ p ∧ 0 < xs.length ∧ xs.length ≤ 1000 ∧ m < 2 ^ 50 ∧ DiceAt H p L m ∧
  ∀ x ∈ xs, ∀ H', But p H H' → DiceAt H' p L (m + 1) → Q x H'
theorem seq_but {p l : Addr} {H H' : Hp} {xs : List V} (n : l ≠ p) (b : But p H H') (h : SqL K H l xs) : SqL K H' l xs := by
  rcases h with (h | ⟨o, h⟩) | h
  · exact .inl (.inl (b _ _ n h))
  · exact .inl (.inr ⟨o, b _ _ n h⟩)
  · exact .inr h
theorem ok_pick {f g : Addr} {fd gd : FuncData} {j : Nat} (F : Fun K "_law_pick" "_law_pick" sPick f fd) (G : FnOk P w K mg base CX0 (j + 1) g gd ["dice", "size"] spRoll) (bG : Binds K gd ["dice", "size"] []) (kG : PySem.W.keepIn K (.ref g) = true) (mG : mg "_law_roll" = some (.ref g)) (ml : mg "len" = none) :
    FnOk P w K mg base CX0 (j + 2) f fd ["dice", "some"] (spPick K) := by
  refine F.ok scPick (fun vs H Q E h => ?_) (fun cdv A outer s H vs Q E hr h => ?_)
  · obtain ⟨p, l, L, xs, m, rfl, _⟩ := h
    rfl
  obtain ⟨p, l, L, xs, m, rfl, hs, nl, l0, l1, mm, hD, q⟩ := h
  refine ⟨_, pss_one (ps_ret (pe_ix ix_list (pv 1) (pe_call G hr (by rfl) mG kG bG .nil pass0 (pa_cons (pv 0) (pa_cons (pe_callB call_len_seq (by rfl) ml PySem.boot_len (pa_cons (pv 1) pa_nil)) pa_nil))) (fun _ _ => rfl))), ?_⟩
  refine ⟨_, rfl, _, rfl, _, rfl, l, xs, rfl, .inl hs, p, L, ((xs.length : Nat) : Int), m, rfl, by omega, Nat.lt_of_le_of_lt (by rw [Int.natAbs_natCast]; exact l1) (by decide), mm, hD, fun r H' r0 r1 b hD' => ?_⟩
  obtain ⟨x, mem, e⟩ := atI_in r0 r1
  exact ⟨l, xs, r, x, rfl, rfl, seq_but nl b hs, e, q x mem H' b hD'⟩
/-! ### the dice, with all that the draws want -/
structure Draw (P : Program) (w : World) (K : PySem.W.Frag) (mg : Str → Option Value) (base : Heap) (fr fp : Addr) (dr dp : FuncData) : Prop where
  R : FnOk P w K mg base CX0 1 fr dr ["dice", "size"] spRoll
  bR : Binds K dr ["dice", "size"] []
  kR : PySem.W.keepIn K (.ref fr) = true
  mR : mg "_law_roll" = some (.ref fr)
  Pk : FnOk P w K mg base CX0 2 fp dp ["dice", "some"] (spPick K)
  bP : Binds K dp ["dice", "some"] []
  kP : PySem.W.keepIn K (.ref fp) = true
  mP : mg "_law_pick" = some (.ref fp)
theorem Int.one_le_two_pow_ : ∀ d : Nat, (1 : Int) ≤ 2 ^ d
  | 0 => by decide
  | d + 1 => by
    rw [Int.pow_succ]
    have := Int.one_le_two_pow_ d
    omega
theorem join {C G : Hp → Prop} {M : Prop} (main : (∀ H, C H → G H) → M) (rest : ∀ H, C H → G H) : M := main rest
theorem df3 {Z : List Addr} {H : Hp} {q : Addr} {z : Str} {x y : V} {a b : PyData} (hL : LS H Z) (e : H q = some (.tup [.str z, x, y])) (ha : Df K Z H x a) (hb : Df K Z H y b) : Df K Z H (.ref q) (.tuple [.str z, a, b]) := df_tup hL (.inl (.inl e)) (.cons (.str z) (.cons ha (.cons hb .nil)))
theorem df1 {Z : List Addr} {H : Hp} {q : Addr} {z : Str} (hL : LS H Z) (e : H q = some (.tup [.str z])) : Df K Z H (.ref q) (.tuple [.str z]) := df_tup hL (.inl (.inl e)) (.cons (.str z) .nil)
theorem LS.same {H H' : Hp} {S : List Addr} (h : LS H S) (b : Same H H') : LS H' S := fun a ha => by
  obtain ⟨xs, e⟩ := h a ha
  exact ⟨xs, b _ _ e⟩
end
theorem eqW {wd k : Str} {A B : Prop} (y : wd = k → A) (n : wd ≠ k → B) : if decide (V.str wd = V.str k) = true then A else B :=
  ite2 (fun c => y (by have q := of_decide_eq_true c; injection q)) (fun c => n (fun e => c (by rw [e]; exact decide_eq_true rfl)))
/-! ### what the law makes -/
abbrev kT : Str := "term"
abbrev kS : Str := "saying"
def table : List (Str × Str × List Str) := [("next", kT, [kT]), ("plus", kT, [kT, kT]), ("times", kT, [kT, kT]), ("same", kS, [kT, kT]), ("no", kS, []), ("and", kS, [kS, kS]), ("or", kS, [kS, kS]), ("if", kS, [kS, kS]), ("all", kS, [kS]), ("some", kS, [kS])]
theorem table_leafy : ∀ e ∈ table, leafy e.1 = false := by decide +kernel
theorem table_nm : ∀ e ∈ table, NmOk e.1 ∧ e.1.length ≤ 8 := by decide +kernel
def LeafW (w : Str) (x : V) : Prop := ((w = "num" ∨ w = "bound") ∧ ∃ n : Int, x = .int n ∧ 0 ≤ n ∧ n < 10 ^ 60) ∨ (w = "name" ∧ ∃ z, x = .str z ∧ NmOk z ∧ z.length ≤ 8)
def Tr.Wf : Str → Tr → Prop
  | k, .leaf w x => k = kT ∧ LeafW w x
  | k, .n0 w => (w, k, []) ∈ table
  | k, .n1 w a => ∃ k1, (w, k, [k1]) ∈ table ∧ a.Wf k1
  | k, .n2 w a b => ∃ k1 k2, (w, k, [k1, k2]) ∈ table ∧ a.Wf k1 ∧ b.Wf k2
theorem wf_ok : ∀ {t : Tr} {k : Str}, t.Wf k → t.Ok
  | .leaf w x, k, h => by
    rcases h.2 with ⟨e, n, ex, _⟩ | ⟨e, z, ex, _⟩
    · subst ex
      rcases e with e | e <;> subst e <;> exact ⟨by decide +kernel, .inl ⟨⟨n, rfl⟩, by decide +kernel⟩⟩
    · subst e ex
      exact ⟨by decide +kernel, .inr ⟨⟨_, rfl⟩, rfl⟩⟩
  | .n0 w, k, h => table_leafy _ h
  | .n1 w a, k, ⟨k1, h, ha⟩ => ⟨table_leafy _ h, wf_ok ha⟩
  | .n2 w a b, k, ⟨k1, k2, h, ha, hb⟩ => ⟨table_leafy _ h, wf_ok ha, wf_ok hb⟩
/-- an inner piece's row in the table, its parts by their kinds -/
theorem wf_row {t : Tr} {k : Str} (h : t.Wf k) (nl : leafy t.word = false) : ∃ ks, (t.word, k, ks) ∈ table ∧ All2 (fun a k1 => Tr.Wf k1 a) t.kids ks := by
  cases t with
  | leaf w x => exact (no_leaf nl (wf_ok (t := .leaf w x) h).1).elim
  | n0 w => exact ⟨[], h, .nil⟩
  | n1 w a =>
    obtain ⟨k1, h1, ha⟩ := h
    exact ⟨[k1], h1, .one ha⟩
  | n2 w a b =>
    obtain ⟨k1, k2, h1, ha, hb⟩ := h
    exact ⟨[k1, k2], h1, .cons ha (.one hb)⟩
theorem no_row : (("no", kS, []) : Str × Str × List Str) ∈ table := by decide +kernel
theorem same_row : (("same", kS, [kT, kT]) : Str × Str × List Str) ∈ table := by decide +kernel
end Kf
set_option Elab.async false
set_option linter.all false
set_option maxRecDepth 100000
set_option maxHeartbeats 4000000
set_option pp.maxSteps 800
/-! k21: sayings_of. -/
namespace Kf
open PySem PySem.Spec PyProof.Rows L2 Sx RZ
/-! ### a comprehension over zip of two tuples -/
theorem lc_zipT {K : PySem.W.Frag} {a b : Addr} {xs ys : List V} {g : TG} {tt : TT} {te : TE} {vs : List Nat} {σ : L2.St} {H1 : Hp} {D : Addr} {Qd : Hp → Prop} (hl : xs.length = ys.length) (Pv : Nat → Hp → Prop) (h0 : Pv 0 (upd H1 D (.lst []))) (hq : ∀ i H, Pv i H → SqT K H a xs ∧ SqT K H b ys)
    (hs : ∀ i x y T H, xs[i]? = some x → ys[i]? = some y → Pv i H → H T = none → g (.ref T) (wipe σ vs) (upd H T (.tup [x, y])) fun σ2 H2 => wipe σ2 vs = wipe σ vs ∧ tt σ2 H2 fun b H3 =>
      if b = true then te σ2 H3 fun y H4 => ∃ acc, H4 D = some (.lst acc) ∧ acc.length < sizeLine ∧ Pv (i + 1) (upd H4 D (.lst (acc ++ [y]))) else Pv (i + 1) H3) (hd : ∀ H, Pv xs.length H → Qd H) :
    ∃ W : Nat → Nat → Hp → Prop, (∃ m, W 0 m (upd H1 D (.lst []))) ∧ ∀ i m H, W i m H →
      ((ItzT K a b).stop i H ∧ Qd H) ∨ ((ItzT K a b).go i H ∧ ∃ Nx : Hp → Prop, (∀ H', Nx H' → ∃ m', m' < m ∧ W (i + 1) m' H') ∧ ∀ x H', (ItzT K a b).yld i H x H' → g x (wipe σ vs) H' fun σ2 H2 => wipe σ2 vs = wipe σ vs ∧ tt σ2 H2 fun b H3 =>
        if b = true then te σ2 H3 fun y H4 => ∃ acc, H4 D = some (.lst acc) ∧ acc.length < sizeLine ∧ Nx (upd H4 D (.lst (acc ++ [y]))) else Nx H3) := by
  refine ⟨fun i m H => m = xs.length - i ∧ i ≤ xs.length ∧ Pv i H, ⟨xs.length, by simp, Nat.zero_le _, h0⟩, ?_⟩
  rintro i m H ⟨rfl, hi, p⟩
  obtain ⟨q1, q2⟩ := hq i H p
  by_cases lt : i < xs.length
  · have lt2 : i < ys.length := by omega
    refine .inr ⟨⟨xs, ys, xs[i], ys[i], q1, q2, List.getElem?_eq_getElem lt, List.getElem?_eq_getElem lt2⟩, Pv (i + 1), fun H' p' => ⟨xs.length - (i + 1), by omega, rfl, lt, p'⟩, fun x H' y => ?_⟩
    obtain ⟨T, x1, y1, rfl, nT, rfl, e1, e2⟩ := y
    exact hs i x1 y1 T H (e1 xs q1) (e2 ys q2) p nT
  · exact .inl ⟨⟨xs, ys, q1, q2, .inl (by omega)⟩, hd H (by rw [show xs.length = i by omega]; exact p)⟩
def Tr.says : Tr → List Tr
  | .leaf _ _ => []
  | .n0 _ => []
  | .n1 _ a => [a]
  | .n2 w a b => if w = "same" then [] else [a, b]
/-- rows of sayings -/
theorem row0 : ∀ e ∈ table, e.2.1 = kS → e.2.2 = [] → e.1 = "no" := by decide +kernel
theorem row1 : ∀ e ∈ table, e.2.1 = kS → ∀ k ∈ ([kS, kT] : List Str), e.2.2 = [k] → k = kS ∧ (e.1 = "all" ∨ e.1 = "some") := by decide +kernel
theorem row2 : ∀ e ∈ table, e.2.1 = kS → e.2.2.length = 2 → (e.1 = "same" ∧ e.2.2 = [kT, kT]) ∨ ((e.1 = "and" ∨ e.1 = "or" ∨ e.1 = "if") ∧ e.2.2 = [kS, kS]) := by decide +kernel
theorem rowk : ∀ e ∈ table, ∀ k ∈ e.2.2, k ∈ ([kS, kT] : List Str) := by decide +kernel
theorem wf_one {w : Str} {a : Tr} (h : (Tr.n1 w a).Wf kS) : (w = "all" ∨ w = "some") ∧ a.Wf kS ∧ (w, kS, [kS]) ∈ table := by
  obtain ⟨k1, hr, ha⟩ := h
  obtain ⟨e, z⟩ := row1 _ hr rfl k1 (rowk _ hr k1 List.mem_cons_self) rfl
  subst e
  exact ⟨z, ha, hr⟩
theorem wf_two {w : Str} {a b : Tr} (h : (Tr.n2 w a b).Wf kS) : (w = "same" ∧ a.Wf kT ∧ b.Wf kT) ∨ (w ≠ "same" ∧ (w = "and" ∨ w = "or" ∨ w = "if") ∧ a.Wf kS ∧ b.Wf kS ∧ (w, kS, [kS, kS]) ∈ table) := by
  obtain ⟨k1, k2, hr, ha, hb⟩ := h
  rcases row2 _ hr rfl rfl with ⟨e, z⟩ | ⟨e, z⟩
  · have z2 : [k1, k2] = [kT, kT] := z
    injection z2 with z3 z4
    injection z4 with z4
    subst z3 z4
    exact .inl ⟨e, ha, hb⟩
  · have z2 : [k1, k2] = [kS, kS] := z
    injection z2 with z3 z4
    injection z4 with z4
    subst z3 z4
    have e : w = "and" ∨ w = "or" ∨ w = "if" := e
    refine .inr ⟨fun q => ?_, e, ha, hb, hr⟩
    subst q
    exact absurd e (by decide +kernel)
theorem wf_says {t : Tr} (h : t.Wf kS) : ∀ a ∈ t.says, a.Wf kS := by
  cases t with
  | leaf w x => intro a z; cases z
  | n0 w => intro a z; cases z
  | n1 w b =>
    intro a z
    rw [List.mem_singleton.mp z]
    exact (wf_one h).2.1
  | n2 w b c =>
    intro a z
    have z : a ∈ (if w = "same" then [] else [b, c]) := z
    split at z
    · cases z
    · rename_i ne
      rcases wf_two h with ⟨e, _⟩ | ⟨_, _, h1, h2, _⟩
      · exact absurd e ne
      · rcases List.mem_cons.mp z with z | z
        · rw [z]
          exact h1
        · rw [List.mem_singleton.mp z]
          exact h2
def keepS (ts : List Tr) (ks : List Str) (i : Nat) : List Tr := (((ts.zip ks).take i).filter fun p => decide (p.2 = kS)).map (·.1)
theorem keep_says {t : Tr} (h : t.Wf kS) (nl : leafy t.word = false) : ∃ ks, (t.word, kS, ks) ∈ table ∧ t.kids.length = ks.length ∧ keepS t.kids ks t.kids.length = t.says := by
  cases t with
  | leaf w x => exact (no_leaf nl (wf_ok (t := .leaf w x) h).1).elim
  | n0 w => exact ⟨[], h, rfl, rfl⟩
  | n1 w a => exact ⟨[kS], (wf_one h).2.2, rfl, rfl⟩
  | n2 w a b =>
    rcases wf_two h with ⟨e, _⟩ | ⟨ne, _, _, _, hr⟩
    · subst e
      exact ⟨[kT, kT], same_row, rfl, rfl⟩
    · refine ⟨[kS, kS], hr, rfl, ?_⟩
      show [a, b] = if w = "same" then [] else [a, b]
      rw [if_neg ne]
theorem keep_next {ts : List Tr} {ks : List Str} {i : Nat} {t : Tr} {k : Str} (ht : ts[i]? = some t) (hk : ks[i]? = some k) : keepS ts ks (i + 1) = keepS ts ks i ++ (if k = kS then [t] else []) := by
  have hz : (ts.zip ks)[i]? = some (t, k) := List.getElem?_zip_eq_some.mpr ⟨ht, hk⟩
  unfold keepS
  rw [List.take_add_one, hz]
  by_cases c : k = kS
  · simp [c]
  · simp [c]
abbrev sOf : Stmt := top 11
abbrev ofN : List Str := ["saying", "part", "what"]
theorem scOf : FnScope ofN ["saying"] (defScope sOf) := ⟨rfl, rfl, rfl, by decide +kernel, rfl, by decide +kernel, by decide +kernel⟩
structure Txt (K : PySem.W.Frag) (w : World) (mg : Str → Option Value) (F : Addr) : Prop where
  mF : mg "FORMS" = some (.ref F)
  dict : ∃ es n, KDict K w F es n
  form : ∀ wd k ks, (wd, k, ks) ∈ table → ∃ fa fb, PySem.W.nsIn K F wd = some (some (.ref fa)) ∧ (∀ H, SqT K H fa [.str k, .ref fb]) ∧ ∀ H, SqT K H fb (ks.map V.str)
  zZip : mg "zip" = none
theorem cut_one (x : V) (r : List V) : cutV (x :: r) (some 1) none = r := by
  unfold cutV
  have e1 : HT.sIx (x :: r).length 0 (some 1) = 1 := by
    rw [show HT.sIx (x :: r).length 0 (some 1) = min 1 (x :: r).length from HT.sIx_nat _ 0 1, List.length_cons]
    omega
  rw [e1, HT.sIx_none]
  show List.take ((x :: r).length - 1) r = r
  rw [List.length_cons, Nat.add_sub_cancel]
  exact List.take_length
theorem cut_not (x : V) (r : List V) : ¬ (HT.sIx (x :: r).length 0 (some 1) = 0 ∧ HT.sIx (x :: r).length (x :: r).length none = (x :: r).length) := by
  intro h
  have e1 : HT.sIx (x :: r).length 0 (some 1) = 1 := by
    rw [show HT.sIx (x :: r).length 0 (some 1) = min 1 (x :: r).length from HT.sIx_nat _ 0 1, List.length_cons]
    omega
  rw [e1] at h
  exact absurd h.1 (by decide)
theorem same_up {H H1 : Hp} {D : Addr} {o : HO} (s : Same H H1) (n : H D = none) : Same H (upd H1 D o) := fun b u e => by
  rw [upd_ne (ne_of_none e n)]
  exact s _ _ e
theorem line_of {n : Nat} (h : n ≤ 8192) : n < sizeLine := Nat.lt_of_le_of_lt h (by decide)
section
variable {P : Program} {w : World} {K : PySem.W.Frag} {mg : Str → Option Value} {base : Heap} {FV : Addr}
/-! ### sayings_of -/
def spOf : Sp := fun vs H Q _ => ∃ (v : V) (t : Tr), vs = [v] ∧ At H t v ∧ t.Wf kS ∧ ∀ (p : Addr) (H' : Hp) (ws : List V), Same H H' → H p = none → H' p = some (.lst ws) → All2 (At H') t.says ws → Q (.ref p) H'
theorem nleaf {t : Tr} (h : t.Wf kS) : leafy t.word = false := by
  cases t with
  | leaf w x => exact absurd h.1 (by decide +kernel)
  | n0 w => exact table_leafy _ h
  | n1 w a => exact table_leafy _ (wf_one h).2.2
  | n2 w a b => exact (wf_ok h).1
theorem ok_of {f : Addr} {fd : FuncData} {j : Nat} (F : Fun K "sayings_of" "sayings_of" sOf f fd) (T : Txt K w mg FV) : FnOk P w K mg base CX0 (j + 1) f fd ["saying"] spOf := by
  obtain ⟨es, n, D⟩ := T.dict
  refine F.ok scOf (fun vs H Q E h => ?_) (fun cdv A outer s H vs Q E hr h => ?_)
  · obtain ⟨v, t, rfl, _⟩ := h
    rfl
  obtain ⟨v, t, rfl, hA, hW, q⟩ := h
  refine ⟨_, pss_one (ps_ret (pe_lc (own := [("part", 1), ("what", 2)]) (g := gTup K 2 (gCons (gName 1) (gCons (gName 2) gNil))) (tt := _) rfl scOf.nd
    (pi_zipA (by rfl) T.zZip (pa_cons (pe_slice sl_tup (pv 0) (po_some pe_int) po_none) (pa_cons (pe_ix ix_tup (pe_ix ix_kdict (pe_glob (v := .ref FV) (by rfl) T.mF rfl) (pe_ix ix_tup (pv 0) pe_int (fun _ _ => rfl)) (fun _ _ => rfl)) pe_int (fun _ _ => rfl)) pa_nil)))
    (blkOk_by (N := ofN) (sc := defScope sOf) (by decide +kernel)) (fun _ _ _ _ _ => pg_tup (by rfl) (pgs_cons (pg_name (i := 1) scOf.nd rfl (Or.inl rfl)) (pgs_cons (pg_name (i := 2) scOf.nd rfl (Or.inl rfl)) pgs_nil)))
    (fun _ _ _ _ _ => pts_one (pt_cmpR op_eq (pv 2) pe_str (nomark _))) (fun _ _ _ _ _ => pv 1))), ?_⟩
  have hO := wf_ok hW
  have nl := nleaf hW
  obtain ⟨p1, us, rfl, hp1, lus, kids, leafs⟩ := hA.view hO
  have kd := kids nl
  obtain ⟨ks, hrow, hlen, hks⟩ := keep_says hW nl
  obtain ⟨fa, fb, n1, sa, sb⟩ := T.form _ _ _ hrow
  have lenU : us.length = (ks.map V.str).length := by
    rw [List.length_map, ← hlen]
    exact kd.len.symm
  refine ⟨_, rfl, 1, rfl, p1, _, rfl, .inl (.inl hp1), cut_not _ _, fun c nc => ?_⟩
  rw [cut_one]
  have s1 : Same H (upd H c (.tup us)) := same_new nc
  refine ⟨_, rfl, p1, _, 0, _, rfl, rfl, .inl (.inl (s1 _ _ hp1)), head_at _ _, FV, _, .ref fa, rfl, rfl, ⟨es, n, _, D.at_, D.lit, n1, rfl⟩, fa, _, 1, .ref fb, rfl, rfl, sa _, atI_nat (j := 1) rfl, ?_⟩
  refine ⟨c, fb, us, ks.map V.str, rfl, .inr ⟨.inl (.inl upd_same), sb _, fun D nD => ?_⟩⟩
  generalize hHc : upd H c (.tup us) = Hc at s1 nD
  have hc : Hc c = some (.tup us) := by rw [← hHc, upd_same]
  refine lc_zipT (K := K) (xs := us) (ys := ks.map V.str) lenU (fun i H' => ∃ acc : List V, H' D = some (.lst acc) ∧ Same Hc H' ∧ All2 (At H') (keepS t.kids ks i) acc)
    ⟨[], upd_same, same_new nD, .nil⟩ (fun i H' ⟨_, _, sm, _⟩ => ⟨.inl (.inl (sm _ _ hc)), sb _⟩) ?_ ?_
  · rintro i x y T2 H' hx hy ⟨acc, hD, sm, all⟩ nT
    obtain ⟨tk, htk, hax⟩ := kd.get hx
    rw [List.getElem?_map] at hy
    obtain ⟨kk, hkk, rfl⟩ := Option.map_eq_some_iff.mp hy
    have sT : Same H' (upd H' T2 (.tup [x, .str kk])) := same_new nT
    refine ⟨T2, [x, .str kk], rfl, .inl (.inl upd_same), rfl, x, [.str kk], rfl, .str kk, [], rfl, rfl, rfl, ?_⟩
    have all2 := all.mono fun a v h => h.keep (tups_same sT)
    refine ⟨_, rfl, rfl, _, rfl, ?_⟩
    have nx := keep_next htk hkk
    refine eqW (fun e => ?_) (fun ne => ?_)
    · rw [if_pos e] at nx
      have la := all.len
      have lk : (keepS t.kids ks i).length ≤ 2 := by
        unfold keepS
        rw [List.length_map]
        refine Nat.le_trans (List.length_filter_le _ _) (Nat.le_trans (List.length_take_le' _ _) ?_)
        rw [List.length_zip, kd.len]
        omega
      refine ⟨_, rfl, acc, sT _ _ hD, line_of (by omega), acc ++ [x], upd_same, same_up (sm.trans sT) nD, ?_⟩
      rw [nx]
      have k2 : Tups (upd H' T2 (.tup [x, .str kk])) (upd (upd H' T2 (.tup [x, .str kk])) D (.lst (acc ++ [x]))) := tups_put fun xs z => by
        rw [sT _ _ hD] at z
        cases z
      exact (all2.mono fun a v h => h.keep k2).app (.one ((((hax.keep (tups_same s1)).keep (tups_same sm)).keep (tups_same sT)).keep k2))
    · rw [if_neg ne, List.append_nil] at nx
      refine ⟨acc, sT _ _ hD, sm.trans sT, ?_⟩
      rw [nx]
      exact all2
  · rintro H' ⟨acc, hD, sm, all⟩
    rw [← kd.len, hks] at all
    exact q D H' acc (s1.trans sm) (s1.free nD) hD all
end
end Kf
set_option Elab.async false
set_option linter.all false
set_option maxRecDepth 100000
set_option maxHeartbeats 4000000
set_option pp.maxSteps 800
/-! k21: the kind of a saying, as data. -/
namespace Kf
open PySem PySem.Spec PyProof.Rows L2 Sx
def pairD (l r : PyData) : PyData := if PyData.eqv l none1 = true then r else if PyData.eqv r none1 = true then l else .tuple [.str "pair", l, r]
def fromD (l r : PyData) : PyData := if (PyData.eqv l none1 || (PyData.eqv r none1 || false)) = true then r else .tuple [.str "from", l, r]
def eitherD (l r : PyData) : PyData := .tuple [.str "either", l, r]
def joinD (w : Str) (l r : PyData) : PyData := if w = "and" then pairD l r else if w = "or" then eitherD l r else fromD l r
def oneD (w : Str) (r : PyData) : PyData := if w = "all" then fromD num1 r else pairD num1 r
def kd : Tr → PyData
  | .leaf _ _ => none1
  | .n0 _ => none1
  | .n1 w a => oneD w (kd a)
  | .n2 w a b => if w = "same" then none1 else joinD w (kd a) (kd b)
/-- a kind: pure, right by the look, not deep, not great -/
structure Kx (d : PyData) (n m : Nat) : Prop where
  pur : pur d = true
  kn : kn d = true
  lay : d.canLay0 = true
  show_ : d.showable = true
  dict : d.hasDict = false
  deep : d.depth ≤ n
  sz : psz d ≤ m
  len : d.shown.length ≤ 100 * m
theorem kx_mono {d : PyData} {n m n2 m2 : Nat} (h : Kx d n m) (a : n ≤ n2) (b : m ≤ m2) : Kx d n2 m2 :=
  ⟨h.pur, h.kn, h.lay, h.show_, h.dict, Nat.le_trans h.deep a, Nat.le_trans h.sz b, Nat.le_trans h.len (Nat.mul_le_mul_left _ b)⟩
theorem kx_none : Kx none1 1 2 := ⟨by decide +kernel, by decide +kernel, by decide +kernel, by decide +kernel, by decide +kernel, by decide +kernel, by decide +kernel, by decide +kernel⟩
theorem kx_num : Kx num1 1 2 := ⟨by decide +kernel, by decide +kernel, by decide +kernel, by decide +kernel, by decide +kernel, by decide +kernel, by decide +kernel, by decide +kernel⟩
theorem kx_three {w : Str} {l r : PyData} {n1 m1 n2 m2 : Nat} (hw : w = "pair" ∨ w = "from" ∨ w = "either") (hl : Kx l n1 m1) (hr : Kx r n2 m2) (no : w = "either" ∨ (PyData.eqv l none1 = false ∧ PyData.eqv r none1 = false)) :
    Kx (.tuple [.str w, l, r]) (max n1 n2 + 1) (m1 + m2 + 2) := by
  have sh : (PyData.shown (.str w)).length ≤ 10 := by
    rcases hw with e | e | e <;> rw [e] <;> decide +kernel
  have cw : (PyData.str w).canLay0 = true := by
    rcases hw with e | e | e <;> rw [e] <;> decide +kernel
  have d1 := hl.deep
  have d2 := hr.deep
  have s1 := hl.sz
  have s2 := hr.sz
  have l1 := hl.len
  have l2 := hr.len
  refine ⟨?_, ?_, ?_, ?_, ?_, ?_, ?_, ?_⟩
  · show (true && (pur l && (pur r && true))) = true
    rw [hl.pur, hr.pur]
    rfl
  · rw [show kn (.tuple [.str w, l, r]) = (form (.tuple [.str w, l, r]) && (kn l && kn r)) by rw [kn], hl.kn, hr.kn, Bool.and_self, Bool.and_true]
    have ef : form (.tuple [.str w, l, r]) = ((decide (w = "pair") || (decide (w = "from") || decide (w = "either"))) && (decide (w = "either") || !(PyData.eqv l none1 || (PyData.eqv r none1 || false)))) := rfl
    rw [ef]
    have e1 : (decide (w = "pair") || (decide (w = "from") || decide (w = "either"))) = true := by
      rcases hw with e | e | e
      · simp [e]
      · simp [e]
      · simp [e]
    rw [e1, Bool.true_and]
    rcases no with e | ⟨a, b⟩
    · rw [decide_eq_true e, Bool.true_or]
    · rw [a, b]
      simp
  · show ((PyData.str w).canLay0 && (l.canLay0 && (r.canLay0 && true))) = true
    rw [cw, hl.lay, hr.lay]
    rfl
  · show (true && (l.showable && (r.showable && true))) = true
    rw [hl.show_, hr.show_]
    rfl
  · show (false || (l.hasDict || (r.hasDict || false))) = false
    rw [hl.dict, hr.dict]
    rfl
  · show max 0 (max l.depth (max r.depth 0)) + 1 ≤ max n1 n2 + 1
    omega
  · show 1 + (1 + (psz l + (psz r + 0))) ≤ m1 + m2 + 2
    omega
  · have z := tupleText_len_le (PyData.shownAll [.str w, l, r])
    have e : ((PyData.shownAll [.str w, l, r]).map (·.length)).sum = (PyData.shown (.str w)).length + (l.shown.length + (r.shown.length + 0)) := rfl
    have e2 : (PyData.shownAll [.str w, l, r]).length = 3 := rfl
    show (tupleText (PyData.shownAll [.str w, l, r])).length ≤ 100 * (m1 + m2 + 2)
    omega
theorem kx_pair {l r : PyData} {n1 m1 n2 m2 : Nat} (hl : Kx l n1 m1) (hr : Kx r n2 m2) : Kx (pairD l r) (max n1 n2 + 1) (m1 + m2 + 2) := by
  unfold pairD
  cases a : PyData.eqv l none1 with
  | true => exact kx_mono hr (by omega) (by omega)
  | false =>
    cases b : PyData.eqv r none1 with
    | true => exact kx_mono hl (by omega) (by omega)
    | false => exact kx_three (.inl rfl) hl hr (.inr ⟨a, b⟩)
theorem kx_from {l r : PyData} {n1 m1 n2 m2 : Nat} (hl : Kx l n1 m1) (hr : Kx r n2 m2) : Kx (fromD l r) (max n1 n2 + 1) (m1 + m2 + 2) := by
  unfold fromD
  cases a : PyData.eqv l none1 with
  | true => exact kx_mono hr (by omega) (by omega)
  | false =>
    cases b : PyData.eqv r none1 with
    | true => exact kx_mono hr (by omega) (by omega)
    | false => exact kx_three (.inr (.inl rfl)) hl hr (.inr ⟨a, b⟩)
theorem deep_pos : ∀ t : Tr, 1 ≤ t.deep
  | .leaf _ _ => Nat.le_refl 1
  | .n0 _ => Nat.le_refl 1
  | .n1 _ _ => Nat.le_add_left 1 _
  | .n2 _ _ _ => Nat.le_add_left 1 _
theorem size_pos : ∀ t : Tr, 1 ≤ t.size
  | .leaf _ _ => Nat.le_refl 1
  | .n0 _ => Nat.le_refl 1
  | .n1 _ _ => Nat.le_add_left 1 _
  | .n2 _ _ _ => Nat.le_add_left 1 _
theorem kx_kd : ∀ t : Tr, Kx (kd t) (t.deep + 1) (4 * t.size)
  | .leaf _ _ => kx_mono kx_none (by show 1 ≤ 2; decide) (by show 2 ≤ 4 * 1; decide)
  | .n0 _ => kx_mono kx_none (by show 1 ≤ 2; decide) (by show 2 ≤ 4 * 1; decide)
  | .n1 w a => by
    have h := kx_kd a
    have z := deep_pos a
    have e1 : (Tr.n1 w a).deep = a.deep + 1 := rfl
    have e2 : (Tr.n1 w a).size = a.size + 1 := rfl
    show Kx (oneD w (kd a)) _ _
    unfold oneD
    split
    · exact kx_mono (kx_from kx_num h) (by omega) (by omega)
    · exact kx_mono (kx_pair kx_num h) (by omega) (by omega)
  | .n2 w a b => by
    have h := kx_kd a
    have g := kx_kd b
    have z := deep_pos a
    have s := size_pos a
    have e1 : (Tr.n2 w a b).deep = max a.deep b.deep + 1 := rfl
    have e2 : (Tr.n2 w a b).size = a.size + b.size + 1 := rfl
    show Kx (if w = "same" then none1 else joinD w (kd a) (kd b)) _ _
    split
    · exact kx_mono kx_none (by omega) (by omega)
    unfold joinD
    split
    · exact kx_mono (kx_pair h g) (by omega) (by omega)
    split
    · exact kx_mono (kx_three (w := "either") (.inr (.inr rfl)) h g (.inl rfl)) (by omega) (by omega)
    · exact kx_mono (kx_from h g) (by omega) (by omega)
/-- two that are none are one -/
theorem none_is {d : PyData} (p : pur d = true) (h : PyData.eqv d none1 = true) : d = none1 := pur_eq d none1 p h
mutual
theorem eqv_self : ∀ d : PyData, pur d = true → PyData.eqv d d = true
  | .str w, _ => by rw [eqv_str]; exact decide_eq_true rfl
  | .tuple ds, p => eqvs_self ds p
  | .none, p => (Bool.false_ne_true p).elim
  | .bool _, p => (Bool.false_ne_true p).elim
  | .int _, p => (Bool.false_ne_true p).elim
  | .list _, p => (Bool.false_ne_true p).elim
  | .dict _, p => (Bool.false_ne_true p).elim
theorem eqvs_self : ∀ ds : List PyData, purs ds = true → PyData.eqvAll ds ds = true
  | [], _ => rfl
  | d :: ds, p => by
    have p2 : (pur d && purs ds) = true := p
    rw [Bool.and_eq_true] at p2
    show (PyData.eqv d d && PyData.eqvAll ds ds) = true
    rw [eqv_self d p2.1, eqvs_self ds p2.2]
    rfl
end
end Kf
set_option Elab.async false
set_option linter.all false
set_option maxRecDepth 100000
set_option maxHeartbeats 8000000
set_option pp.maxSteps 800
/-! k21: kind_of. -/
namespace Kf
open PySem PySem.Spec PyProof.Rows L2 Sx
abbrev sPaired : Stmt := top 8
abbrev sGiven : Stmt := top 9
abbrev sJoined : Stmt := top 10
abbrev sKindOf : Stmt := top 12
theorem scPaired : FnScope ["left", "right"] ["left", "right"] (defScope sPaired) := ⟨rfl, rfl, rfl, by decide +kernel, rfl, by decide +kernel, by decide +kernel⟩
theorem scGiven : FnScope ["left", "right"] ["left", "right"] (defScope sGiven) := ⟨rfl, rfl, rfl, by decide +kernel, rfl, by decide +kernel, by decide +kernel⟩
theorem scJoined : FnScope ["word", "parts"] ["word", "parts"] (defScope sJoined) := ⟨rfl, rfl, rfl, by decide +kernel, rfl, by decide +kernel, by decide +kernel⟩
abbrev koN : List Str := ["saying", "done", "todo", "piece", "is_through", "inner", "right", "parts", "part"]
theorem scKindOf : FnScope koN ["saying"] (defScope sKindOf) := ⟨rfl, rfl, rfl, by decide +kernel, rfl, by decide +kernel, by decide +kernel⟩
theorem for_rev {K : PySem.W.Frag} {a : Addr} {xs : List V} {g : TG} {tb : TS} {D : Ends} {σ : L2.St} {H : Hp} (Pv : Nat → L2.St → Hp → Prop) (h0 : Pv 0 σ H) (hl : ∀ i σ H, i ≤ xs.length → Pv i σ H → SqL K H a xs)
    (hs : ∀ i x σ H, i < xs.length → xs[xs.length - 1 - i]? = some x → Pv i σ H → g x σ H fun σ2 H2 => tb { D with nx := Pv (i + 1), ct := Pv (i + 1), bk := D.nx } σ2 H2) (hd : ∀ σ H, Pv xs.length σ H → D.nx σ H) :
    ∃ W : Nat → Nat → L2.St → Hp → Prop, (∃ m, W 0 m σ H) ∧ ∀ i m σ H, W i m σ H →
      ((Itv K a xs.length).stop i H ∧ D.nx σ H) ∨ ((Itv K a xs.length).go i H ∧ ∃ N : L2.St → Hp → Prop, (∀ σ' H', N σ' H' → ∃ m', m' < m ∧ W (i + 1) m' σ' H') ∧ ∀ x H', (Itv K a xs.length).yld i H x H' → g x σ H' fun σ2 H2 => tb { D with nx := N, ct := N, bk := D.nx } σ2 H2) := by
  refine ⟨fun i m σ H => m = xs.length - i ∧ i ≤ xs.length ∧ Pv i σ H, ⟨xs.length, by simp, Nat.zero_le _, h0⟩, ?_⟩
  rintro i m σ H ⟨rfl, hi, p⟩
  have q := hl i σ H hi p
  by_cases hlt : i < xs.length
  · have lt2 : xs.length - 1 - i < xs.length := by omega
    refine .inr ⟨⟨hlt, xs, xs[xs.length - 1 - i], q, List.getElem?_eq_getElem lt2⟩, Pv (i + 1), fun σ' H' p' => ⟨xs.length - (i + 1), by omega, rfl, hlt, p'⟩, fun x H' y => ?_⟩
    obtain ⟨rfl, e⟩ := y
    exact hs i x σ H' hlt (e xs q) p
  · exact .inl ⟨show xs.length ≤ i by omega, hd σ H (by rw [show xs.length = i by omega]; exact p)⟩
section
variable {P : Program} {w : World} {K : PySem.W.Frag} {mg : Str → Option Value} {base : Heap}
/-- what is wanted of a kind that is handed on -/
def Gk (d : PyData) : Prop := d.canLay0 = true ∧ d.depth ≤ 100
theorem gk_kd {t : Tr} (h : t.deep ≤ 90) : Gk (kd t) := ⟨(kx_kd t).lay, Nat.le_trans (kx_kd t).deep (by omega)⟩
theorem dp_none {NO NU PA : Addr} (T : Tx K mg NO NU PA) (H : Hp) : Dp K H (.ref NO) none1 := .tup (T.tO H) (.cons (.str _) .nil)
theorem dp_num {NO NU PA : Addr} (T : Tx K mg NO NU PA) (H : Hp) : Dp K H (.ref NU) num1 := .tup (T.tU H) (.cons (.str _) .nil)
def spPaired (K : PySem.W.Frag) : Sp := fun vs H Q _ => ∃ (Z : List Addr) (x y : V) (l r : PyData), vs = [x, y] ∧ LS H Z ∧ Df K Z H x l ∧ Df K Z H y r ∧ Gk l ∧ Gk r ∧ ∀ v H', Df K Z H' v (pairD l r) → Same H H' → Q v H'
theorem ok_paired {f NO NU PA : Addr} {fd : FuncData} {j : Nat} (F : Fun K "paired" "paired" sPaired f fd) (T : Tx K mg NO NU PA) : FnOk P w K mg base CX0 (j + 1) f fd ["left", "right"] (spPaired K) := by
  refine F.ok scPaired (fun vs H Q E h => ?_) (fun cdv A outer s H vs Q E hr h => ?_)
  · obtain ⟨Z, x, y, l, r, rfl, _⟩ := h
    rfl
  obtain ⟨Z, x, y, l, r, rfl, lS, hx, hy, gl, gr, q⟩ := h
  have u1 : (A.deeper (envOfC "paired" (defScope sPaired) s.heap.objs.size f cdv)).units + 130 < cLine := by
    have := hr.un
    omega
  refine ⟨_, pss_cons (ps_if (pt_cmpR (op_eqW u1) (pv 0) (pe_glob (v := .ref NO) (by rfl) T.mO rfl) (nomark _)) (pss_one (ps_ret (pv 1))) pss_nil)
    (pss_one (ps_ret (pe_ifExp (pt_cmpR (op_eqW u1) (pv 1) (pe_glob (v := .ref NO) (by rfl) T.mO rfl) (nomark _)) (pv 0) (pe_tup (pa_cons pe_str (pa_cons (pv 0) (pa_cons (pv 1) pa_nil))))))), ?_⟩
  have l0 : none1.canLay0 = true := by decide +kernel
  refine ⟨_, rfl, l, none1, hx.dp, dp_none T H, gl.1, l0, Nat.le_trans gl.2 (by decide), _, rfl, ?_⟩
  unfold pairD at q
  cases a : PyData.eqv l none1 with
  | true =>
    rw [a] at q
    exact iteT ⟨_, rfl, q _ H hy fun _ _ e => e⟩
  | false =>
    rw [a] at q
    refine iteF ⟨_, rfl, r, none1, hy.dp, dp_none T H, gr.1, l0, Nat.le_trans gr.2 (by decide), _, rfl, ?_⟩
    cases b : PyData.eqv r none1 with
    | true =>
      rw [b] at q
      exact iteT ⟨_, rfl, q _ H hx fun _ _ e => e⟩
    | false =>
      rw [b] at q
      refine iteF ⟨_, rfl, _, rfl, (by show 3 ≤ sizeLine; decide), fun c nc => ?_⟩
      have sn := same_new (o := .tup [.str "pair", x, y]) nc
      exact q _ _ (df3 (lS.same sn) upd_same (hx.same sn) (hy.same sn)) sn
def spGiven (K : PySem.W.Frag) : Sp := fun vs H Q _ => ∃ (Z : List Addr) (x y : V) (l r : PyData), vs = [x, y] ∧ LS H Z ∧ Df K Z H x l ∧ Df K Z H y r ∧ Gk l ∧ Gk r ∧ ∀ v H', Df K Z H' v (fromD l r) → Same H H' → Q v H'
theorem ok_given {f NO NU PA : Addr} {fd : FuncData} {j : Nat} (F : Fun K "given_from" "given_from" sGiven f fd) (T : Tx K mg NO NU PA) : FnOk P w K mg base CX0 (j + 1) f fd ["left", "right"] (spGiven K) := by
  refine F.ok scGiven (fun vs H Q E h => ?_) (fun cdv A outer s H vs Q E hr h => ?_)
  · obtain ⟨Z, x, y, l, r, rfl, _⟩ := h
    rfl
  obtain ⟨Z, x, y, l, r, rfl, lS, hx, hy, gl, gr, q⟩ := h
  have u1 : (A.deeper (envOfC "given_from" (defScope sGiven) s.heap.objs.size f cdv)).units + 130 < cLine := by
    have := hr.un
    omega
  refine ⟨_, pss_one (ps_ret (pe_ifExp (pt_cmpR (op_inW u1) (pe_glob (v := .ref NO) (by rfl) T.mO rfl) (pe_tup (pa_cons (pv 0) (pa_cons (pv 1) pa_nil))) (by rfl)) (pv 1) (pe_tup (pa_cons pe_str (pa_cons (pv 0) (pa_cons (pv 1) pa_nil)))))), ?_⟩
  refine ⟨_, rfl, _, rfl, (by show 2 ≤ sizeLine; decide), fun c nc => ?_⟩
  have sn := same_new (o := .tup [x, y]) nc
  have hx2 := hx.same sn
  have hy2 := hy.same sn
  have lay2 : PyData.canLayAll0 [l, r] = true := by
    show (l.canLay0 && (r.canLay0 && true)) = true
    rw [gl.1, gr.1]
    rfl
  refine ⟨none1, [l, r], dp_none T _, .tup (.inl (.inl upd_same)) (.cons hx2.dp (.cons hy2.dp .nil)), (by decide +kernel), lay2, Nat.le_trans (Nat.min_le_right _ _) (by decide), _, rfl, ?_⟩
  show if (PyData.eqv l none1 || (PyData.eqv r none1 || false)) = true then _ else _
  unfold fromD at q
  cases a : (PyData.eqv l none1 || (PyData.eqv r none1 || false)) with
  | true =>
    rw [a] at q
    exact iteT ⟨_, rfl, q _ _ hy2 sn⟩
  | false =>
    rw [a] at q
    refine iteF ⟨_, rfl, _, rfl, (by show 3 ≤ sizeLine; decide), fun c2 nc2 => ?_⟩
    have sn2 := same_new (o := .tup [.str "from", x, y]) nc2
    exact q _ _ (df3 ((lS.same sn).same sn2) upd_same (hx2.same sn2) (hy2.same sn2)) (sn.trans sn2)
/-- what is handed to joined -/
def Joins (K : PySem.W.Frag) (Z : List Addr) (H : Hp) (wd : Str) (xs : List V) (r : PyData) : Prop :=
  ((wd = "all" ∨ wd = "some") ∧ ∃ x d, xs = [x] ∧ Df K Z H x d ∧ Gk d ∧ r = oneD wd d) ∨
  ((wd = "and" ∨ wd = "or" ∨ wd = "if") ∧ ∃ x y d e, xs = [x, y] ∧ Df K Z H x d ∧ Df K Z H y e ∧ Gk d ∧ Gk e ∧ r = joinD wd d e)
def spJoined (K : PySem.W.Frag) : Sp := fun vs H Q _ => ∃ (Z : List Addr) (wd : Str) (l : Addr) (xs : List V) (r : PyData), vs = [.str wd, .ref l] ∧ LS H Z ∧ SqL K H l xs ∧ Joins K Z H wd xs r ∧ ∀ v H', Df K Z H' v r → Same H H' → Q v H'
theorem ok_joined {f fp fg NO NU PA : Addr} {fd dp dg : FuncData} (F : Fun K "joined" "joined" sJoined f fd) (T : Tx K mg NO NU PA) (Pa : FnOk P w K mg base CX0 1 fp dp ["left", "right"] (spPaired K)) (bP : L2.Binds K dp ["left", "right"] []) (kP : PySem.W.keepIn K (.ref fp) = true) (mP : mg "paired" = some (.ref fp))
    (G : FnOk P w K mg base CX0 1 fg dg ["left", "right"] (spGiven K)) (bG : L2.Binds K dg ["left", "right"] []) (kG : PySem.W.keepIn K (.ref fg) = true) (mG : mg "given_from" = some (.ref fg)) : FnOk P w K mg base CX0 2 f fd ["word", "parts"] (spJoined K) := by
  refine F.ok scJoined (fun vs H Q E h => ?_) (fun cdv A outer s H vs Q E hr h => ?_)
  · obtain ⟨Z, wd, l, xs, r, rfl, _⟩ := h
    rfl
  obtain ⟨Z, wd, l, xs, r, rfl, lS, hl, hJ, q⟩ := h
  have h1 : Room 1 _ := hr.mono (by decide)
  refine ⟨_, pss_cons (ps_if (pt_cmpR op_eq (pv 0) pe_str (nomark _)) (pss_one (ps_ret (pe_call Pa h1 (by rfl) mP kP bP .nil pass0 (pa_cons (pe_ix ix_list (pv 1) pe_int (fun _ _ => rfl)) (pa_cons (pe_ix ix_list (pv 1) pe_int (fun _ _ => rfl)) pa_nil))))) pss_nil)
    (pss_cons (ps_if (pt_cmpR op_eq (pv 0) pe_str (nomark _)) (pss_one (ps_ret (pe_tup (pa_cons pe_str (pa_cons (pe_ix ix_list (pv 1) pe_int (fun _ _ => rfl)) (pa_cons (pe_ix ix_list (pv 1) pe_int (fun _ _ => rfl)) pa_nil)))))) pss_nil)
    (pss_cons (ps_if (pt_cmpR op_eq (pv 0) pe_str (nomark _)) (pss_one (ps_ret (pe_call G h1 (by rfl) mG kG bG .nil pass0 (pa_cons (pe_ix ix_list (pv 1) pe_int (fun _ _ => rfl)) (pa_cons (pe_ix ix_list (pv 1) pe_int (fun _ _ => rfl)) pa_nil))))) pss_nil)
    (pss_cons (ps_if (pt_cmpR op_eq (pv 0) pe_str (nomark _)) (pss_one (ps_ret (pe_call G h1 (by rfl) mG kG bG .nil pass0 (pa_cons (pe_glob (v := .ref NU) (by rfl) T.mU rfl) (pa_cons (pe_ix ix_list (pv 1) pe_int (fun _ _ => rfl)) pa_nil))))) pss_nil)
    (pss_one (ps_ret (pe_call Pa h1 (by rfl) mP kP bP .nil pass0 (pa_cons (pe_glob (v := .ref NU) (by rfl) T.mU rfl) (pa_cons (pe_ix ix_list (pv 1) pe_int (fun _ _ => rfl)) pa_nil)))))))), ?_⟩
  have gn : Gk num1 := ⟨by decide +kernel, by decide⟩
  have dn : Df K Z H (.ref NU) num1 := .tup (T.tU _) (.cons (.str _) .nil)
  rcases hJ with ⟨hw, x, d, rfl, hx, gd, rfl⟩ | ⟨hw, x, y, d, e, rfl, hx, hy, gd, ge, rfl⟩
  · unfold oneD at q
    have n1 : wd ≠ "and" ∧ wd ≠ "or" ∧ wd ≠ "if" := by rcases hw with e | e <;> rw [e] <;> decide +kernel
    refine ⟨_, rfl, rfl, _, rfl, eqW (fun e => absurd e n1.1) (fun _ => ?_)⟩
    refine ⟨_, rfl, rfl, _, rfl, eqW (fun e => absurd e n1.2.1) (fun _ => ?_)⟩
    refine ⟨_, rfl, rfl, _, rfl, eqW (fun e => absurd e n1.2.2) (fun _ => ?_)⟩
    refine ⟨_, rfl, rfl, _, rfl, eqW (fun ea => ?_) (fun na => ?_)⟩
    · rw [if_pos ea] at q
      exact ⟨_, rfl, l, _, 0, x, rfl, rfl, hl, atI_nat (j := 0) rfl, Z, _, x, num1, d, rfl, lS, dn, hx, gn, gd, fun v H' hv s => q v H' hv s⟩
    · rw [if_neg na] at q
      exact ⟨_, rfl, l, _, 0, x, rfl, rfl, hl, atI_nat (j := 0) rfl, Z, _, x, num1, d, rfl, lS, dn, hx, gn, gd, fun v H' hv s => q v H' hv s⟩
  · unfold joinD at q
    refine ⟨_, rfl, rfl, _, rfl, eqW (fun ea => ?_) (fun na => ?_)⟩
    · rw [if_pos ea] at q
      exact ⟨_, rfl, l, _, 0, x, rfl, rfl, hl, atI_nat (j := 0) rfl, _, rfl, l, _, 1, y, rfl, rfl, hl, atI_nat (j := 1) rfl, Z, x, y, d, e, rfl, lS, hx, hy, gd, ge, fun v H' hv s => q v H' hv s⟩
    rw [if_neg na] at q
    refine ⟨_, rfl, rfl, _, rfl, eqW (fun ea => ?_) (fun no => ?_)⟩
    · rw [if_pos ea] at q
      refine ⟨_, rfl, l, _, 0, x, rfl, rfl, hl, atI_nat (j := 0) rfl, _, rfl, l, _, 1, y, rfl, rfl, hl, atI_nat (j := 1) rfl, (by show 3 ≤ sizeLine; decide), fun c nc => ?_⟩
      have sn := same_new (o := .tup [.str "either", x, y]) nc
      exact q _ _ (df3 (lS.same sn) upd_same (hx.same sn) (hy.same sn)) sn
    rw [if_neg no] at q
    have ei : wd = "if" := by
      rcases hw with z | z | z
      · exact absurd z na
      · exact absurd z no
      · exact z
    refine ⟨_, rfl, rfl, _, rfl, eqW (fun _ => ?_) (fun ni => absurd ei ni)⟩
    exact ⟨_, rfl, l, _, 0, x, rfl, rfl, hl, atI_nat (j := 0) rfl, _, rfl, l, _, 1, y, rfl, rfl, hl, atI_nat (j := 1) rfl, Z, x, y, d, e, rfl, lS, hx, hy, gd, ge, fun v H' hv s => q v H' hv s⟩
end
end Kf
set_option Elab.async false
set_option linter.all false
set_option maxRecDepth 100000
set_option maxHeartbeats 8000000
set_option pp.maxSteps 60
/-! k21: kind_of. -/
namespace Kf
open PySem PySem.Spec PyProof.Rows L2 Sx
theorem DiceAt.neL {H : Hp} {p L q : Addr} {m : Int} (h : DiceAt H p L m) (e : H q = none) : q ≠ L := fun z => by
  obtain ⟨x, n, r, cs, _, _, e2, _⟩ := h
  rw [z, e2] at e
  cases e
theorem DiceAt.put {H : Hp} {p L D : Addr} {m : Int} {o : HO} (h : DiceAt H p L m) (n1 : D ≠ p) (n2 : D ≠ L) : DiceAt (upd H D o) p L m := by
  obtain ⟨x, n, r, cs, e, nl, e2, q⟩ := h
  exact ⟨x, n, r, cs, by rw [upd_ne n1.symm]; exact e, nl, by rw [upd_ne n2.symm]; exact e2, q⟩
section
variable {K : PySem.W.Frag} {H : Hp} {S : List Addr} {D : Addr} {o : HO} {v : V} {d : PyData}
theorem Df.more (h : Df K S H v d) (n : H D = none) : Df K (D :: S) (upd H D o) v d := dp_up (fun c u e => by
  have e2 := del_same _ _ e
  have nc : c ∉ S := fun z => by
    rw [show del H S c = none from if_pos z] at e
    cases e
  have nd : c ≠ D := ne_of_none e2 n
  rw [del_ne (List.not_mem_cons_of_ne_of_not_mem nd nc), upd_ne nd]
  exact e2) _ _ h
theorem Df.less (h : Df K (D :: S) H v d) : Df K S H v d := dp_up (fun c u e => by
  have e2 := del_same _ _ e
  have nc : c ∉ D :: S := fun z => by
    rw [show del H (D :: S) c = none from if_pos z] at e
    cases e
  rw [del_ne (fun z => nc (List.mem_cons_of_mem _ z))]
  exact e2) _ _ h
theorem ls1 {p L : Addr} {m : Int} (h : DiceAt H p L m) : LS H [p] := fun a ha => by
  obtain ⟨x, n, r, cs, e, _⟩ := h
  rw [List.mem_singleton.mp ha]
  exact ⟨_, e⟩
theorem ls2 {p L : Addr} {m : Int} {xs : List V} (h : DiceAt H p L m) (e : H D = some (.lst xs)) : LS H [D, p] := fun a ha => by
  rcases List.mem_cons.mp ha with rfl | ha
  · exact ⟨_, e⟩
  · exact ls1 h a ha
end
/-- what comes of the entries es, the top one first, over the kinds st -/
def RunsK (res : PyData) : List (Tr × Bool) → List PyData → Prop
  | [], st => st = [res]
  | (t, false) :: es, st => RunsK res es (st ++ [kd t])
  | (t, true) :: es, st => ∃ s0, st = s0 ++ t.says.map kd ∧ t.says ≠ [] ∧ RunsK res es (s0 ++ [kd t])
theorem runs_says (res : PyData) : ∀ (ks : List Tr) (es : List (Tr × Bool)) (st : List PyData), RunsK res es (st ++ ks.map kd) → RunsK res (ks.map (fun k => (k, false)) ++ es) st
  | [], es, st, h => by
    rw [List.map_nil, List.append_nil] at h
    exact h
  | k :: ks, es, st, h => by
    show RunsK res (ks.map (fun k => (k, false)) ++ es) (st ++ [kd k])
    refine runs_says res ks es (st ++ [kd k]) ?_
    rw [List.append_assoc]
    exact h
def mu (e : Tr × Bool) : Nat := if e.2 = true then 1 else 2 * e.1.size
def mus (es : List (Tr × Bool)) : Nat := (es.map mu).sum
theorem mus_app (xs ys : List (Tr × Bool)) : mus (xs ++ ys) = mus xs + mus ys := by
  unfold mus
  rw [List.map_append, List.sum_append]
theorem mus_one (e : Tr × Bool) : mus [e] = mu e := by
  unfold mus
  simp
theorem mu_pos (e : Tr × Bool) : 1 ≤ mu e := by
  have z := size_pos e.1
  unfold mu
  split <;> omega
theorem mus_len : ∀ es : List (Tr × Bool), es.length ≤ mus es
  | [] => Nat.le_refl _
  | e :: es => by
    have z := mus_len es
    have y := mu_pos e
    show es.length + 1 ≤ (mu e :: es.map mu).sum
    rw [List.sum_cons]
    show es.length + 1 ≤ mu e + mus es
    omega
theorem mus_kids : ∀ ks : List Tr, mus (ks.map fun k => (k, false)) = 2 * (ks.map Tr.size).sum
  | [] => rfl
  | k :: ks => by
    have z := mus_kids ks
    show (mu (k, false) :: (ks.map fun k => (k, false)).map mu).sum = 2 * (k.size :: ks.map Tr.size).sum
    rw [List.sum_cons, List.sum_cons]
    have e : mu (k, false) = 2 * k.size := rfl
    have e2 : ((ks.map fun k => ((k, false) : Tr × Bool)).map mu).sum = mus (ks.map fun k => (k, false)) := rfl
    omega
theorem mus_rev (es : List (Tr × Bool)) : mus es.reverse = mus es := by
  unfold mus
  rw [List.map_reverse, List.sum_reverse]
theorem says_size (t : Tr) : (t.says.map Tr.size).sum + 1 ≤ t.size := by
  cases t with
  | leaf w x => exact Nat.le_refl 1
  | n0 w => exact Nat.le_refl 1
  | n1 w a =>
    show ([a.size].sum) + 1 ≤ a.size + 1
    simp
  | n2 w a b =>
    show ((if w = "same" then [] else [a, b] : List Tr).map Tr.size).sum + 1 ≤ a.size + b.size + 1
    split
    · simp
    · show ([a.size, b.size].sum) + 1 ≤ _
      simp
theorem says_len (t : Tr) : t.says.length ≤ 2 := by
  cases t with
  | leaf w x => exact Nat.zero_le _
  | n0 w => exact Nat.zero_le _
  | n1 w a => exact (by decide : 1 ≤ 2)
  | n2 w a b =>
    show (if w = "same" then [] else [a, b] : List Tr).length ≤ 2
    split
    · exact Nat.zero_le _
    · exact Nat.le_refl 2
theorem kd_no {t : Tr} (h : t.Wf kS) (e : t.says = []) : kd t = none1 := by
  cases t with
  | leaf w x => rfl
  | n0 w => rfl
  | n1 w a => cases e
  | n2 w a b =>
    have e : (if w = "same" then [] else [a, b] : List Tr) = [] := e
    show (if w = "same" then none1 else joinD w (kd a) (kd b)) = none1
    by_cases c : w = "same"
    · rw [if_pos c]
    · rw [if_neg c] at e
      cases e
/-- what is joined of a saying's parts -/
theorem kd_join {K : PySem.W.Frag} {Z : List Addr} {H : Hp} {t : Tr} {xs : List V} (h : t.Wf kS) (ne : t.says ≠ []) (d : t.deep ≤ 90) (all : All2 (fun k x => Df K Z H x (kd k)) t.says xs) : Joins K Z H t.word xs (kd t) := by
  cases t with
  | leaf w x => exact absurd rfl ne
  | n0 w => exact absurd rfl ne
  | n1 w a =>
    have all2 : All2 (fun k x => Df K Z H x (kd k)) [a] xs := all
    have dd : a.deep + 1 ≤ 90 := d
    cases all2 with
    | @cons _ x _ _ hx r =>
      cases r
      exact .inl ⟨(wf_one h).1, x, kd a, rfl, hx, gk_kd (by omega), rfl⟩
  | n2 w a b =>
    have ne2 : (if w = "same" then [] else [a, b] : List Tr) ≠ [] := ne
    have all2 : All2 (fun k x => Df K Z H x (kd k)) (if w = "same" then [] else [a, b]) xs := all
    have dd : max a.deep b.deep + 1 ≤ 90 := d
    by_cases c : w = "same"
    · rw [if_pos c] at ne2
      exact absurd rfl ne2
    · rw [if_neg c] at all2
      rcases wf_two h with ⟨e, _⟩ | ⟨_, hw, _⟩
      · exact absurd e c
      · cases all2 with
        | @cons _ x _ _ hx r =>
        cases r with
        | @cons _ y _ _ hy r2 =>
          cases r2
          refine .inr ⟨hw, x, y, kd a, kd b, rfl, hx, hy, gk_kd (by omega), gk_kd (by omega), ?_⟩
          show (if w = "same" then none1 else joinD w (kd a) (kd b)) = joinD w (kd a) (kd b)
          rw [if_neg c]
theorem says_deep {t k : Tr} (h : k ∈ t.says) : k.deep ≤ t.deep := by
  cases t with
  | leaf w x => cases h
  | n0 w => cases h
  | n1 w a =>
    rw [List.mem_singleton.mp h]
    exact Nat.le_succ _
  | n2 w a b =>
    have h : k ∈ (if w = "same" then [] else [a, b] : List Tr) := h
    have e : (Tr.n2 w a b).deep = max a.deep b.deep + 1 := rfl
    split at h
    · cases h
    · rcases List.mem_cons.mp h with z | z
      · rw [z, e]
        omega
      · rw [List.mem_singleton.mp z, e]
        omega
def RowB (H : Hp) (e : Tr × Bool) (v : V) : Prop := ∃ q x, v = .ref q ∧ H q = some (.tup [x, .bl e.2]) ∧ At H e.1 x
theorem RowB.keep {H H' : Hp} (k : Tups H H') (e : Tr × Bool) (v : V) (h : RowB H e v) : RowB H' e v := by
  obtain ⟨q, x, e1, e2, a⟩ := h
  exact ⟨q, x, e1, k _ _ e2, a.keep k⟩
/-- how it stands -/
structure PendB (K : PySem.W.Frag) (Z : List Addr) (H0 X : Hp) (pd pt : Addr) (es : List (Tr × Bool)) (vt : List V) (st : List PyData) (vd : List V) : Prop where
  sm : Same H0 X
  lt : X pt = some (.lst vt)
  ld : X pd = some (.lst vd)
  rt : All2 (RowB X) es vt
  rd : All2 (fun d v => Df K Z X v d) st vd
  lS : LS X Z
theorem iteT' {b : Bool} {A B : Prop} (e : b = true) (h : A) : if b = true then A else B := by
  rw [if_pos e]
  exact h
theorem iteF' {b : Bool} {A B : Prop} (e : b = false) (h : B) : if b = true then A else B := by
  rw [e, if_neg Bool.false_ne_true]
  exact h
theorem two_of : ∀ {vs : List V}, vs.length = 2 → ∃ x y, vs = [x, y]
  | [x, y], _ => ⟨x, y, rfl⟩
  | [], h => by cases h
  | [_], h => by cases h
  | _ :: _ :: _ :: _, h => by simp at h
theorem All2.split {α β : Type} {F : α → β → Prop} : ∀ {l1 l2 : List α} {m : List β}, All2 F (l1 ++ l2) m → ∃ m1 m2, m = m1 ++ m2 ∧ All2 F l1 m1 ∧ All2 F l2 m2
  | [], l2, m, h => ⟨[], m, rfl, .nil, h⟩
  | a :: l1, l2, _, .cons h r => by
    obtain ⟨m1, m2, e, r1, r2⟩ := All2.split (l1 := l1) (l2 := l2) r
    exact ⟨_ :: m1, m2, by rw [e]; rfl, .cons h r1, r2⟩
theorem All2.unmap {α β γ : Type} {F : α → β → Prop} {g : γ → α} : ∀ {l : List γ} {m : List β}, All2 F (l.map g) m → All2 (fun a b => F (g a) b) l m
  | [], _, .nil => .nil
  | _ :: l, _, .cons h r => .cons h (All2.unmap (l := l) r)
section
variable {K : PySem.W.Frag} {Z : List Addr} {H0 X X' : Hp} {pd pt : Addr} {es : List (Tr × Bool)} {vt : List V} {st : List PyData} {vd : List V}
theorem PendB.same (I : PendB K Z H0 X pd pt es vt st vd) (s : Same X X') : PendB K Z H0 X' pd pt es vt st vd :=
  ⟨I.sm.trans s, s _ _ I.lt, s _ _ I.ld, I.rt.mono (RowB.keep (tups_same s)), I.rd.mono fun d v h => h.same s, I.lS.same s⟩
theorem ls_put {p : Addr} {xs : List V} (h : LS X Z) : LS (upd X p (.lst xs)) Z := fun a ha => by
  by_cases e : a = p
  · rw [e]
    exact ⟨_, upd_same⟩
  · obtain ⟨ys, e2⟩ := h a ha
    exact ⟨ys, by rw [upd_ne e]; exact e2⟩
/-- the list of what is to do, otherwise -/
theorem PendB.todo (I : PendB K Z H0 X pd pt es vt st vd) (far : pt ≠ pd) (mem : pt ∈ Z) (new : H0 pt = none) {es2 : List (Tr × Bool)} {vt2 : List V} (r : All2 (RowB X) es2 vt2) : PendB K Z H0 (upd X pt (.lst vt2)) pd pt es2 vt2 st vd := by
  have k : Tups X (upd X pt (.lst vt2)) := tups_put fun xs z => by
    rw [I.lt] at z
    cases z
  have b : But pt X (upd X pt (.lst vt2)) := (But.refl pt X).own
  refine ⟨fun c o e => ?_, upd_same, by rw [upd_ne far.symm]; exact I.ld, r.mono (RowB.keep k), I.rd.mono fun d v h => h.but mem b, ls_put I.lS⟩
  rw [upd_ne (ne_of_none e new)]
  exact I.sm _ _ e
/-- the list of what is done, otherwise -/
theorem PendB.done (I : PendB K Z H0 X pd pt es vt st vd) (far : pt ≠ pd) (mem : pd ∈ Z) (new : H0 pd = none) {st2 : List PyData} {vd2 : List V} (r : All2 (fun d v => Df K Z X v d) st2 vd2) : PendB K Z H0 (upd X pd (.lst vd2)) pd pt es vt st2 vd2 := by
  have k : Tups X (upd X pd (.lst vd2)) := tups_put fun xs z => by
    rw [I.ld] at z
    cases z
  have b : But pd X (upd X pd (.lst vd2)) := (But.refl pd X).own
  refine ⟨fun c o e => ?_, by rw [upd_ne far]; exact I.lt, upd_same, I.rt.mono (RowB.keep k), r.mono fun d v h => h.but mem b, ls_put I.lS⟩
  rw [upd_ne (ne_of_none e new)]
  exact I.sm _ _ e
end
section
variable {P : Program} {w : World} {K : PySem.W.Frag} {mg : Str → Option Value} {base : Heap}
def spKindOf (K : PySem.W.Frag) : Sp := fun vs H Q _ => ∃ (Z : List Addr) (v : V) (t : Tr), vs = [v] ∧ LS H Z ∧ At H t v ∧ t.Wf kS ∧ t.deep ≤ 90 ∧ t.size ≤ 2000 ∧ ∀ u H', Df K Z H' u (kd t) → Same H H' → Q u H'
theorem ok_kindof {f fo fj NO NU PA : Addr} {fd do_ dj : FuncData} (F : Fun K "kind_of" "kind_of" sKindOf f fd) (T : Tx K mg NO NU PA) (O : FnOk P w K mg base CX0 1 fo do_ ["saying"] spOf) (bO : L2.Binds K do_ ["saying"] []) (kO : PySem.W.keepIn K (.ref fo) = true) (mO : mg "sayings_of" = some (.ref fo))
    (J : FnOk P w K mg base CX0 2 fj dj ["word", "parts"] (spJoined K)) (bJ : L2.Binds K dj ["word", "parts"] []) (kJ : PySem.W.keepIn K (.ref fj) = true) (mJ : mg "joined" = some (.ref fj)) (zRev : mg "reversed" = none) : FnOk P w K mg base CX0 3 f fd ["saying"] (spKindOf K) := by
  refine F.ok scKindOf (fun vs H Q E h => ?_) (fun cdv A outer s H vs Q E hr h => ?_)
  · obtain ⟨Z, v, t, rfl, _⟩ := h
    rfl
  obtain ⟨Z0, v, t, rfl, lS0, hA, hW, hd, hz, q⟩ := h
  have h1 : Room 1 _ := hr.mono (by decide)
  refine ⟨_, pss_cons (ps_set (i := 1) scKindOf.nd rfl (.inl rfl) (pe_lst pa_nil))
    (pss_cons (ps_set (i := 2) scKindOf.nd rfl (.inl rfl) (pe_lst (pa_cons (pe_tup (pa_cons (pv 0) (pa_cons pe_bl pa_nil))) pa_nil)))
    (pss_cons (ps_while PassesOwn.never (pt_truth (pv 2) (by intro _; rfl))
      (pss_cons (ps_asg (pe_bm0 PySem.F.plainAttrs_list PySem.F.slot_list_pop PySem.F.type_list_pop mt_pop (pv 2)) (pg_tup (by rfl) (pgs_cons (pg_name (i := 3) scKindOf.nd rfl (.inl rfl)) (pgs_cons (pg_name (i := 4) scKindOf.nd rfl (.inl rfl)) pgs_nil))))
      (pss_cons (ps_set (i := 5) scKindOf.nd rfl (.inl rfl) (pe_call O h1 (by rfl) mO kO bO .nil pass0 (pa_cons (pv 3) pa_nil)))
      (pss_one (ps_if (pt_cmpR op_eq (pe_callB call_len_seq (by rfl) T.zLen PySem.boot_len (pa_cons (pv 5) pa_nil)) pe_int (nomark _))
        (pss_one (ps_expr (pe_bm PySem.F.plainAttrs_list PySem.F.slot_list_append PySem.F.type_list_append mt_append (pv 1) (pa_cons (pe_glob (v := .ref NO) (by rfl) T.mO rfl) pa_nil))))
        (pss_one (ps_if (pt_val (pv 4))
          (pss_cons (ps_set (i := 6) scKindOf.nd rfl (.inl rfl) (pe_bm0 PySem.F.plainAttrs_list PySem.F.slot_list_pop PySem.F.type_list_pop mt_pop (pv 1)))
          (pss_cons (ps_set (i := 7) scKindOf.nd rfl (.inl rfl) (pe_ifExp (pt_cmpR op_eq (pe_callB call_len_seq (by rfl) T.zLen PySem.boot_len (pa_cons (pv 5) pa_nil)) pe_int (nomark _)) (pe_lst (pa_cons (pv 6) pa_nil)) (pe_lst (pa_cons (pe_bm0 PySem.F.plainAttrs_list PySem.F.slot_list_pop PySem.F.type_list_pop mt_pop (pv 1)) (pa_cons (pv 6) pa_nil)))))
          (pss_one (ps_expr (pe_bm PySem.F.plainAttrs_list PySem.F.slot_list_append PySem.F.type_list_append mt_append (pv 1) (pa_cons (pe_call J hr (by rfl) mJ kJ bJ .nil pass0 (pa_cons (pe_ix ix_tup (pv 3) pe_int (fun _ _ => rfl)) (pa_cons (pv 7) pa_nil))) pa_nil))))))
          (pss_cons (ps_expr (pe_bm PySem.F.plainAttrs_list PySem.F.slot_list_append PySem.F.type_list_append mt_append (pv 2) (pa_cons (pe_tup (pa_cons (pv 3) (pa_cons pe_bl pa_nil))) pa_nil)))
          (pss_one (ps_for PassesOwn.never rfl (pi_reversed (by rfl) zRev (pa_cons (pv 5) pa_nil)) (pg_name (i := 8) scKindOf.nd rfl (.inl rfl))
            (pss_one (ps_expr (pe_bm PySem.F.plainAttrs_list PySem.F.slot_list_append PySem.F.type_list_append mt_append (pv 2) (pa_cons (pe_tup (pa_cons (pv 8) (pa_cons pe_bl pa_nil))) pa_nil))))))))))))))
    (pss_one (ps_ret (pe_ix ix_list (pv 1) pe_int (fun _ _ => rfl)))))), ?_⟩
  refine ⟨Nat.zero_le _, fun pd nd => ?_⟩
  have s1 : Same H (upd H pd (.lst [])) := same_new nd
  have hd1 : upd H pd (.lst []) pd = some (.lst []) := upd_same
  generalize upd H pd (.lst []) = H1 at s1 hd1
  refine ⟨_, rfl, (by show 2 ≤ sizeLine; decide), fun q0 nq => ?_⟩
  have s2 := same_new (o := .tup [v, .bl false]) nq
  have hq0 : upd H1 q0 (.tup [v, .bl false]) q0 = some (.tup [v, .bl false]) := upd_same
  have hd2 := s2 _ _ hd1
  generalize upd H1 q0 (.tup [v, .bl false]) = H2 at s2 hq0 hd2
  refine ⟨(by show 1 ≤ sizeLine; decide), fun pt nt => ?_⟩
  have s3 := same_new (o := .lst [.ref q0]) nt
  have ht3 : upd H2 pt (.lst [.ref q0]) pt = some (.lst [.ref q0]) := upd_same
  have hq3 := s3 _ _ hq0
  have hd3 := s3 _ _ hd2
  generalize upd H2 pt (.lst [.ref q0]) = H3 at s3 ht3 hq3 hd3
  have sm3 := s1.trans (s2.trans s3)
  have ftd : pt ≠ pd := fun z => by
    rw [z, hd2] at nt
    cases nt
  have newT : H pt = none := by
    cases e : H pt with
    | none => rfl
    | some o =>
      have z := (s1.trans s2) _ _ e
      rw [nt] at z
      cases z
  have mT : pt ∈ pt :: pd :: Z0 := List.mem_cons_self
  have mD : pd ∈ pt :: pd :: Z0 := List.mem_cons_of_mem _ List.mem_cons_self
  have lS3 : LS H3 (pt :: pd :: Z0) := fun a ha => by
    rcases List.mem_cons.mp ha with rfl | ha
    · exact ⟨_, ht3⟩
    rcases List.mem_cons.mp ha with rfl | ha
    · exact ⟨_, hd3⟩
    · obtain ⟨xs, e⟩ := lS0 a ha
      exact ⟨xs, sm3 _ _ e⟩
  refine ⟨fun m σ X => ∃ (es : List (Tr × Bool)) (vt : List V) (st : List PyData) (vd : List V) (y3 y4 y5 y6 y7 y8 : Option V), σ = [some v, some (.ref pd), some (.ref pt), y3, y4, y5, y6, y7, y8] ∧ PendB K (pt :: pd :: Z0) H X pd pt es vt st vd ∧
      m = mus es ∧ st.length + mus es ≤ 4000 ∧ RunsK (kd t) es.reverse st ∧ (∀ e ∈ es, e.1.Wf kS ∧ e.1.deep ≤ 90),
    ⟨_, [(t, false)], [.ref q0], [], [], none, none, none, none, none, none, rfl, ⟨sm3, ht3, hd3, .one ⟨q0, v, rfl, hq3, hA.keep (tups_same sm3)⟩, .nil, lS3⟩, rfl, by rw [mus_one]; show 0 + 2 * t.size ≤ 4000; omega, rfl, fun e he => by rw [List.mem_singleton.mp he]; exact ⟨hW, hd⟩⟩, fun m σ X hX => ?_⟩
  obtain ⟨es, vt, st, vd, y3, y4, y5, y6, y7, y8, rfl, I, em, lm, run, okE⟩ := hX
  refine ⟨_, rfl, !vt.isEmpty, .inl ⟨vt, .inl (.inl I.lt), rfl⟩, ?_⟩
  rcases List.eq_nil_or_concat vt with en | ⟨vt0, y, en⟩
  · subst en
    refine iteF ?_
    have ee : es = [] := List.length_eq_zero_iff.mp I.rt.len
    subst ee
    have run2 : st = [kd t] := run
    subst run2
    have rd := I.rd
    have ld := I.ld
    cases rd with
    | @cons _ u _ _ hu r =>
      cases r
      exact ⟨_, rfl, pd, _, 0, u, rfl, rfl, .inl (.inl ld), atI_nat (j := 0) rfl, q u X (Df.less (Df.less hu)) I.sm⟩
  rw [List.concat_eq_append] at en
  subst en
  rw [show (!(vt0 ++ [y]).isEmpty) = true by simp]
  refine iteT ?_
  obtain ⟨es0, ⟨t1, b1⟩, rfl, rt0, ⟨q1, x1, rfl, hq1, a1⟩⟩ := I.rt.last
  obtain ⟨w1, d1⟩ := okE (t1, b1) (List.mem_append.mpr (.inr (List.mem_singleton.mpr rfl)))
  have okE0 : ∀ e ∈ es0, e.1.Wf kS ∧ e.1.deep ≤ 90 := fun e he => okE e (List.mem_append.mpr (.inl he))
  rw [List.reverse_append, List.reverse_singleton] at run
  rw [mus_app, mus_one] at em lm
  refine ⟨fun σ' X' => ∃ m', m' < m ∧ ∃ (es : List (Tr × Bool)) (vt : List V) (st : List PyData) (vd : List V) (y3 y4 y5 y6 y7 y8 : Option V), σ' = [some v, some (.ref pd), some (.ref pt), y3, y4, y5, y6, y7, y8] ∧ PendB K (pt :: pd :: Z0) H X' pd pt es vt st vd ∧
      m' = mus es ∧ st.length + mus es ≤ 4000 ∧ RunsK (kd t) es.reverse st ∧ (∀ e ∈ es, e.1.Wf kS ∧ e.1.deep ≤ 90), fun σ' X' h => h, ?_⟩
  -- piece, is_through = todo.pop()
  refine ⟨_, rfl, .inl ⟨rfl, _, .inl (.inl I.lt)⟩, pt, _, .ref q1, rfl, rfl, I.lt, by simp, ?_⟩
  rw [List.dropLast_concat]
  have I1 := I.todo ftd mT newT rt0
  have k1 : Tups X (upd X pt (.lst vt0)) := tups_put fun xs z => by
    rw [I.lt] at z
    cases z
  have hq1' := k1 _ _ hq1
  have a1' : At (upd X pt (.lst vt0)) t1 x1 := a1.keep k1
  generalize upd X pt (.lst vt0) = X1 at I1 k1 hq1' a1'
  refine ⟨q1, [x1, .bl b1], rfl, .inl (.inl hq1'), rfl, x1, [.bl b1], rfl, .bl b1, [], rfl, rfl, ?_⟩
  -- inner
  refine ⟨_, rfl, x1, t1, rfl, a1', w1, fun pi X2 ws s12 npi hpi allw => ?_⟩
  have I2 := I1.same s12
  have a2 := a1'.keep (tups_same s12)
  have wl := allw.len
  have sl := says_len t1
  have sz := says_size t1
  refine ⟨_, rfl, pi, ws, rfl, .inl (.inl (.inl hpi)), rfl, _, rfl, ?_⟩
  refine ite2 (fun c => ?_) (fun c => ?_)
  · -- none
    have w0 : ws.length = 0 := by
      have z := of_decide_eq_true c
      injection z with z
      omega
    have s0 : t1.says = [] := List.length_eq_zero_iff.mp (by omega)
    have k0 := kd_no w1 s0
    have bt : b1 = false := by
      cases b1 with
      | false => rfl
      | true =>
        obtain ⟨_, _, ne, _⟩ := run
        exact absurd s0 ne
    subst bt
    have run2 : RunsK (kd t) es0.reverse (st ++ [kd t1]) := run
    refine ⟨_, rfl, .inl ⟨rfl, _, .inl (.inl I2.ld)⟩, ⟨pd, _, _, rfl, rfl, I2.ld, line_of (by have := I2.rd.len; omega), ?_⟩⟩
    have muf : mu (t1, false) = 2 * t1.size := rfl
    have I3 := I2.done (st2 := st ++ [kd t1]) (vd2 := vd ++ [.ref NO]) ftd mD nd (I2.rd.app (.one (by rw [k0]; exact .tup (T.tO _) (.cons (.str _) .nil))))
    exact ⟨_, by rw [em]; have := size_pos t1; omega, es0, vt0, _, _, _, _, _, _, _, _, rfl, I3, rfl, by rw [List.length_append, List.length_singleton]; have := size_pos t1; omega, run2, okE0⟩
  · have w0 : t1.says ≠ [] := fun z => by
      rw [z] at wl
      exact c (decide_eq_true (by rw [show ws.length = 0 from wl.symm]; rfl))
    refine ⟨_, rfl, b1, rfl, ?_⟩
    cases b1 with
    | true =>
      -- half through
      refine iteT ?_
      obtain ⟨s0, es1, _, run2⟩ : ∃ s0, st = s0 ++ t1.says.map kd ∧ t1.says ≠ [] ∧ RunsK (kd t) es0.reverse (s0 ++ [kd t1]) := run
      have rd2 := I2.rd
      have mue : mu (t1, true) = 1 := rfl
      rw [es1] at rd2
      obtain ⟨v0, vk, evd, r0, rk⟩ := All2.split rd2
      have rk := All2.unmap rk
      have lk := rk.len
      have ls0 : st.length = s0.length + t1.says.length := by rw [es1, List.length_append, List.length_map]
      have lv0 := r0.len
      obtain ⟨p1, us, rfl, hp1, lus, _, _⟩ := a2.view (wf_ok w1)
      have ld2 := I2.ld
      subst evd
      have l12 : vk.length = 1 ∨ vk.length = 2 := by
        have : 1 ≤ t1.says.length := List.length_pos_iff.mpr w0
        omega
      have lws : ws.length = vk.length := by omega
      have bq : ∀ {vs : List V}, But pd X2 (upd X2 pd (.lst vs)) := (But.refl pd X2).own
      have kq : ∀ {vs : List V}, Tups X2 (upd X2 pd (.lst vs)) := tups_put fun xs z => by
        rw [ld2] at z
        cases z
      have npid : pi ≠ pd := fun z => by
        rw [z, I1.ld] at npi
        cases npi
      rcases l12 with l1 | l2
      · obtain ⟨x, evk⟩ : ∃ x, vk = [x] := List.length_eq_one_iff.mp l1
        have ld3 : X2 pd = some (.lst (v0 ++ [x])) := by rw [← evk]; exact ld2
        refine ⟨_, rfl, .inl ⟨rfl, _, .inl (.inl ld3)⟩, pd, _, x, rfl, rfl, ld3, by simp, ?_⟩
        rw [List.dropLast_concat]
        have I3 := I2.done (st2 := s0) (vd2 := v0) ftd mD nd r0
        have hpi3 : upd X2 pd (.lst v0) pi = some (.lst ws) := by rw [upd_ne npid]; exact hpi
        have hp3 := kq (vs := v0) _ _ hp1
        have rk3 := rk.mono fun k x h => Df.but (H' := upd X2 pd (.lst v0)) mD bq h
        generalize upd X2 pd (.lst v0) = X3 at I3 hpi3 hp3 rk3
        refine ⟨_, rfl, pi, ws, rfl, .inl (.inl (.inl hpi3)), rfl, _, rfl, iteT' (decide_eq_true (by rw [lws, l1]; rfl)) ?_⟩
        refine ⟨_, rfl, (by show 1 ≤ sizeLine; decide), fun l nl => ?_⟩
        have sn := same_new (o := .lst [x]) nl
        have I4 := I3.same sn
        have el : upd X3 l (.lst [x]) l = some (.lst vk) := by rw [evk]; exact upd_same
        have rk4 := rk3.mono fun k x h => h.same sn
        have hp4 := sn _ _ hp3
        generalize upd X3 l (.lst [x]) = X4 at I4 el rk4 hp4
        have hj := kd_join w1 w0 d1 rk4
        refine ⟨_, rfl, .inl ⟨rfl, _, .inl (.inl I4.ld)⟩, _, rfl, p1, _, 0, _, rfl, rfl, .inl (.inl hp4), head_at _ _, _, rfl, pt :: pd :: Z0, t1.word, l, vk, kd t1, rfl, I4.lS, .inl (.inl el), hj, fun u Y2 hu sY => ?_⟩
        have I5 := I4.same sY
        refine ⟨pd, _, _, rfl, rfl, I5.ld, line_of (by omega), ?_⟩
        have I3 := I5.done (st2 := s0 ++ [kd t1]) (vd2 := v0 ++ [u]) ftd mD nd (I5.rd.app (.one hu))
        refine ⟨_, by rw [em]; omega, es0, vt0, _, _, _, _, _, _, _, _, rfl, I3, rfl, ?_, run2, okE0⟩
        have := says_len t1
        have : 1 ≤ t1.says.length := List.length_pos_iff.mpr w0
        rw [List.length_append, List.length_singleton]
        omega
      · obtain ⟨x, y, evk⟩ : ∃ x y, vk = [x, y] := two_of l2
        have ld3 : X2 pd = some (.lst ((v0 ++ [x]) ++ [y])) := by rw [ld2, evk]; simp
        refine ⟨_, rfl, .inl ⟨rfl, _, .inl (.inl ld3)⟩, pd, _, y, rfl, rfl, ld3, by simp, ?_⟩
        rw [List.dropLast_concat]
        have hpi3 : upd X2 pd (.lst (v0 ++ [x])) pi = some (.lst ws) := by rw [upd_ne npid]; exact hpi
        refine ⟨_, rfl, pi, ws, rfl, .inl (.inl (.inl hpi3)), rfl, _, rfl, iteF' (decide_eq_false (by rw [lws, l2]; intro z; cases z)) ?_⟩
        refine ⟨_, rfl, .inl ⟨rfl, _, .inl (.inl upd_same)⟩, pd, _, x, rfl, rfl, upd_same, by simp, ?_⟩
        rw [List.dropLast_concat]
        have eu : upd (upd X2 pd (.lst (v0 ++ [x]))) pd (.lst v0) = upd X2 pd (.lst v0) := by
          funext b
          by_cases hb : b = pd
          · rw [hb, upd_same, upd_same]
          · rw [upd_ne hb, upd_ne hb, upd_ne hb]
        rw [eu]
        have I3 := I2.done (st2 := s0) (vd2 := v0) ftd mD nd r0
        have hp3 := kq (vs := v0) _ _ hp1
        have rk3 := rk.mono fun k x h => Df.but (H' := upd X2 pd (.lst v0)) mD bq h
        generalize upd X2 pd (.lst v0) = X3 at I3 hp3 rk3
        refine ⟨_, rfl, (by show 2 ≤ sizeLine; decide), fun l nl => ?_⟩
        have sn := same_new (o := .lst [x, y]) nl
        have I4 := I3.same sn
        have el : upd X3 l (.lst [x, y]) l = some (.lst vk) := by rw [evk]; exact upd_same
        have rk4 := rk3.mono fun k x h => h.same sn
        have hp4 := sn _ _ hp3
        generalize upd X3 l (.lst [x, y]) = X4 at I4 el rk4 hp4
        have hj := kd_join w1 w0 d1 rk4
        refine ⟨_, rfl, .inl ⟨rfl, _, .inl (.inl I4.ld)⟩, _, rfl, p1, _, 0, _, rfl, rfl, .inl (.inl hp4), head_at _ _, _, rfl, pt :: pd :: Z0, t1.word, l, vk, kd t1, rfl, I4.lS, .inl (.inl el), hj, fun u Y2 hu sY => ?_⟩
        have I5 := I4.same sY
        refine ⟨pd, _, _, rfl, rfl, I5.ld, line_of (by omega), ?_⟩
        have I3 := I5.done (st2 := s0 ++ [kd t1]) (vd2 := v0 ++ [u]) ftd mD nd (I5.rd.app (.one hu))
        refine ⟨_, by rw [em]; omega, es0, vt0, _, _, _, _, _, _, _, _, rfl, I3, rfl, ?_, run2, okE0⟩
        have := says_len t1
        have : 1 ≤ t1.says.length := List.length_pos_iff.mpr w0
        rw [List.length_append, List.length_singleton]
        omega
    | false =>
      refine iteF ?_
      have muf : mu (t1, false) = 2 * t1.size := rfl
      -- todo.append((piece, True))
      refine ⟨_, rfl, .inl ⟨rfl, _, .inl (.inl I2.lt)⟩, _, rfl, (by show 2 ≤ sizeLine; decide), fun q2 nq2 => ?_⟩
      have s23 := same_new (o := .tup [x1, .bl true]) nq2
      have I3 := I2.same s23
      have hq2 : upd X2 q2 (.tup [x1, .bl true]) q2 = some (.tup [x1, .bl true]) := upd_same
      have hpi3 := s23 _ _ hpi
      have all3 := allw.mono fun a v h => h.keep (tups_same s23)
      have a3 := a2.keep (tups_same s23)
      generalize upd X2 q2 (.tup [x1, .bl true]) = X3 at s23 I3 hq2 hpi3 all3 a3
      have le0 := mus_len es0
      have lr0 := rt0.len
      refine ⟨pt, _, _, rfl, rfl, I3.lt, line_of (by omega), ?_⟩
      have I4 := I3.todo ftd mT newT (es2 := es0 ++ [(t1, true)]) (vt2 := vt0 ++ [.ref q2]) (I3.rt.app (.one ⟨q2, x1, rfl, hq2, a3⟩))
      have npit : pi ≠ pt := fun z => by
        rw [z, I1.lt] at npi
        cases npi
      have npid : pi ≠ pd := fun z => by
        rw [z, I1.ld] at npi
        cases npi
      have hpi4 : upd X3 pt (.lst (vt0 ++ [.ref q2])) pi = some (.lst ws) := by
        rw [upd_ne npit]
        exact hpi3
      have k34 : Tups X3 (upd X3 pt (.lst (vt0 ++ [.ref q2]))) := tups_put fun xs z => by
        rw [I3.lt] at z
        cases z
      have all4 := all3.mono fun a v h => h.keep k34
      generalize upd X3 pt (.lst (vt0 ++ [.ref q2])) = X4 at I4 hpi4 all4
      refine ⟨_, rfl, pi, ws, rfl, .inl (.inl hpi4), for_rev (K := K) (a := pi) (xs := ws) (fun i σ Y => ∃ (vt : List V) (y8 : Option V), σ = [some v, some (.ref pd), some (.ref pt), some x1, some (.bl false), some (.ref pi), y6, y7, y8] ∧
          PendB K (pt :: pd :: Z0) H Y pd pt (es0 ++ [(t1, true)] ++ (t1.says.drop (ws.length - i)).reverse.map fun k => (k, false)) vt st vd ∧ Y pi = some (.lst ws) ∧ All2 (At Y) t1.says ws)
        ⟨vt0 ++ [.ref q2], y8, rfl, ?_, hpi4, all4⟩ (fun i σ Y _ ⟨_, _, _, _, h, _⟩ => .inl (.inl h)) ?_ ?_⟩
      · rw [Nat.sub_zero, ← wl, List.drop_length, List.reverse_nil, List.map_nil, List.append_nil]
        exact I4
      · rintro i x σ Y hi hx ⟨vt, y8, rfl, IY, hpY, alY⟩
        obtain ⟨k, hk, ak⟩ := alY.get hx
        refine ⟨_, rfl, .inl ⟨rfl, _, .inl (.inl IY.lt)⟩, _, rfl, (by show 2 ≤ sizeLine; decide), fun q3 nq3 => ?_⟩
        have sY := same_new (o := .tup [x, .bl false]) nq3
        have IY2 := IY.same sY
        have hq3 : upd Y q3 (.tup [x, .bl false]) q3 = some (.tup [x, .bl false]) := upd_same
        have hpY2 := sY _ _ hpY
        have alY2 := alY.mono fun a v h => h.keep (tups_same sY)
        have ak2 := ak.keep (tups_same sY)
        generalize upd Y q3 (.tup [x, .bl false]) = Y2 at sY IY2 hq3 hpY2 alY2 ak2
        have lvt : vt.length ≤ 5000 := by
          have z := IY2.rt.len
          rw [List.length_append, List.length_append, List.length_map, List.length_reverse, List.length_drop, List.length_singleton] at z
          omega
        refine ⟨pt, _, _, rfl, rfl, IY2.lt, line_of (by omega), ?_⟩
        have I5 := IY2.todo ftd mT newT (vt2 := vt ++ [.ref q3]) (IY2.rt.app (.one (a := (k, false)) ⟨q3, x, rfl, hq3, ak2⟩))
        have kY : Tups Y2 (upd Y2 pt (.lst (vt ++ [.ref q3]))) := tups_put fun xs z => by
          rw [IY2.lt] at z
          cases z
        refine ⟨vt ++ [.ref q3], some x, rfl, ?_, by rw [upd_ne npit]; exact hpY2, alY2.mono fun a v h => h.keep kY⟩
        have ed : (t1.says.drop (ws.length - (i + 1))).reverse = (t1.says.drop (ws.length - i)).reverse ++ [k] := by
          have lt : ws.length - 1 - i < t1.says.length := by omega
          have e1 : ws.length - (i + 1) = ws.length - 1 - i := by omega
          have e2 : ws.length - i = ws.length - 1 - i + 1 := by omega
          rw [e1, e2, List.drop_eq_getElem_cons lt, (List.getElem?_eq_some_iff.mp hk).2, List.reverse_cons]
        rw [ed, List.map_append, ← List.append_assoc]
        exact I5
      · rintro σ Y ⟨vt, y8, rfl, IY, hpY, alY⟩
        rw [Nat.sub_self, List.drop_zero] at IY
        have m1 : mus (t1.says.reverse.map fun k => ((k, false) : Tr × Bool)) = 2 * (t1.says.map Tr.size).sum := by
          rw [mus_kids, List.map_reverse, List.sum_reverse]
        have m2 : mu (t1, true) = 1 := rfl
        have m3 : mus (es0 ++ [(t1, true)] ++ t1.says.reverse.map fun k => ((k, false) : Tr × Bool)) = mus es0 + 1 + 2 * (t1.says.map Tr.size).sum := by
          rw [mus_app, mus_app, mus_one, m1, m2]
        refine ⟨_, ?_, _, vt, st, vd, _, _, _, _, _, _, rfl, IY, rfl, ?_, ?_, fun e he => ?_⟩
        · rw [m3, em]
          omega
        · rw [m3]
          omega
        · rw [List.reverse_append, List.reverse_append, List.reverse_singleton, ← List.map_reverse, List.reverse_reverse]
          refine runs_says _ _ _ _ ⟨st, rfl, w0, ?_⟩
          exact run
        · rcases List.mem_append.mp he with he | he
          · rcases List.mem_append.mp he with he | he
            · exact okE0 e he
            · rw [List.mem_singleton.mp he]
              exact ⟨w1, d1⟩
          · obtain ⟨k, hk, rfl⟩ := List.mem_map.mp he
            have mk := List.mem_reverse.mp hk
            exact ⟨wf_says w1 k mk, Nat.le_trans (says_deep mk) d1⟩
end
end Kf
set_option Elab.async false
set_option linter.all false
set_option maxRecDepth 100000
set_option maxHeartbeats 8000000
set_option pp.maxSteps 300
/-! k21: the law's own look at the kind of a saying. -/
namespace Kf
open PySem PySem.Spec PyProof.Rows L2 Sx
abbrev sTwoL : Stmt := top 19
abbrev sDueL : Stmt := top 20
theorem scTwoL : FnScope ["word", "one", "other", "none"] ["word", "one", "other"] (defScope sTwoL) := ⟨rfl, rfl, rfl, by decide +kernel, rfl, by decide +kernel, by decide +kernel⟩
theorem scDueL : FnScope ["saying", "word", "one"] ["saying"] (defScope sDueL) := ⟨rfl, rfl, rfl, by decide +kernel, rfl, by decide +kernel, by decide +kernel⟩
theorem int_bl (b : Bool) (A : Int → Prop) (h : A (if b then 1 else 0)) : A (if b = true then 1 else 0) := h
theorem no_calls {P : Program} {w : World} {K : PySem.W.Frag} {mg : Str → Option Value} {base : Heap} {f : Addr} {fd : FuncData} {k : Nat} {ps : List Str} {sp : Sp} (no : ∀ vs H Q E, ¬ sp vs H Q E) : FnOk P w K mg base CX0 k f fd ps sp :=
  ⟨fun vs H Q E h => absurd h (no vs H Q E), fun A outer s H args us vs Q E _ _ _ _ h => absurd h (no vs H Q E)⟩
section
variable {P : Program} {w : World} {K : PySem.W.Frag} {mg : Str → Option Value} {base : Heap}
def spTwoL (K : PySem.W.Frag) : Sp := fun vs H Q _ => ∃ (Z : List Addr) (wd : Str) (x y : V) (l r : PyData), vs = [.str wd, x, y] ∧ (wd = "and" ∨ wd = "or" ∨ wd = "if") ∧ LS H Z ∧ Df K Z H x l ∧ Df K Z H y r ∧ Gk l ∧ Gk r ∧ pur l = true ∧ pur r = true ∧ ∀ v H', Df K Z H' v (joinD wd l r) → Same H H' → Q v H'
theorem ok_twoL {f : Addr} {fd : FuncData} {j : Nat} (F : Fun K "_law_two" "_law_two" sTwoL f fd) (zI : mg "int" = none) : FnOk P w K mg base CX0 (j + 1) f fd ["word", "one", "other"] (spTwoL K) := by
  refine F.ok scTwoL (fun vs H Q E h => ?_) (fun cdv A outer s H vs Q E hr h => ?_)
  · obtain ⟨Z, wd, x, y, l, r, rfl, _⟩ := h
    rfl
  obtain ⟨Z, wd, x, y, l, r, rfl, hw, lS, hx, hy, gl, gr, pl, pr, q⟩ := h
  have u1 : (A.deeper (envOfC "_law_two" (defScope sTwoL) s.heap.objs.size f cdv)).units + 130 < cLine := by
    have := hr.un
    omega
  refine ⟨_, pss_cons (ps_set (i := 3) scTwoL.nd rfl (.inl rfl) (pe_tup (pa_cons pe_str pa_nil)))
    (pss_cons (ps_if (pt_cmpR op_eq (pv 0) pe_str (nomark _)) (pss_one (ps_ret (pe_tup (pa_cons pe_str (pa_cons (pv 1) (pa_cons (pv 2) pa_nil)))))) pss_nil)
    (pss_cons (ps_if (pt_cmpR (op_eqW u1) (pv 2) (pv 3) (nomark _)) (pss_one (ps_ret (pe_ix ix_list (pe_lst (pa_cons (pv 3) (pa_cons (pv 1) pa_nil))) (pe_callTy call_int1 (by rfl) zI (by decide +kernel) (pa_cons (pe_cmpR op_eq (pv 0) pe_str (nomark _)) pa_nil)) (fun _ _ => rfl)))) pss_nil)
    (pss_cons (ps_if (pt_cmpR (op_eqW u1) (pv 1) (pv 3) (nomark _)) (pss_one (ps_ret (pv 2))) pss_nil)
    (pss_one (ps_ret (pe_tup (pa_cons (pe_ix ix_list (pe_lst (pa_cons pe_str (pa_cons pe_str pa_nil))) (pe_callTy call_int1 (by rfl) zI (by decide +kernel) (pa_cons (pe_cmpR op_eq (pv 0) pe_str (nomark _)) pa_nil)) (fun _ _ => rfl)) (pa_cons (pv 1) (pa_cons (pv 2) pa_nil))))))))), ?_⟩
  refine ⟨(by show 1 ≤ sizeLine; decide), fun qn nn => ?_⟩
  have sn := same_new (o := .tup [.str "none"]) nn
  have en : upd H qn (.tup [.str "none"]) qn = some (.tup [.str "none"]) := upd_same
  have lS1 := lS.same sn
  have hx1 := hx.same sn
  have hy1 := hy.same sn
  generalize upd H qn (.tup [.str "none"]) = H1 at sn en lS1 hx1 hy1
  have dn : Df K Z H1 (.ref qn) none1 := df1 lS1 en
  have l0 : none1.canLay0 = true := by decide +kernel
  unfold joinD at q
  refine ⟨_, rfl, rfl, _, rfl, eqW (fun eo => ?_) (fun no => ?_)⟩
  · have na : wd ≠ "and" := by rw [eo]; decide +kernel
    rw [if_neg na, if_pos eo] at q
    refine ⟨_, rfl, _, rfl, (by show 3 ≤ sizeLine; decide), fun c nc => ?_⟩
    have s2 := same_new (o := .tup [.str "either", x, y]) nc
    exact q _ _ (df3 (lS1.same s2) upd_same (hx1.same s2) (hy1.same s2)) (sn.trans s2)
  refine ⟨_, rfl, _, rfl, r, none1, hy1.dp, dn.dp, gr.1, l0, Nat.le_trans gr.2 (by decide), _, rfl, ?_⟩
  cases er : PyData.eqv r none1 with
  | true =>
    have e2 := none_is pr er
    refine iteT ⟨_, rfl, _, rfl, (by show 2 ≤ sizeLine; decide), fun c nc => ?_⟩
    have s2 := same_new (o := .lst [.ref qn, x]) nc
    have hx2 := hx1.same s2
    have dn2 := dn.same s2
    refine ⟨_, rfl, rfl, .inr ⟨_, rfl, ?_⟩⟩
    by_cases ea : wd = "and"
    · rw [if_pos ea] at q
      refine ⟨c, _, _, x, rfl, rfl, .inl (.inl upd_same), ?_, q _ _ ?_ (sn.trans s2)⟩
      · rw [ea, decide_eq_true rfl]
        exact atI_nat (j := 1) rfl
      · unfold pairD
        cases el : PyData.eqv l none1 with
        | true =>
          have e3 := none_is pl el
          rw [if_pos rfl, e2, ← e3]
          exact hx2
        | false =>
          rw [if_neg Bool.false_ne_true, if_pos er]
          exact hx2
    · rw [if_neg ea, if_neg no] at q
      refine ⟨c, _, _, .ref qn, rfl, rfl, .inl (.inl upd_same), ?_, q _ _ ?_ (sn.trans s2)⟩
      · rw [decide_eq_false (fun z => ea (by injection z))]
        exact atI_nat (j := 0) rfl
      · unfold fromD
        rw [er, Bool.true_or, Bool.or_true, if_pos rfl, e2]
        exact dn2
  | false =>
    refine iteF ⟨_, rfl, _, rfl, l, none1, hx1.dp, dn.dp, gl.1, l0, Nat.le_trans gl.2 (by decide), _, rfl, ?_⟩
    cases el : PyData.eqv l none1 with
    | true =>
      refine iteT ⟨_, rfl, q _ _ ?_ sn⟩
      by_cases ea : wd = "and"
      · rw [if_pos ea]
        unfold pairD
        rw [if_pos el]
        exact hy1
      · rw [if_neg ea, if_neg no]
        unfold fromD
        rw [el, Bool.true_or, if_pos rfl]
        exact hy1
    | false =>
      refine iteF ⟨(by show 2 ≤ sizeLine; decide), fun c nc => ?_⟩
      have s2 := same_new (o := .lst [.str "from", .str "pair"]) nc
      have hx2 := hx1.same s2
      have hy2 := hy1.same s2
      have lS2 := lS1.same s2
      have ec : upd H1 c (.lst [.str "from", .str "pair"]) c = some (.lst [.str "from", .str "pair"]) := upd_same
      generalize upd H1 c (.lst [.str "from", .str "pair"]) = H2 at s2 hx2 hy2 lS2 ec
      refine ⟨_, rfl, rfl, .inr ⟨_, rfl, ?_⟩⟩
      by_cases ea : wd = "and"
      · rw [if_pos ea] at q
        refine ⟨c, _, _, .str "pair", rfl, rfl, .inl (.inl ec), ?_, _, rfl, _, rfl, (by show 3 ≤ sizeLine; decide), fun c2 nc2 => ?_⟩
        · rw [ea, decide_eq_true rfl]
          exact atI_nat (j := 1) rfl
        · have s3 := same_new (o := .tup [.str "pair", x, y]) nc2
          refine q _ _ ?_ (sn.trans (s2.trans s3))
          unfold pairD
          rw [el, er, if_neg Bool.false_ne_true, if_neg Bool.false_ne_true]
          exact df3 (lS2.same s3) upd_same (hx2.same s3) (hy2.same s3)
      · rw [if_neg ea, if_neg no] at q
        refine ⟨c, _, _, .str "from", rfl, rfl, .inl (.inl ec), ?_, _, rfl, _, rfl, (by show 3 ≤ sizeLine; decide), fun c2 nc2 => ?_⟩
        · rw [decide_eq_false (fun z => ea (by injection z))]
          exact atI_nat (j := 0) rfl
        · have s3 := same_new (o := .tup [.str "from", x, y]) nc2
          refine q _ _ ?_ (sn.trans (s2.trans s3))
          unfold fromD
          rw [el, er, Bool.or_false, Bool.or_false, if_neg Bool.false_ne_true]
          exact df3 (lS2.same s3) upd_same (hx2.same s3) (hy2.same s3)
/-! ### _law_due -/
def spDueL (K : PySem.W.Frag) (n : Nat) : Sp := fun vs H Q _ => ∃ (Z : List Addr) (v : V) (t : Tr), vs = [v] ∧ LS H Z ∧ At H t v ∧ t.Wf kS ∧ t.deep ≤ n ∧ t.deep ≤ 90 ∧ ∀ u H', Df K Z H' u (kd t) → Same H H' → Q u H'
theorem ok_dueL {f g : Addr} {fd gd : FuncData} {n : Nat} (F : Fun K "_law_due" "_law_due" sDueL f fd) (G : FnOk P w K mg base CX0 1 g gd ["word", "one", "other"] (spTwoL K)) (bG : L2.Binds K gd ["word", "one", "other"] []) (kG : PySem.W.keepIn K (.ref g) = true) (mG : mg "_law_two" = some (.ref g)) (zI : mg "int" = none)
    (S : FnOk P w K mg base CX0 (n + 1) f fd ["saying"] (spDueL K n)) (bS : L2.Binds K fd ["saying"] []) (mS : mg "_law_due" = some (.ref f)) : FnOk P w K mg base CX0 (n + 1 + 1) f fd ["saying"] (spDueL K (n + 1)) := by
  refine F.ok scDueL (fun vs H Q E h => ?_) (fun cdv A outer s H vs Q E hr h => ?_)
  · obtain ⟨Z, v, t, rfl, _⟩ := h
    rfl
  obtain ⟨Z, v, t, rfl, lS, hA, hW, hd, d90, q⟩ := h
  have h1 : Room 1 _ := hr.mono (by omega)
  have u1 : (A.deeper (envOfC "_law_due" (defScope sDueL) s.heap.objs.size f cdv)).units + 130 < cLine := by
    have := hr.un
    omega
  refine ⟨_, pss_cons (ps_set (i := 1) scDueL.nd rfl (.inl rfl) (pe_ix ix_tup (pv 0) pe_int (fun _ _ => rfl)))
    (pss_cons (ps_if (pt_cmpR op_in_seq (pv 1) (pe_tup (pa_cons pe_str (pa_cons pe_str pa_nil))) (by rfl)) (pss_one (ps_ret (pe_tup (pa_cons pe_str pa_nil)))) pss_nil)
    (pss_cons (ps_set (i := 2) scDueL.nd rfl (.inl rfl) (pe_call S hr (by rfl) mS F.kp bS .nil pass0 (pa_cons (pe_ix ix_tup (pv 0) pe_int (fun _ _ => rfl)) pa_nil)))
    (pss_cons (ps_if (pt_cmpR op_in_seq (pv 1) (pe_tup (pa_cons pe_str (pa_cons pe_str (pa_cons pe_str pa_nil)))) (by rfl)) (pss_one (ps_ret (pe_call G h1 (by rfl) mG kG bG .nil pass0 (pa_cons (pv 1) (pa_cons (pv 2) (pa_cons (pe_call S hr (by rfl) mS F.kp bS .nil pass0 (pa_cons (pe_ix ix_tup (pv 0) pe_int (fun _ _ => rfl)) pa_nil)) pa_nil)))))) pss_nil)
    (pss_cons (ps_if (pt_cmpR (op_eqW u1) (pv 2) (pe_tup (pa_cons pe_str pa_nil)) (nomark _)) (pss_one (ps_ret (pe_ix ix_list (pe_lst (pa_cons (pv 2) (pa_cons (pe_tup (pa_cons pe_str pa_nil)) pa_nil))) (pe_callTy call_int1 (by rfl) zI (by decide +kernel) (pa_cons (pe_cmpR op_eq (pv 1) pe_str (nomark _)) pa_nil)) (fun _ _ => rfl)))) pss_nil)
    (pss_one (ps_ret (pe_tup (pa_cons (pe_ix ix_list (pe_lst (pa_cons pe_str (pa_cons pe_str pa_nil))) (pe_callTy call_int1 (by rfl) zI (by decide +kernel) (pa_cons (pe_cmpR op_eq (pv 1) pe_str (nomark _)) pa_nil)) (fun _ _ => rfl)) (pa_cons (pe_tup (pa_cons pe_str pa_nil)) (pa_cons (pv 2) pa_nil)))))))))), ?_⟩
  obtain ⟨p1, us, rfl, hp1, lus, kids, _⟩ := hA.view (wf_ok hW)
  refine ⟨_, rfl, p1, _, 0, _, rfl, rfl, .inl (.inl hp1), head_at _ _, ?_⟩
  dsimp only [gName, List.set]
  refine ⟨_, rfl, (by show 2 ≤ sizeLine; decide), fun m nm => ?_⟩
  have s1 := same_new (o := .tup [.str "same", .str "no"]) nm
  have em : upd H m (.tup [.str "same", .str "no"]) m = some (.tup [.str "same", .str "no"]) := upd_same
  have lS1 := lS.same s1
  have hp2 := s1 _ _ hp1
  have hA1 := hA.keep (tups_same s1)
  generalize upd H m (.tup [.str "same", .str "no"]) = H1 at s1 em lS1 hp2 hA1
  refine ⟨m, [.str "same", .str "no"], rfl, .inr (.inl (.inl em)), rfl, rfl, _, rfl, ?_⟩
  have i2 : ∀ a b wd : Str, inV (.str wd) [.str a, .str b] = (decide (a = wd) || decide (b = wd)) := fun a b wd => by
    show (eqV (.str a) (.str wd) || (eqV (.str b) (.str wd) || false)) = _
    rw [Bool.or_false]
    rfl
  have i3 : ∀ a b c wd : Str, inV (.str wd) [.str a, .str b, .str c] = (decide (a = wd) || (decide (b = wd) || decide (c = wd))) := fun a b c wd => by
    show (eqV (.str a) (.str wd) || (eqV (.str b) (.str wd) || (eqV (.str c) (.str wd) || false))) = _
    rw [Bool.or_false]
    rfl
  have leafK : t.word = "same" ∨ t.word = "no" → kd t = none1 := fun h => by
    cases t with
    | leaf w x => rfl
    | n0 w => rfl
    | n1 w a =>
      have e : w = "same" ∨ w = "no" := h
      rcases (wf_one hW).1 with z | z <;> rcases e with y | y <;> rw [z] at y <;> exact absurd y (by decide +kernel)
    | n2 w a b =>
      have e : w = "same" ∨ w = "no" := h
      rcases wf_two hW with ⟨z, _⟩ | ⟨_, z, _⟩
      · show (if w = "same" then none1 else _) = none1
        rw [if_pos z]
      · rcases z with z | z | z <;> rcases e with y | y <;> rw [z] at y <;> exact absurd y (by decide +kernel)
  have nl := nleaf hW
  have kd_ := kids nl
  cases t with
  | leaf w x => exact (no_leaf nl (wf_ok (t := .leaf w x) hW).1).elim
  | n0 w =>
    have ew : w = "no" := row0 _ hW rfl rfl
    subst ew
    have e1 : inV (.str (Tr.n0 "no").word) [.str "same", .str "no"] = true := by
      rw [i2]
      show (decide (_ = _) || decide (_ = _)) = true
      decide +kernel
    refine iteT' e1 ⟨(by show 1 ≤ sizeLine; decide), fun c nc => ?_⟩
    have s2 := same_new (o := .tup [.str "none"]) nc
    exact q _ _ (df1 (lS1.same s2) upd_same) (s1.trans s2)
  | n1 w a =>
    obtain ⟨hw, ha, _⟩ := wf_one hW
    have kd1 : All2 (At H) [a] us := kd_
    cases kd1 with
    | @cons _ xa _ _ haa rr =>
    cases rr
    have hp2 : H1 p1 = some (.tup [.str w, xa]) := hp2
    have e1 : inV (.str w) [.str "same", .str "no"] = false := by
      rw [i2]
      rcases hw with e | e <;> rw [e] <;> decide +kernel
    have dd : a.deep + 1 ≤ n + 1 := hd
    have d9 : a.deep + 1 ≤ 90 := d90
    refine iteF' e1 ⟨_, rfl, p1, _, 1, xa, rfl, rfl, .inl (.inl hp2), atI_nat (j := 1) rfl, Z, xa, a, rfl, lS1, haa.keep (tups_same s1), ha, by omega, by omega, fun u H2 hu s2 => ?_⟩
    have lS2 := lS1.same s2
    refine ⟨_, rfl, (by show 3 ≤ sizeLine; decide), fun m2 nm2 => ?_⟩
    have s3 := same_new (o := .tup [.str "and", .str "or", .str "if"]) nm2
    have em2 : upd H2 m2 (.tup [.str "and", .str "or", .str "if"]) m2 = some (.tup [.str "and", .str "or", .str "if"]) := upd_same
    have hu3 := hu.same s3
    have lS3 := lS2.same s3
    generalize upd H2 m2 (.tup [.str "and", .str "or", .str "if"]) = H3 at s3 em2 hu3 lS3
    have e2 : inV (.str w) [.str "and", .str "or", .str "if"] = false := by
      rw [i3]
      rcases hw with e | e <;> rw [e] <;> decide +kernel
    refine ⟨m2, [.str "and", .str "or", .str "if"], rfl, .inr (.inl (.inl em2)), rfl, rfl, _, rfl, iteF' e2 ?_⟩
    refine ⟨_, rfl, (by show 1 ≤ sizeLine; decide), fun qn nn => ?_⟩
    have s4 := same_new (o := .tup [.str "none"]) nn
    have hu4 := hu3.same s4
    have lS4 := lS3.same s4
    have en : upd H3 qn (.tup [.str "none"]) qn = some (.tup [.str "none"]) := upd_same
    generalize upd H3 qn (.tup [.str "none"]) = H4 at s4 en hu4 lS4
    have dn : Df K Z H4 (.ref qn) none1 := df1 lS4 en
    have S14 := s1.trans (s2.trans (s3.trans s4))
    have gk := gk_kd (t := a) (by omega)
    have px := (kx_kd a).pur
    refine ⟨kd a, none1, hu4.dp, dn.dp, gk.1, by decide +kernel, Nat.le_trans gk.2 (by decide), _, rfl, ?_⟩
    have q2 : ∀ u H', Df K Z H' u (oneD w (kd a)) → Same H H' → Q u H' := q
    unfold oneD at q2
    have nn0 : PyData.eqv num1 none1 = false := by decide +kernel
    cases ea : PyData.eqv (kd a) none1 with
    | true =>
      have e3 := none_is px ea
      refine iteT ⟨_, rfl, (by show 1 ≤ sizeLine; decide), fun qm nqm => ?_⟩
      have s5 := same_new (o := .tup [.str "number"]) nqm
      have em5 : upd H4 qm (.tup [.str "number"]) qm = some (.tup [.str "number"]) := upd_same
      have hu5 := hu4.same s5
      have lS5 := lS4.same s5
      generalize upd H4 qm (.tup [.str "number"]) = H5 at s5 em5 hu5 lS5
      refine ⟨(by show 2 ≤ sizeLine; decide), fun c nc => ?_⟩
      have s6 := same_new (o := .lst [u, .ref qm]) nc
      have S16 := S14.trans (s5.trans s6)
      refine ⟨_, rfl, rfl, .inr ⟨_, rfl, ?_⟩⟩
      by_cases es : w = "some"
      · have na : w ≠ "all" := by rw [es]; decide +kernel
        rw [if_neg na] at q2
        refine ⟨c, _, _, .ref qm, rfl, rfl, .inl (.inl upd_same), ?_, q2 _ _ ?_ S16⟩
        · rw [show decide (V.str (Tr.n1 w a).word = V.str "some") = true from decide_eq_true (by show V.str w = _; rw [es])]
          exact atI_nat (j := 1) rfl
        · unfold pairD
          rw [nn0, ea, if_neg Bool.false_ne_true, if_pos rfl]
          exact (df1 lS5 em5).same s6
      · have ya : w = "all" := hw.resolve_right es
        rw [if_pos ya] at q2
        refine ⟨c, _, _, u, rfl, rfl, .inl (.inl upd_same), ?_, q2 _ _ ?_ S16⟩
        · rw [decide_eq_false (fun z => es (by injection z))]
          exact atI_nat (j := 0) rfl
        · unfold fromD
          rw [ea, Bool.true_or, Bool.or_true, if_pos rfl]
          exact hu5.same s6
    | false =>
      refine iteF ⟨(by show 2 ≤ sizeLine; decide), fun c nc => ?_⟩
      have s5 := same_new (o := .lst [.str "from", .str "pair"]) nc
      have hu5 := hu4.same s5
      have lS5 := lS4.same s5
      have ec : upd H4 c (.lst [.str "from", .str "pair"]) c = some (.lst [.str "from", .str "pair"]) := upd_same
      generalize upd H4 c (.lst [.str "from", .str "pair"]) = H5 at s5 ec hu5 lS5
      refine ⟨_, rfl, rfl, .inr ⟨_, rfl, ?_⟩⟩
      by_cases es : w = "some"
      · have na : w ≠ "all" := by rw [es]; decide +kernel
        rw [if_neg na] at q2
        refine ⟨c, _, _, .str "pair", rfl, rfl, .inl (.inl ec), ?_, (by show 1 ≤ sizeLine; decide), fun qm nqm => ?_⟩
        · rw [show decide (V.str (Tr.n1 w a).word = V.str "some") = true from decide_eq_true (by show V.str w = _; rw [es])]
          exact atI_nat (j := 1) rfl
        · have s6 := same_new (o := .tup [.str "number"]) nqm
          have em6 : upd H5 qm (.tup [.str "number"]) qm = some (.tup [.str "number"]) := upd_same
          have hu6 := hu5.same s6
          have lS6 := lS5.same s6
          generalize upd H5 qm (.tup [.str "number"]) = H6 at s6 em6 hu6 lS6
          refine ⟨_, rfl, (by show 3 ≤ sizeLine; decide), fun c2 nc2 => ?_⟩
          have s7 := same_new (o := .tup [.str "pair", .ref qm, u]) nc2
          refine q2 _ _ ?_ (S14.trans (s5.trans (s6.trans s7)))
          unfold pairD
          rw [nn0, ea, if_neg Bool.false_ne_true, if_neg Bool.false_ne_true]
          exact df3 (lS6.same s7) upd_same ((df1 lS6 em6).same s7) (hu6.same s7)
      · have ya : w = "all" := hw.resolve_right es
        rw [if_pos ya] at q2
        refine ⟨c, _, _, .str "from", rfl, rfl, .inl (.inl ec), ?_, (by show 1 ≤ sizeLine; decide), fun qm nqm => ?_⟩
        · rw [decide_eq_false (fun z => es (by injection z))]
          exact atI_nat (j := 0) rfl
        · have s6 := same_new (o := .tup [.str "number"]) nqm
          have em6 : upd H5 qm (.tup [.str "number"]) qm = some (.tup [.str "number"]) := upd_same
          have hu6 := hu5.same s6
          have lS6 := lS5.same s6
          generalize upd H5 qm (.tup [.str "number"]) = H6 at s6 em6 hu6 lS6
          refine ⟨_, rfl, (by show 3 ≤ sizeLine; decide), fun c2 nc2 => ?_⟩
          have s7 := same_new (o := .tup [.str "from", .ref qm, u]) nc2
          refine q2 _ _ ?_ (S14.trans (s5.trans (s6.trans s7)))
          unfold fromD
          rw [nn0, ea, Bool.or_false, Bool.or_false, if_neg Bool.false_ne_true]
          exact df3 (lS6.same s7) upd_same ((df1 lS6 em6).same s7) (hu6.same s7)
  | n2 w a b =>
    have kd2 : All2 (At H) [a, b] us := kd_
    cases kd2 with
    | @cons _ xa _ _ haa rr =>
    cases rr with
    | @cons _ xb _ _ hbb rr2 =>
    cases rr2
    have hp2 : H1 p1 = some (.tup [.str w, xa, xb]) := hp2
    rcases wf_two hW with ⟨ew, _⟩ | ⟨ns, hw, ha, hb, _⟩
    · have e1 : inV (.str w) [.str "same", .str "no"] = true := by
        rw [i2, ew]
        decide +kernel
      refine iteT' e1 ⟨(by show 1 ≤ sizeLine; decide), fun c nc => ?_⟩
      have s2 := same_new (o := .tup [.str "none"]) nc
      have qk := leafK (.inl ew)
      exact q _ _ (by rw [qk]; exact df1 (lS1.same s2) upd_same) (s1.trans s2)
    · have e1 : inV (.str w) [.str "same", .str "no"] = false := by
        rw [i2]
        rcases hw with e | e | e <;> rw [e] <;> decide +kernel
      have dd : max a.deep b.deep + 1 ≤ n + 1 := hd
      have d9 : max a.deep b.deep + 1 ≤ 90 := d90
      refine iteF' e1 ⟨_, rfl, p1, _, 1, xa, rfl, rfl, .inl (.inl hp2), atI_nat (j := 1) rfl, Z, xa, a, rfl, lS1, haa.keep (tups_same s1), ha, by omega, by omega, fun u H2 hu s2 => ?_⟩
      have lS2 := lS1.same s2
      have hp3 := s2 _ _ hp2
      refine ⟨_, rfl, (by show 3 ≤ sizeLine; decide), fun m2 nm2 => ?_⟩
      have s3 := same_new (o := .tup [.str "and", .str "or", .str "if"]) nm2
      have em2 : upd H2 m2 (.tup [.str "and", .str "or", .str "if"]) m2 = some (.tup [.str "and", .str "or", .str "if"]) := upd_same
      have hu3 := hu.same s3
      have lS3 := lS2.same s3
      have hp4 := s3 _ _ hp3
      generalize upd H2 m2 (.tup [.str "and", .str "or", .str "if"]) = H3 at s3 em2 hu3 lS3 hp4
      have e2 : inV (.str w) [.str "and", .str "or", .str "if"] = true := by
        rw [i3]
        rcases hw with e | e | e <;> rw [e] <;> decide +kernel
      refine ⟨m2, [.str "and", .str "or", .str "if"], rfl, .inr (.inl (.inl em2)), rfl, rfl, _, rfl, iteT' e2 ?_⟩
      have S13 := s1.trans (s2.trans s3)
      refine ⟨_, rfl, _, rfl, _, rfl, p1, _, 2, xb, rfl, rfl, .inl (.inl hp4), atI_nat (j := 2) rfl, Z, xb, b, rfl, lS3, hbb.keep (tups_same S13), hb, by omega, by omega, fun u2 H5 hu2 s5 => ?_⟩
      refine ⟨Z, w, u, u2, kd a, kd b, rfl, hw, lS3.same s5, hu3.same s5, hu2, gk_kd (by omega), gk_kd (by omega), (kx_kd a).pur, (kx_kd b).pur, fun v H6 hv s6 => ?_⟩
      refine q v H6 ?_ (S13.trans (s5.trans s6))
      show Df K Z H6 v (if w = "same" then none1 else joinD w (kd a) (kd b))
      rw [if_neg ns]
      exact hv
theorem ok_duesL {f g : Addr} {fd gd : FuncData} (F : Fun K "_law_due" "_law_due" sDueL f fd) (G : FnOk P w K mg base CX0 1 g gd ["word", "one", "other"] (spTwoL K)) (bG : L2.Binds K gd ["word", "one", "other"] []) (kG : PySem.W.keepIn K (.ref g) = true) (mG : mg "_law_two" = some (.ref g)) (zI : mg "int" = none)
    (bS : L2.Binds K fd ["saying"] []) (mS : mg "_law_due" = some (.ref f)) : ∀ n : Nat, FnOk P w K mg base CX0 (n + 1) f fd ["saying"] (spDueL K n)
  | 0 => no_calls fun vs H Q E h => by
    obtain ⟨Z, v, t, _, _, _, _, hd, _⟩ := h
    have := deep_pos t
    omega
  | n + 1 => ok_dueL F G bG kG mG zI (ok_duesL F G bG kG mG zI bS mS n) bS mS
end
end Kf
set_option Elab.async false
set_option linter.all false
set_option maxRecDepth 100000
set_option maxHeartbeats 8000000
set_option pp.maxSteps 300
/-! k21: drawn terms and sayings. -/
namespace Kf
open PySem PySem.Spec PyProof.Rows L2 Sx
abbrev sTermL : Stmt := top 16
abbrev sSayL : Stmt := top 17
theorem scTermL : FnScope ["dice", "deep", "loose", "way", "one"] ["dice", "deep", "loose"] (defScope sTermL) := ⟨rfl, rfl, rfl, by decide +kernel, rfl, by decide +kernel, by decide +kernel⟩
theorem scSayL : FnScope ["dice", "deep", "loose", "way", "one"] ["dice", "deep", "loose"] (defScope sSayL) := ⟨rfl, rfl, rfl, by decide +kernel, rfl, by decide +kernel, by decide +kernel⟩
/-- a made tree -/
structure Made (k : Str) (d : Nat) (t : Tr) : Prop where
  wf : t.Wf k
  dp : t.deep ≤ d
theorem Made.up {k : Str} {d e : Nat} {t : Tr} (h : Made k d t) (le : d ≤ e) : Made k e t := ⟨h.wf, Nat.le_trans h.dp le⟩
theorem made_num {n : Int} (h0 : 0 ≤ n) (h1 : n < 10 ^ 60) : Made kT 1 (.leaf "num" (.int n)) := ⟨⟨rfl, .inl ⟨.inl rfl, n, rfl, h0, h1⟩⟩, Nat.le_refl 1⟩
theorem made_bound {n : Int} (h0 : 0 ≤ n) (h1 : n < 10 ^ 60) : Made kT 1 (.leaf "bound" (.int n)) := ⟨⟨rfl, .inl ⟨.inr rfl, n, rfl, h0, h1⟩⟩, Nat.le_refl 1⟩
theorem made_name {x : Str} (h : NmOk x ∧ x.length ≤ 8) : Made kT 1 (.leaf "name" (.str x)) := ⟨⟨rfl, .inr ⟨rfl, x, rfl, h.1, h.2⟩⟩, Nat.le_refl 1⟩
theorem made_no : Made kS 1 (.n0 "no") := ⟨no_row, Nat.le_refl 1⟩
theorem made_one {k k1 w : Str} {d : Nat} {a : Tr} (hw : (w, k, [k1]) ∈ table) (h : Made k1 d a) : Made k (d + 1) (.n1 w a) := ⟨⟨k1, hw, h.wf⟩, Nat.succ_le_succ h.dp⟩
theorem made_two {k k1 k2 w : Str} {d : Nat} {a b : Tr} (hw : (w, k, [k1, k2]) ∈ table) (h : Made k1 d a) (g : Made k2 d b) : Made k (d + 1) (.n2 w a b) := ⟨⟨k1, k2, hw, h.wf, g.wf⟩, Nat.succ_le_succ (Nat.max_le.mpr ⟨h.dp, g.dp⟩)⟩
def Out (p L : Addr) (H : Hp) (k : Str) (d : Nat) (m : Int) (Q : VK) : Prop := ∀ t v H', Made k d t → At H' t v → But p H H' → DiceAt H' p L m → Q v H'
def ct (d : Nat) : Int := 6 * 2 ^ d - 2
def cy (d : Nat) : Int := 24 * 2 ^ d - 2
section
variable {P : Program} {w : World} {K : PySem.W.Frag} {mg : Str → Option Value} {base : Heap}
def spTermL (n : Nat) : Sp := fun vs H Q _ => ∃ (p L : Addr) (d : Nat) (r m : Int), vs = [.ref p, .int (d : Int), .int r] ∧ d + 1 ≤ n ∧ r ≤ 1000 ∧ m + ct d < 2 ^ 50 ∧ DiceAt H p L m ∧ Out p L H kT (d + 1) (m + ct d) Q
theorem ok_termL {f fr fp : Addr} {fd dr dp : FuncData} {n : Nat} (F : Fun K "_law_term" "_law_term" sTermL f fd) (D : Draw P w K mg base fr fp dr dp) (S : FnOk P w K mg base CX0 (2 + n) f fd ["dice", "deep", "loose"] (spTermL n)) (bS : L2.Binds K fd ["dice", "deep", "loose"] []) (mS : mg "_law_term" = some (.ref f)) :
    FnOk P w K mg base CX0 (2 + n + 1) f fd ["dice", "deep", "loose"] (spTermL (n + 1)) := by
  refine F.ok scTermL (fun vs H Q E h => ?_) (fun cdv A outer s H vs Q E hr h => ?_)
  · obtain ⟨p, L, d, r, m, rfl, _⟩ := h
    rfl
  obtain ⟨p, L, d, r, m, rfl, dn, r1, mc, hD, q⟩ := h
  have h1 : Room 1 _ := hr.mono (by omega)
  have h2 : Room 2 _ := hr.mono (by omega)
  refine ⟨_, pss_cons (ps_set (i := 3) scTermL.nd rfl (.inl rfl) (pe_call D.R h1 (by rfl) D.mR D.kR D.bR .nil pass0 (pa_cons (pv 0) (pa_cons pe_int pa_nil))))
    (pss_cons (ps_if (PW.pt (pw_and (pt_cmpR op_lt (pv 3) pe_int (nomark _)) (pw_and1 (pt_cmpR op_gt (pv 2) pe_int (nomark _))))) (pss_one (ps_ret (pe_tup (pa_cons pe_str (pa_cons (pe_call D.R h1 (by rfl) D.mR D.kR D.bR .nil pass0 (pa_cons (pv 0) (pa_cons (pv 2) pa_nil))) pa_nil))))) pss_nil)
    (pss_cons (ps_if (PW.pt (pw_or (pt_cmpR op_eq (pv 1) pe_int (nomark _)) (pw_or1 (pt_cmpR op_lt (pv 3) pe_int (nomark _)))))
      (pss_one (ps_ret (pe_call D.Pk h2 (by rfl) D.mP D.kP D.bP .nil pass0 (pa_cons (pv 0) (pa_cons (pe_lst (pa_cons (pe_tup (pa_cons pe_str (pa_cons (pe_call D.R h1 (by rfl) D.mR D.kR D.bR .nil pass0 (pa_cons (pv 0) (pa_cons pe_int pa_nil))) pa_nil)))
        (pa_cons (pe_tup (pa_cons pe_str (pa_cons pe_str pa_nil))) (pa_cons (pe_tup (pa_cons pe_str (pa_cons (pe_call D.R h1 (by rfl) D.mR D.kR D.bR .nil pass0 (pa_cons (pv 0) (pa_cons (pe_op op_pow pe_int pe_int) pa_nil))) pa_nil))) pa_nil)))) pa_nil))))) pss_nil)
    (pss_cons (ps_set (i := 4) scTermL.nd rfl (.inl rfl) (pe_call S hr (by rfl) mS F.kp bS .nil pass0 (pa_cons (pv 0) (pa_cons (pe_op op_sub (pv 1) pe_int) (pa_cons (pv 2) pa_nil)))))
    (pss_cons (ps_if (pt_cmpR op_eq (pv 3) pe_int (nomark _)) (pss_one (ps_ret (pe_tup (pa_cons pe_str (pa_cons (pv 4) pa_nil))))) pss_nil)
    (pss_one (ps_ret (pe_tup (pa_cons (pe_ix ix_list (pe_lst (pa_cons pe_str (pa_cons pe_str pa_nil))) (pe_op op_sub (pv 3) pe_int) (fun _ _ => rfl)) (pa_cons (pv 4) (pa_cons (pe_call S hr (by rfl) mS F.kp bS .nil pass0 (pa_cons (pv 0) (pa_cons (pe_op op_sub (pv 1) pe_int) (pa_cons (pv 2) pa_nil)))) pa_nil)))))))))), ?_⟩
  have c0 : ∀ d : Nat, 4 ≤ ct d := fun d => by
    have z : (1 : Int) ≤ 2 ^ d := Int.one_le_two_pow_ d
    unfold ct
    omega
  have cS : ∀ d : Nat, ct (d + 1) = 2 + ct d + ct d := fun d => by
    unfold ct
    rw [Int.pow_succ]
    omega
  have cd := c0 d
  refine ⟨_, rfl, p, L, 8, m, rfl, by decide, by decide, by omega, hD, fun way H1 w0 w8 b1 hD1 => ?_⟩
  apply join (C := fun X => But p H X ∧ DiceAt X p L (m + 1))
  · intro rest
    refine ⟨_, rfl, _, _, rfl, rfl, _, rfl, ?_⟩
    refine ite2 (fun c => ?_) (fun c => iteF (rest H1 ⟨b1, hD1⟩))
    refine ⟨_, rfl, _, _, rfl, rfl, _, rfl, ?_⟩
    refine ite2 (fun c2 => ?_) (fun c2 => rest H1 ⟨b1, hD1⟩)
    have rp : 0 < r := of_decide_eq_true c2
    refine ⟨_, rfl, _, rfl, p, L, r, m + 1, rfl, rp, Nat.lt_of_le_of_lt (show r.natAbs ≤ 1000 by omega) (by decide), by omega, hD1, fun k H2 k0 k1 b2 hD2 => ?_⟩
    refine ⟨(by show 2 ≤ sizeLine; decide), fun t nt => ?_⟩
    have sn := same_new (o := .tup [.str "bound", .int k]) nt
    exact q _ _ _ ((made_bound k0 (Int.lt_of_lt_of_le k1 (Int.le_trans r1 (by decide)))).up (by omega)) ⟨t, rfl, upd_same⟩ ((b1.trans b2).new nt) ((hD2.same sn).more (by omega))
  · rintro X ⟨b1, hD1⟩
    apply join (C := fun Y => 0 < d ∧ 5 ≤ way ∧ Y = X)
    · intro rest
      refine ⟨_, rfl, rfl, _, rfl, ?_⟩
      apply join (C := fun Y => Y = X)
      · intro base_
        refine ite2 (fun c => iteT (base_ X rfl)) (fun c => ?_)
        refine ⟨_, rfl, _, _, rfl, rfl, _, rfl, ?_⟩
        refine ite2 (fun c2 => base_ X rfl) (fun c2 => rest X ⟨?_, Int.not_lt.mp fun z => c2 (decide_eq_true z), rfl⟩)
        rcases Nat.eq_zero_or_pos d with e | e
        · exact (c (decide_eq_true (by rw [e]; rfl))).elim
        · exact e
      · rintro Y rfl
        refine ⟨_, rfl, _, rfl, p, L, 4, m + 1, rfl, by decide, by decide, by omega, hD1, fun g1 H2 g10 g11 b2 hD2 => ?_⟩
        refine ⟨(by show 2 ≤ sizeLine; decide), fun q1 n1 => ?_⟩
        have s1 := same_new (o := .tup [.str "num", .int g1]) n1
        have e1 : upd H2 q1 (.tup [.str "num", .int g1]) q1 = _ := upd_same
        have hD3 := hD2.same s1
        generalize upd H2 q1 (.tup [.str "num", .int g1]) = H3 at s1 e1 hD3
        refine ⟨(by show 2 ≤ sizeLine; decide), fun q2 n2 => ?_⟩
        have s2 := same_new (o := .tup [.str "name", .str "x"]) n2
        have e2 : upd H3 q2 (.tup [.str "name", .str "x"]) q2 = _ := upd_same
        have hD4 := hD3.same s2
        generalize upd H3 q2 (.tup [.str "name", .str "x"]) = H4 at s2 e2 hD4
        refine ⟨_, rfl, _, _, rfl, rfl, ⟨by decide, by decide, by decide⟩, p, L, 10 ^ 59, m + 1 + 1, rfl, by decide, by decide +kernel, by omega, hD4, fun g2 H5 g20 g21 b5 hD5 => ?_⟩
        refine ⟨(by show 2 ≤ sizeLine; decide), fun q3 n3 => ?_⟩
        have s3 := same_new (o := .tup [.str "num", .int g2]) n3
        have e3 : upd H5 q3 (.tup [.str "num", .int g2]) q3 = _ := upd_same
        have hD6 := hD5.same s3
        generalize upd H5 q3 (.tup [.str "num", .int g2]) = H6 at s3 e3 hD6
        refine ⟨(by show 3 ≤ sizeLine; decide), fun l nl => ?_⟩
        have s4 := same_new (o := .lst [.ref q1, .ref q2, .ref q3]) nl
        have e4 : upd H6 l (.lst [.ref q1, .ref q2, .ref q3]) l = _ := upd_same
        have hD7 := hD6.same s4
        have nlp := hD6.ne nl
        have k23 := (tups_same s2).trans ((hD4.tups b5).trans ((tups_same s3).trans (tups_same s4)))
        have bb : But p H (upd H6 l (.lst [.ref q1, .ref q2, .ref q3])) := (((b1.trans b2).trans (but_same (s1.trans s2))).trans b5).trans (but_same (s3.trans s4))
        have E1 := k23 _ _ e1
        have E2 := ((hD4.tups b5).trans ((tups_same s3).trans (tups_same s4))) _ _ e2
        have E3 := s4 _ _ e3
        generalize upd H6 l (.lst [.ref q1, .ref q2, .ref q3]) = H7 at s4 e4 hD7 bb E1 E2 E3
        refine ⟨p, l, L, _, m + 1 + 1 + 1, rfl, .inl (.inl e4), nlp, (by show 0 < 3; decide), (by show 3 ≤ 1000; decide), by omega, hD7, fun x mem H8 b8 hD8 => ?_⟩
        have k8 := hD7.tups b8
        rcases List.mem_cons.mp mem with rfl | mem
        · exact q _ _ _ ((made_num g10 (Int.lt_trans g11 (by decide))).up (by omega)) ⟨q1, rfl, k8 _ _ E1⟩ (bb.trans b8) (hD8.more (by omega))
        rcases List.mem_cons.mp mem with rfl | mem
        · exact q _ _ _ ((made_name (by decide +kernel)).up (by omega)) ⟨q2, rfl, k8 _ _ E2⟩ (bb.trans b8) (hD8.more (by omega))
        · rw [List.mem_singleton.mp mem]
          exact q _ _ _ ((made_num g20 (Int.lt_trans g21 (by decide))).up (by omega)) ⟨q3, rfl, k8 _ _ E3⟩ (bb.trans b8) (hD8.more (by omega))
    · rintro Y ⟨dpos, w5, rfl⟩
      obtain ⟨e, rfl⟩ : ∃ e, d = e + 1 := ⟨d - 1, by omega⟩
      have ce := c0 e
      have cs := cS e
      have down : (((e + 1 : Nat) : Int) - 1) = (e : Int) := by omega
      refine ⟨_, rfl, _, rfl, _, _, rfl, rfl, _, rfl, p, L, e, r, m + 1, by show [V.ref p, V.int (((e + 1 : Nat) : Int) - 1), V.int r] = _; rw [down], by omega, r1, by omega, hD1, fun t1 v1 H2 k1 a1 b2 hD2 => ?_⟩
      have bb2 : But p H H2 := b1.trans b2
      refine ⟨_, rfl, rfl, _, rfl, ?_⟩
      refine ite2 (fun c4 => ?_) (fun c4 => ?_)
      · refine ⟨_, rfl, (by show 2 ≤ sizeLine; decide), fun t nt => ?_⟩
        have sn := same_new (o := .tup [.str "next", v1]) nt
        exact q (.n1 "next" t1) _ _ ((made_one (k := kT) (w := "next") (by decide +kernel) k1).up (by omega)) ⟨t, v1, rfl, upd_same, a1.keep (tups_same sn)⟩ (bb2.new nt) ((hD2.same sn).more (by omega))
      · have w67 : way = 6 ∨ way = 7 := by
          have n5 : way ≠ 5 := fun z => c4 (by rw [z]; exact decide_eq_true rfl)
          omega
        have wd2 : ∃ wd : Str, (wd, kT, [kT, kT]) ∈ table ∧ atI [V.str "plus", V.str "times"] (way - 6) = some (.str wd) := by
          rcases w67 with e | e <;> subst e
          · exact ⟨"plus", by decide +kernel, atI_nat (j := 0) rfl⟩
          · exact ⟨"times", by decide +kernel, atI_nat (j := 1) rfl⟩
        obtain ⟨wd, row, ea⟩ := wd2
        refine ⟨(by show 2 ≤ sizeLine; decide), fun l nl => ?_⟩
        have sl := same_new (o := .lst [.str "plus", .str "times"]) nl
        have el : upd H2 l (.lst [.str "plus", .str "times"]) l = _ := upd_same
        have hD3 := hD2.same sl
        have a1' := a1.keep (tups_same sl)
        have bb3 : But p H (upd H2 l (.lst [.str "plus", .str "times"])) := bb2.new nl
        generalize upd H2 l (.lst [.str "plus", .str "times"]) = H3 at sl el hD3 a1' bb3
        refine ⟨_, rfl, _, _, rfl, rfl, l, _, way - 6, .str wd, rfl, rfl, .inl (.inl el), ea, _, rfl, ?_⟩
        refine ⟨_, rfl, _, rfl, _, _, rfl, rfl, _, rfl, p, L, e, r, m + 1 + ct e, by show [V.ref p, V.int (((e + 1 : Nat) : Int) - 1), V.int r] = _; rw [down], by omega, r1, by omega, hD3, fun t2 v2 H4 k2 a2 b4 hD4 => ?_⟩
        refine ⟨(by show 3 ≤ sizeLine; decide), fun t nt => ?_⟩
        have sn := same_new (o := .tup [.str wd, v1, v2]) nt
        exact q (.n2 wd t1 t2) _ _ ((made_two row k1 k2).up (by omega)) ⟨t, v1, v2, rfl, upd_same, (a1'.keep (hD3.tups b4)).keep (tups_same sn), a2.keep (tups_same sn)⟩ ((bb3.trans b4).new nt) ((hD4.same sn).more (by omega))
theorem ok_termsL {f fr fp : Addr} {fd dr dp : FuncData} (F : Fun K "_law_term" "_law_term" sTermL f fd) (D : Draw P w K mg base fr fp dr dp) (bS : L2.Binds K fd ["dice", "deep", "loose"] []) (mS : mg "_law_term" = some (.ref f)) : ∀ n : Nat, FnOk P w K mg base CX0 (2 + n) f fd ["dice", "deep", "loose"] (spTermL n)
  | 0 => no_calls fun vs H Q E h => by
    obtain ⟨p, L, d, r, m, _, dn, _⟩ := h
    omega
  | n + 1 => ok_termL F D (ok_termsL F D bS mS n) bS mS
/-! ### sayings -/
def spSayL (n : Nat) : Sp := fun vs H Q _ => ∃ (p L : Addr) (d : Nat) (r m : Int), vs = [.ref p, .int (d : Int), .int r] ∧ d + 1 ≤ n ∧ r + d ≤ 1000 ∧ m + cy d < 2 ^ 50 ∧ DiceAt H p L m ∧ Out p L H kS (d + 3) (m + cy d) Q
theorem ok_sayL {f fr fp ft : Addr} {fd dr dp dt : FuncData} {n : Nat} (F : Fun K "_law_saying" "_law_saying" sSayL f fd) (D : Draw P w K mg base fr fp dr dp) (M : FnOk P w K mg base CX0 4 ft dt ["dice", "deep", "loose"] (spTermL 2)) (bM : L2.Binds K dt ["dice", "deep", "loose"] []) (kM : PySem.W.keepIn K (.ref ft) = true) (mM : mg "_law_term" = some (.ref ft))
    (S : FnOk P w K mg base CX0 (4 + n) f fd ["dice", "deep", "loose"] (spSayL n)) (bS : L2.Binds K fd ["dice", "deep", "loose"] []) (mS : mg "_law_saying" = some (.ref f)) :
    FnOk P w K mg base CX0 (4 + n + 1) f fd ["dice", "deep", "loose"] (spSayL (n + 1)) := by
  refine F.ok scSayL (fun vs H Q E h => ?_) (fun cdv A outer s H vs Q E hr h => ?_)
  · obtain ⟨p, L, d, r, m, rfl, _⟩ := h
    rfl
  obtain ⟨p, L, d, r, m, rfl, dn, r1, mc, hD, q⟩ := h
  have h1 : Room 1 _ := hr.mono (by omega)
  have h4 : Room 4 _ := hr.mono (by omega)
  refine ⟨_, pss_cons (ps_set (i := 3) scSayL.nd rfl (.inl rfl) (pe_call D.R h1 (by rfl) D.mR D.kR D.bR .nil pass0 (pa_cons (pv 0) (pa_cons pe_int pa_nil))))
    (pss_cons (ps_if (PW.pt (pw_or (pt_cmpR op_eq (pv 1) pe_int (nomark _)) (pw_or1 (pt_cmpR op_eq (pv 3) pe_int (nomark _)))))
      (pss_cons (ps_if (pt_cmpR op_eq (pe_call D.R h1 (by rfl) D.mR D.kR D.bR .nil pass0 (pa_cons (pv 0) (pa_cons pe_int pa_nil))) pe_int (nomark _)) (pss_one (ps_ret (pe_tup (pa_cons pe_str pa_nil)))) pss_nil)
      (pss_one (ps_ret (pe_tup (pa_cons pe_str (pa_cons (pe_call M h4 (by rfl) mM kM bM .nil pass0 (pa_cons (pv 0) (pa_cons pe_int (pa_cons (pv 2) pa_nil)))) (pa_cons (pe_call M h4 (by rfl) mM kM bM .nil pass0 (pa_cons (pv 0) (pa_cons pe_int (pa_cons (pv 2) pa_nil)))) pa_nil))))))) pss_nil)
    (pss_cons (ps_if (pt_cmpR op_gt (pv 3) pe_int (nomark _)) (pss_one (ps_ret (pe_tup (pa_cons (pe_ix ix_list (pe_lst (pa_cons pe_str (pa_cons pe_str pa_nil))) (pe_op op_sub (pv 3) pe_int) (fun _ _ => rfl)) (pa_cons (pe_call S hr (by rfl) mS F.kp bS .nil pass0 (pa_cons (pv 0) (pa_cons (pe_op op_sub (pv 1) pe_int) (pa_cons (pe_op op_add (pv 2) pe_int) pa_nil)))) pa_nil))))) pss_nil)
    (pss_cons (ps_set (i := 4) scSayL.nd rfl (.inl rfl) (pe_call S hr (by rfl) mS F.kp bS .nil pass0 (pa_cons (pv 0) (pa_cons (pe_op op_sub (pv 1) pe_int) (pa_cons (pv 2) pa_nil)))))
    (pss_one (ps_ret (pe_tup (pa_cons (pe_ix ix_list (pe_lst (pa_cons pe_str (pa_cons pe_str (pa_cons pe_str pa_nil)))) (pe_op op_mod (pv 3) pe_int) (fun _ _ => rfl)) (pa_cons (pv 4) (pa_cons (pe_call S hr (by rfl) mS F.kp bS .nil pass0 (pa_cons (pv 0) (pa_cons (pe_op op_sub (pv 1) pe_int) (pa_cons (pv 2) pa_nil)))) pa_nil))))))))), ?_⟩
  have c0 : ∀ d : Nat, 22 ≤ cy d := fun d => by
    have z : (1 : Int) ≤ 2 ^ d := Int.one_le_two_pow_ d
    unfold cy
    omega
  have cS : ∀ d : Nat, cy (d + 1) = 2 + cy d + cy d := fun d => by
    unfold cy
    rw [Int.pow_succ]
    omega
  have ct1 : ct 1 = 10 := by decide
  have cd := c0 d
  refine ⟨_, rfl, p, L, 9, m, rfl, by decide, by decide, by omega, hD, fun way H1 w0 w9 b1 hD1 => ?_⟩
  apply join (C := fun Y => 0 < d ∧ 1 ≤ way ∧ Y = H1)
  · intro rest
    refine ⟨_, rfl, rfl, _, rfl, ?_⟩
    apply join (C := fun Y => Y = H1)
    · intro base_
      refine ite2 (fun c => iteT (base_ H1 rfl)) (fun c => ?_)
      refine ⟨_, rfl, rfl, _, rfl, ?_⟩
      refine ite2 (fun c2 => base_ H1 rfl) (fun c2 => rest H1 ⟨?_, ?_, rfl⟩)
      · rcases Nat.eq_zero_or_pos d with e | e
        · exact (c (decide_eq_true (by rw [e]; rfl))).elim
        · exact e
      · have : way ≠ 0 := fun z => c2 (decide_eq_true (by rw [z]))
        omega
    · rintro Y rfl
      refine ⟨_, rfl, p, L, 5, m + 1, rfl, by decide, by decide, by omega, hD1, fun g H2 g0 g1 b2 hD2 => ⟨rfl, _, rfl, ?_⟩⟩
      have bb := b1.trans b2
      refine ite2 (fun c => ?_) (fun c => ?_)
      · refine ⟨(by show 1 ≤ sizeLine; decide), fun t nt => ?_⟩
        have sn := same_new (o := .tup [.str "no"]) nt
        exact q (.n0 "no") _ _ (made_no.up (by omega)) ⟨t, rfl, upd_same⟩ (bb.new nt) ((hD2.same sn).more (by omega))
      · refine ⟨_, rfl, _, rfl, p, L, 1, r, m + 1 + 1, rfl, by decide, by omega, by omega, hD2, fun t1 v1 H3 k1 a1 b3 hD3 => ?_⟩
        refine ⟨_, rfl, _, rfl, p, L, 1, r, m + 1 + 1 + ct 1, rfl, by decide, by omega, by omega, hD3, fun t2 v2 H4 k2 a2 b4 hD4 => ?_⟩
        refine ⟨(by show 3 ≤ sizeLine; decide), fun t nt => ?_⟩
        have sn := same_new (o := .tup [.str "same", v1, v2]) nt
        exact q (.n2 "same" t1 t2) _ _ ((made_two same_row k1 k2).up (by omega)) ⟨t, v1, v2, rfl, upd_same, (a1.keep (hD3.tups b4)).keep (tups_same sn), a2.keep (tups_same sn)⟩ (((bb.trans b3).trans b4).new nt) ((hD4.same sn).more (by omega))
  · rintro Y ⟨dpos, w1, rfl⟩
    obtain ⟨e, rfl⟩ : ∃ e, d = e + 1 := ⟨d - 1, by omega⟩
    have ce := c0 e
    have cs := cS e
    have down : (((e + 1 : Nat) : Int) - 1) = (e : Int) := by omega
    refine ⟨_, rfl, _, _, rfl, rfl, _, rfl, ?_⟩
    refine ite2 (fun c => ?_) (fun c => ?_)
    · have w6 : 6 < way := of_decide_eq_true c
      have wd2 : ∃ wd : Str, (wd, kS, [kS]) ∈ table ∧ atI [V.str "all", V.str "some"] (way - 7) = some (.str wd) := by
        have w78 : way = 7 ∨ way = 8 := by omega
        rcases w78 with e | e <;> subst e
        · exact ⟨"all", by decide +kernel, atI_nat (j := 0) rfl⟩
        · exact ⟨"some", by decide +kernel, atI_nat (j := 1) rfl⟩
      obtain ⟨wd, row, ea⟩ := wd2
      refine ⟨(by show 2 ≤ sizeLine; decide), fun l nl => ?_⟩
      have sl := same_new (o := .lst [.str "all", .str "some"]) nl
      have el : upd Y l (.lst [.str "all", .str "some"]) l = _ := upd_same
      have hD3 := hD1.same sl
      have bb3 : But p H (upd Y l (.lst [.str "all", .str "some"])) := b1.new nl
      generalize upd Y l (.lst [.str "all", .str "some"]) = H3 at sl el hD3 bb3
      refine ⟨_, rfl, _, _, rfl, rfl, l, _, way - 7, .str wd, rfl, rfl, .inl (.inl el), ea, ?_⟩
      refine ⟨_, rfl, _, rfl, _, _, rfl, rfl, _, rfl, _, _, rfl, rfl, p, L, e, r + 1, m + 1, by show [V.ref p, V.int (((e + 1 : Nat) : Int) - 1), V.int (r + 1)] = _; rw [down], by omega, by omega, by omega, hD3, fun t1 v1 H4 k1 a1 b4 hD4 => ?_⟩
      refine ⟨(by show 2 ≤ sizeLine; decide), fun t nt => ?_⟩
      have sn := same_new (o := .tup [.str wd, v1]) nt
      exact q (.n1 wd t1) _ _ ((made_one row k1).up (by omega)) ⟨t, v1, rfl, upd_same, a1.keep (tups_same sn)⟩ ((bb3.trans b4).new nt) ((hD4.same sn).more (by omega))
    · have w6 : way ≤ 6 := Int.not_lt.mp fun z => c (decide_eq_true z)
      have wd2 : ∃ wd : Str, (wd, kS, [kS, kS]) ∈ table ∧ atI [V.str "and", V.str "or", V.str "if"] (way % 3) = some (.str wd) := by
        have w16 : way = 1 ∨ way = 2 ∨ way = 3 ∨ way = 4 ∨ way = 5 ∨ way = 6 := by omega
        rcases w16 with e | e | e | e | e | e <;> subst e
        · exact ⟨"or", by decide +kernel, atI_nat (j := 1) rfl⟩
        · exact ⟨"if", by decide +kernel, atI_nat (j := 2) rfl⟩
        · exact ⟨"and", by decide +kernel, atI_nat (j := 0) rfl⟩
        · exact ⟨"or", by decide +kernel, atI_nat (j := 1) rfl⟩
        · exact ⟨"if", by decide +kernel, atI_nat (j := 2) rfl⟩
        · exact ⟨"and", by decide +kernel, atI_nat (j := 0) rfl⟩
      obtain ⟨wd, row, ea⟩ := wd2
      refine ⟨_, rfl, _, rfl, _, _, rfl, rfl, _, rfl, p, L, e, r, m + 1, by show [V.ref p, V.int (((e + 1 : Nat) : Int) - 1), V.int r] = _; rw [down], by omega, by omega, by omega, hD1, fun t1 v1 H2 k1 a1 b2 hD2 => ?_⟩
      refine ⟨(by show 3 ≤ sizeLine; decide), fun l nl => ?_⟩
      have sl := same_new (o := .lst [.str "and", .str "or", .str "if"]) nl
      have el : upd H2 l (.lst [.str "and", .str "or", .str "if"]) l = _ := upd_same
      have hD3 := hD2.same sl
      have a1' := a1.keep (tups_same sl)
      have bb3 : But p H (upd H2 l (.lst [.str "and", .str "or", .str "if"])) := (b1.trans b2).new nl
      generalize upd H2 l (.lst [.str "and", .str "or", .str "if"]) = H3 at sl el hD3 a1' bb3
      refine ⟨_, rfl, _, _, rfl, rfl, (by show (0 : Int) < 3; decide), l, _, way % 3, .str wd, rfl, rfl, .inl (.inl el), ea, _, rfl, ?_⟩
      refine ⟨_, rfl, _, rfl, _, _, rfl, rfl, _, rfl, p, L, e, r, m + 1 + cy e, by show [V.ref p, V.int (((e + 1 : Nat) : Int) - 1), V.int r] = _; rw [down], by omega, by omega, by omega, hD3, fun t2 v2 H4 k2 a2 b4 hD4 => ?_⟩
      refine ⟨(by show 3 ≤ sizeLine; decide), fun t nt => ?_⟩
      have sn := same_new (o := .tup [.str wd, v1, v2]) nt
      exact q (.n2 wd t1 t2) _ _ ((made_two row k1 k2).up (by omega)) ⟨t, v1, v2, rfl, upd_same, (a1'.keep (hD3.tups b4)).keep (tups_same sn), a2.keep (tups_same sn)⟩ ((bb3.trans b4).new nt) ((hD4.same sn).more (by omega))
theorem ok_saysL {f fr fp ft : Addr} {fd dr dp dt : FuncData} (F : Fun K "_law_saying" "_law_saying" sSayL f fd) (D : Draw P w K mg base fr fp dr dp) (M : FnOk P w K mg base CX0 4 ft dt ["dice", "deep", "loose"] (spTermL 2)) (bM : L2.Binds K dt ["dice", "deep", "loose"] []) (kM : PySem.W.keepIn K (.ref ft) = true) (mM : mg "_law_term" = some (.ref ft))
    (bS : L2.Binds K fd ["dice", "deep", "loose"] []) (mS : mg "_law_saying" = some (.ref f)) : ∀ n : Nat, FnOk P w K mg base CX0 (4 + n) f fd ["dice", "deep", "loose"] (spSayL n)
  | 0 => no_calls fun vs H Q E h => by
    obtain ⟨p, L, d, r, m, _, dn, _⟩ := h
    omega
  | n + 1 => ok_sayL F D M bM kM mM (ok_saysL F D M bM kM mM bS mS n) bS mS
end
end Kf
set_option Elab.async false
set_option linter.all false
set_option maxRecDepth 100000
set_option maxHeartbeats 8000000
set_option pp.maxSteps 300
/-! k21: the law's own putting of a term in the place of the name x. -/
namespace Kf
open PySem PySem.Spec PyProof.Rows L2 Sx
abbrev sPutL : Stmt := top 18
abbrev puN : List Str := ["thing", "term", "part"]
theorem scPutL : FnScope puN ["thing", "term"] (defScope sPutL) := ⟨rfl, rfl, rfl, by decide +kernel, rfl, by decide +kernel, by decide +kernel⟩
/-! ### trees as data -/
def datV : V → PyData
  | .int i => .int i
  | .str z => .str z
  | _ => .none
def Tr.dat : Tr → PyData
  | .leaf w x => .tuple [.str w, datV x]
  | .n0 w => .tuple [.str w]
  | .n1 w a => .tuple [.str w, a.dat]
  | .n2 w a b => .tuple [.str w, a.dat, b.dat]
theorem leaf_val {w : Str} {x : V} (ok : (Tr.leaf w x).Ok) : (∃ i, x = .int i) ∨ ∃ z, x = .str z := ok.2.elim (fun h => .inl h.1) (fun h => .inr h.1)
theorem At.dp {K : PySem.W.Frag} {H : Hp} : ∀ {t : Tr} {v : V}, t.Ok → At H t v → Dp K H v t.dat
  | .leaf w x, _, ok, ⟨p, e, h⟩ => by
    subst e
    refine .tup (.inl (.inl h)) (.cons (.str w) (.cons ?_ .nil))
    rcases leaf_val ok with ⟨i, rfl⟩ | ⟨z, rfl⟩
    · exact .int i
    · exact .str z
  | .n0 w, _, ok, ⟨p, e, h⟩ => by
    subst e
    exact .tup (.inl (.inl h)) (.cons (.str w) .nil)
  | .n1 w a, _, ok, ⟨p, y, e, h, ha⟩ => by
    subst e
    exact .tup (.inl (.inl h)) (.cons (.str w) (.cons (ha.dp ok.2) .nil))
  | .n2 w a b, _, ok, ⟨p, y, z, e, h, ha, hb⟩ => by
    subst e
    exact .tup (.inl (.inl h)) (.cons (.str w) (.cons (ha.dp ok.2.1) (.cons (hb.dp ok.2.2) .nil)))
def xx : Tr := .leaf "name" (.str "x")
/-- the term u in the place of the name x -/
def px (u : Tr) : Tr → Tr
  | .leaf w x => if PyData.eqv (Tr.leaf w x).dat xx.dat = true then u else .leaf w x
  | .n0 w => .n0 w
  | .n1 w a => .n1 w (px u a)
  | .n2 w a b => .n2 w (px u a) (px u b)
theorem px_wf {u : Tr} (hu : u.Wf kT) : ∀ {t : Tr} {k : Str}, t.Wf k → (px u t).Wf k
  | .leaf w x, k, h => by
    show (if _ then u else Tr.leaf w x).Wf k
    split
    · rw [h.1]
      exact hu
    · exact h
  | .n0 w, k, h => h
  | .n1 w a, k, ⟨k1, hr, ha⟩ => ⟨k1, hr, px_wf hu ha⟩
  | .n2 w a b, k, ⟨k1, k2, hr, ha, hb⟩ => ⟨k1, k2, hr, px_wf hu ha, px_wf hu hb⟩
theorem px_kd (u : Tr) : ∀ {t : Tr}, t.Wf kS → kd (px u t) = kd t
  | .leaf w x, h => absurd h.1 (by decide +kernel)
  | .n0 w, h => rfl
  | .n1 w a, h => by
    show oneD w (kd (px u a)) = oneD w (kd a)
    rw [px_kd u (wf_one h).2.1]
  | .n2 w a b, h => by
    show (if w = "same" then none1 else joinD w (kd (px u a)) (kd (px u b))) = (if w = "same" then none1 else joinD w (kd a) (kd b))
    rcases wf_two h with ⟨e, _⟩ | ⟨ne, _, ha, hb, _⟩
    · rw [if_pos e, if_pos e]
    · rw [px_kd u ha, px_kd u hb]
theorem px_deep {u : Tr} (hu : u.deep ≤ 1) : ∀ t : Tr, (px u t).deep ≤ t.deep
  | .leaf w x => by
    show (if _ then u else Tr.leaf w x).deep ≤ 1
    split
    · exact hu
    · exact Nat.le_refl 1
  | .n0 w => Nat.le_refl 1
  | .n1 w a => Nat.succ_le_succ (px_deep hu a)
  | .n2 w a b => by
    have y := px_deep hu a
    have z := px_deep hu b
    show max (px u a).deep (px u b).deep + 1 ≤ max a.deep b.deep + 1
    omega
theorem px_size {u : Tr} (hu : u.size ≤ 1) : ∀ t : Tr, (px u t).size ≤ t.size
  | .leaf w x => by
    show (if _ then u else Tr.leaf w x).size ≤ 1
    split
    · exact hu
    · exact Nat.le_refl 1
  | .n0 w => Nat.le_refl 1
  | .n1 w a => Nat.succ_le_succ (px_size hu a)
  | .n2 w a b => by
    have y := px_size hu a
    have z := px_size hu b
    show (px u a).size + (px u b).size + 1 ≤ a.size + b.size + 1
    omega
theorem deep_one {t : Tr} (h : t.deep ≤ 1) : t.size ≤ 1 := by
  cases t with
  | leaf w x => exact Nat.le_refl 1
  | n0 w => exact Nat.le_refl 1
  | n1 w a =>
    have := deep_pos a
    have e : (Tr.n1 w a).deep = a.deep + 1 := rfl
    omega
  | n2 w a b =>
    have := deep_pos a
    have e : (Tr.n2 w a b).deep = max a.deep b.deep + 1 := rfl
    omega
/-- data as op_eqW wants it, and repr -/
structure Wd (d : PyData) (n m : Nat) : Prop where
  lay : d.canLay0 = true
  show_ : d.showable = true
  dict : d.hasDict = false
  deep : d.depth ≤ n
  len : d.shown.length ≤ 200 * m
theorem wd_leaf {w : Str} {x : V} (h : LeafW w x) : Wd (Tr.dat (.leaf w x)) 1 1 := by
  have hw : NmOk w ∧ w.length ≤ 8 := by
    rcases h with ⟨e | e, _⟩ | ⟨e, _⟩ <;> subst e <;> decide +kernel
  have fw := fit_atm (d := .str w) hw
  have fx : Fit (datV x) 0 90 := by
    rcases h with ⟨_, n, e, h0, h1⟩ | ⟨_, z, e, h0, h1⟩
    · subst e
      exact fit_atm (d := .int n) (show n.natAbs < 10 ^ 62 by omega)
    · subst e
      exact fit_atm (d := .str z) ⟨h0, h1⟩
  refine ⟨?_, ?_, ?_, ?_, ?_⟩
  · show ((PyData.str w).canLay0 && ((datV x).canLay0 && true)) = true
    rw [fw.lay, fx.lay]
    rfl
  · show (true && ((datV x).showable && true)) = true
    rw [fx.show_]
    rfl
  · show (false || ((datV x).hasDict || false)) = false
    rw [fx.dict]
    rfl
  · show max 0 (max (datV x).depth 0) + 1 ≤ 1
    have := fx.deep
    omega
  · have z := tupleText_len_le (PyData.shownAll [.str w, datV x])
    have e : ((PyData.shownAll [.str w, datV x]).map (·.length)).sum = (PyData.shown (.str w)).length + ((datV x).shown.length + 0) := rfl
    have e2 : (PyData.shownAll [.str w, datV x]).length = 2 := rfl
    have l1 := fw.len
    have l2 := fx.len
    show (tupleText (PyData.shownAll [.str w, datV x])).length ≤ 200 * 1
    omega
theorem wd_tree : ∀ (t : Tr) (k : Str), t.Wf k → Wd t.dat t.deep t.size
  | .leaf w x, k, h => wd_leaf h.2
  | .n0 w, k, h => by
    have fw := fit_atm (d := .str w) (table_nm _ h)
    refine ⟨?_, rfl, rfl, Nat.le_refl 1, ?_⟩
    · show ((PyData.str w).canLay0 && true) = true
      rw [fw.lay]
      rfl
    · have z := tupleText_len_le (PyData.shownAll [.str w])
      have e : ((PyData.shownAll [.str w]).map (·.length)).sum = (PyData.shown (.str w)).length + 0 := rfl
      have e2 : (PyData.shownAll [.str w]).length = 1 := rfl
      have l1 := fw.len
      show (tupleText (PyData.shownAll [.str w])).length ≤ 200 * 1
      omega
  | .n1 w a, k, h => by
    obtain ⟨k1, hr, ha⟩ := h
    have fw := fit_atm (d := .str w) (table_nm _ hr)
    have A := wd_tree a k1 ha
    refine ⟨?_, ?_, ?_, ?_, ?_⟩
    · show ((PyData.str w).canLay0 && (a.dat.canLay0 && true)) = true
      rw [fw.lay, A.lay]
      rfl
    · show (true && (a.dat.showable && true)) = true
      rw [A.show_]
      rfl
    · show (false || (a.dat.hasDict || false)) = false
      rw [A.dict]
      rfl
    · show max 0 (max a.dat.depth 0) + 1 ≤ a.deep + 1
      have := A.deep
      omega
    · have z := tupleText_len_le (PyData.shownAll [.str w, a.dat])
      have e : ((PyData.shownAll [.str w, a.dat]).map (·.length)).sum = (PyData.shown (.str w)).length + (a.dat.shown.length + 0) := rfl
      have e2 : (PyData.shownAll [.str w, a.dat]).length = 2 := rfl
      have l1 := fw.len
      have l2 := A.len
      show (tupleText (PyData.shownAll [.str w, a.dat])).length ≤ 200 * (a.size + 1)
      omega
  | .n2 w a b, k, h => by
    obtain ⟨k1, k2, hr, ha, hb⟩ := h
    have fw := fit_atm (d := .str w) (table_nm _ hr)
    have A := wd_tree a k1 ha
    have B := wd_tree b k2 hb
    refine ⟨?_, ?_, ?_, ?_, ?_⟩
    · show ((PyData.str w).canLay0 && (a.dat.canLay0 && (b.dat.canLay0 && true))) = true
      rw [fw.lay, A.lay, B.lay]
      rfl
    · show (true && (a.dat.showable && (b.dat.showable && true))) = true
      rw [A.show_, B.show_]
      rfl
    · show (false || (a.dat.hasDict || (b.dat.hasDict || false))) = false
      rw [A.dict, B.dict]
      rfl
    · show max 0 (max a.dat.depth (max b.dat.depth 0)) + 1 ≤ max a.deep b.deep + 1
      have := A.deep
      have := B.deep
      omega
    · have z := tupleText_len_le (PyData.shownAll [.str w, a.dat, b.dat])
      have e : ((PyData.shownAll [.str w, a.dat, b.dat]).map (·.length)).sum = (PyData.shown (.str w)).length + (a.dat.shown.length + (b.dat.shown.length + 0)) := rfl
      have e2 : (PyData.shownAll [.str w, a.dat, b.dat]).length = 3 := rfl
      have l1 := fw.len
      have l2 := A.len
      have l3 := B.len
      show (tupleText (PyData.shownAll [.str w, a.dat, b.dat])).length ≤ 200 * (a.size + b.size + 1)
      omega
/-- an inner one isn't the name -/
theorem node_no {w : Str} {a : Tr} : PyData.eqv (Tr.n1 w a).dat xx.dat = false := by
  show (PyData.eqv (.str w) (.str "name") && (PyData.eqv a.dat (.str "x") && true)) = false
  have e : PyData.eqv a.dat (.str "x") = false := by cases a <;> rfl
  rw [e]
  simp
theorem node_no2 {w : Str} {a b : Tr} : PyData.eqv (Tr.n2 w a b).dat xx.dat = false := by
  show (PyData.eqv (.str w) (.str "name") && (PyData.eqv a.dat (.str "x") && false)) = false
  simp
theorem node_no0 {w : Str} : PyData.eqv (Tr.n0 w).dat xx.dat = false := by
  show (PyData.eqv (.str w) (.str "name") && false) = false
  simp
/-- the parts of a tuple: a text or number, or a tree -/
inductive Cel where
  | sc (x : V) | tr (t : Tr)
def Cel.At (H : Hp) : Cel → V → Prop
  | .sc x, v => v = x ∧ ((∃ z, x = .str z) ∨ ∃ i, x = .int i)
  | .tr t, v => Kf.At H t v
def Cel.px (u : Tr) : Cel → Cel
  | .sc x => .sc x
  | .tr t => .tr (Kf.px u t)
theorem Cel.At.keep {H H' : Hp} (k : Tups H H') : ∀ {c : Cel} {v : V}, Cel.At H c v → Cel.At H' c v
  | .sc _, _, h => h
  | .tr _, _, h => Kf.At.keep k h
def Tr.cels : Tr → List Cel
  | .leaf w x => [.sc (.str w), .sc x]
  | .n0 w => [.sc (.str w)]
  | .n1 w a => [.sc (.str w), .tr a]
  | .n2 w a b => [.sc (.str w), .tr a, .tr b]
theorem cels_of {H : Hp} {t : Tr} {v : V} (ok : t.Ok) (h : At H t v) : ∃ p xs, v = .ref p ∧ H p = some (.tup xs) ∧ All2 (Cel.At H) t.cels xs ∧ xs.length ≤ 3 := by
  cases t with
  | leaf w x =>
    obtain ⟨p, e, hp⟩ := h
    exact ⟨p, _, e, hp, .cons ⟨rfl, .inl ⟨_, rfl⟩⟩ (.one ⟨rfl, (leaf_val ok).symm⟩), (by show 2 ≤ 3; decide)⟩
  | n0 w =>
    obtain ⟨p, e, hp⟩ := h
    exact ⟨p, _, e, hp, .one ⟨rfl, .inl ⟨_, rfl⟩⟩, (by show 1 ≤ 3; decide)⟩
  | n1 w a =>
    obtain ⟨p, y, e, hp, ha⟩ := h
    exact ⟨p, _, e, hp, .cons ⟨rfl, .inl ⟨_, rfl⟩⟩ (.one ha), (by show 2 ≤ 3; decide)⟩
  | n2 w a b =>
    obtain ⟨p, y, z, e, hp, ha, hb⟩ := h
    exact ⟨p, _, e, hp, .cons ⟨rfl, .inl ⟨_, rfl⟩⟩ (.cons ha (.one hb)), (by show 3 ≤ 3; decide)⟩
theorem at_cels {H : Hp} {t u : Tr} {p : Addr} {ys : List V} (no : PyData.eqv t.dat xx.dat = false) (hp : H p = some (.tup ys)) (all : All2 (Cel.At H) (t.cels.map (Cel.px u)) ys) : At H (px u t) (.ref p) := by
  cases t with
  | leaf w x =>
    have all2 : All2 (Cel.At H) [.sc (.str w), .sc x] ys := all
    cases all2 with
    | cons h1 r =>
    cases r with
    | cons h2 r2 =>
    cases r2
    show At H (if _ then u else Tr.leaf w x) (.ref p)
    rw [no, if_neg Bool.false_ne_true]
    refine ⟨p, rfl, ?_⟩
    rw [hp, h1.1, h2.1]
  | n0 w =>
    have all2 : All2 (Cel.At H) [.sc (.str w)] ys := all
    cases all2 with
    | cons h1 r =>
    cases r
    exact ⟨p, rfl, by rw [hp, h1.1]⟩
  | n1 w a =>
    have all2 : All2 (Cel.At H) [.sc (.str w), .tr (px u a)] ys := all
    cases all2 with
    | cons h1 r =>
    cases r with
    | cons h2 r2 =>
    cases r2
    exact ⟨p, _, rfl, by rw [hp, h1.1], h2⟩
  | n2 w a b =>
    have all2 : All2 (Cel.At H) [.sc (.str w), .tr (px u a), .tr (px u b)] ys := all
    cases all2 with
    | cons h1 r =>
    cases r with
    | cons h2 r2 =>
    cases r2 with
    | cons h3 r3 =>
    cases r3
    exact ⟨p, _, _, rfl, by rw [hp, h1.1], h2, h3⟩
theorem cel_wf {t k2 : Tr} {k : Str} (h : t.Wf k) (m : Cel.tr k2 ∈ t.cels) : (∃ kk, k2.Wf kk) ∧ k2.deep + 1 ≤ t.deep := by
  cases t with
  | leaf w x =>
    have m2 : Cel.tr k2 ∈ [Cel.sc (.str w), .sc x] := m
    rcases List.mem_cons.mp m2 with e | m2
    · cases e
    · cases List.mem_singleton.mp m2
  | n0 w =>
    have m2 : Cel.tr k2 ∈ [Cel.sc (.str w)] := m
    cases List.mem_singleton.mp m2
  | n1 w a =>
    obtain ⟨k1, _, ha⟩ := h
    have m2 : Cel.tr k2 ∈ [Cel.sc (.str w), .tr a] := m
    rcases List.mem_cons.mp m2 with e | m2
    · cases e
    · have e := List.mem_singleton.mp m2
      injection e with e
      subst e
      exact ⟨⟨k1, ha⟩, Nat.le_refl _⟩
  | n2 w a b =>
    obtain ⟨k1, k3, _, ha, hb⟩ := h
    have m2 : Cel.tr k2 ∈ [Cel.sc (.str w), .tr a, .tr b] := m
    have e9 : (Tr.n2 w a b).deep = max a.deep b.deep + 1 := rfl
    rcases List.mem_cons.mp m2 with e | m2
    · cases e
    rcases List.mem_cons.mp m2 with e | m2
    · injection e with e
      subst e
      exact ⟨⟨k1, ha⟩, by omega⟩
    · have e := List.mem_singleton.mp m2
      injection e with e
      subst e
      exact ⟨⟨k3, hb⟩, by omega⟩
theorem put_same {H H1 : Hp} {D : Addr} {o : HO} (s : Same H H1) (n : H D = none) : Same H (upd H1 D o) := fun b u e => by
  rw [upd_ne (ne_of_none e n)]
  exact s _ _ e
section
variable {P : Program} {w : World} {K : PySem.W.Frag} {mg : Str → Option Value} {base : Heap}
def spPutL (n : Nat) : Sp := fun vs H Q _ => ∃ (v x : V) (t u : Tr) (k : Str), vs = [v, x] ∧ At H t v ∧ At H u x ∧ t.Wf k ∧ t.deep ≤ n ∧ t.deep ≤ 100 ∧ ∀ y H', At H' (px u t) y → Same H H' → Q y H'
theorem ok_putL {f : Addr} {fd : FuncData} {n : Nat} (F : Fun K "_law_put" "_law_put" sPutL f fd) (S : FnOk P w K mg base CX0 n f fd ["thing", "term"] (spPutL n)) (bS : L2.Binds K fd ["thing", "term"] []) (mS : mg "_law_put" = some (.ref f)) (zIs : mg "isinstance" = none) (zT : mg "tuple" = none) : FnOk P w K mg base CX0 (n + 1) f fd ["thing", "term"] (spPutL (n + 1)) := by
  refine F.ok scPutL (fun vs H Q E h => ?_) (fun cdv A outer s H vs Q E hr h => ?_)
  · obtain ⟨v, x, t, u, k, rfl, _⟩ := h
    rfl
  obtain ⟨v, x, t, u, k, rfl, hA, hU, hW, hd, d100, q⟩ := h
  have u1 : (A.deeper (envOfC "_law_put" (defScope sPutL) s.heap.objs.size f cdv)).units + 130 < cLine := by
    have := hr.un
    omega
  refine ⟨_, pss_cons (ps_if (pt_cmpR (op_eqW u1) (pv 0) (pe_tup (pa_cons pe_str (pa_cons pe_str pa_nil))) (nomark _)) (pss_one (ps_ret (pv 1))) pss_nil)
    (pss_one (ps_ret (pe_tupleOf (by rfl) zT (pe_lc (own := [("part", 2)]) (g := gName 2) (tt := tYes) rfl scPutL.nd (pi_tup (pv 0))
      (blkOk_by (N := puN) (sc := defScope sPutL) (by decide +kernel)) (fun _ _ _ _ _ => pg_name (i := 2) scPutL.nd rfl (Or.inl rfl)) (fun _ _ _ _ _ => pts_nil)
      (fun _ _ _ _ _ => pe_ifExp (pt_val (pe_callB (id := "isinstance") (r := rIsi K) call_isi (by rfl) zIs (by decide +kernel) (pa_cons (pv 2) (pa_cons (pe_bltn (v := .ty "tuple") (by rfl) zT (by decide +kernel) rfl) pa_nil)))) (pe_call S hr (by rfl) mS F.kp bS .nil pass0 (pa_cons (pv 2) (pa_cons (pv 1) pa_nil))) (pv 2)))))), ?_⟩
  have W := wd_tree t k hW
  have ok := wf_ok hW
  refine ⟨_, rfl, (by show 2 ≤ sizeLine; decide), fun qn nn => ?_⟩
  have s1 := same_new (o := .tup [.str "name", .str "x"]) nn
  have en : upd H qn (.tup [.str "name", .str "x"]) qn = some (.tup [.str "name", .str "x"]) := upd_same
  have hA1 := hA.keep (tups_same s1)
  have hU1 := hU.keep (tups_same s1)
  generalize upd H qn (.tup [.str "name", .str "x"]) = H1 at s1 en hA1 hU1
  have ax : At H1 xx (.ref qn) := ⟨qn, rfl, en⟩
  have okx : xx.Ok := ⟨by decide +kernel, .inr ⟨⟨_, rfl⟩, rfl⟩⟩
  refine ⟨t.dat, xx.dat, hA1.dp ok, ax.dp okx, W.lay, by decide +kernel, Nat.le_trans W.deep (by omega), _, rfl, ?_⟩
  cases eq_ : PyData.eqv t.dat xx.dat with
  | true =>
    refine iteT ⟨_, rfl, q x H1 ?_ s1⟩
    cases t with
    | leaf w y =>
      show At H1 (if _ then u else Tr.leaf w y) x
      rw [eq_, if_pos rfl]
      exact hU1
    | n0 w => rw [node_no0] at eq_; cases eq_
    | n1 w a => rw [node_no] at eq_; cases eq_
    | n2 w a b => rw [node_no2] at eq_; cases eq_
  | false =>
    refine iteF ?_
    obtain ⟨p1, xs, rfl, hp1, cel, lx⟩ := cels_of ok hA1
    have lc := cel.len
    refine ⟨_, rfl, p1, rfl, ⟨_, .inl (.inl hp1)⟩, fun D nD => ?_⟩
    refine lc_tup (K := K) (a := p1) (xs := xs) (fun i H' => ∃ acc : List V, H' D = some (.lst acc) ∧ Same H1 H' ∧ All2 (Cel.At H') ((t.cels.take i).map (Cel.px u)) acc)
      ⟨[], upd_same, same_new nD, by rw [List.take_zero]; exact .nil⟩ (fun i H' _ ⟨_, _, sm, _⟩ => .inl (.inl (sm _ _ hp1))) ?_ ?_
    · rintro i y H' hy ⟨acc, hD, sm, all⟩
      obtain ⟨c, hc, ac⟩ := cel.get hy
      have mc := List.mem_of_getElem? hc
      have la := all.len
      rw [List.length_map, List.length_take] at la
      refine ⟨rfl, ?_⟩
      have et : (t.cels.take (i + 1)).map (Cel.px u) = (t.cels.take i).map (Cel.px u) ++ [Cel.px u c] := by
        rw [List.take_add_one, hc, List.map_append]
        rfl
      have fin : ∀ (y2 : V) (H6 : Hp), Same H' H6 → Cel.At H6 (Cel.px u c) y2 → ∃ acc, H6 D = some (.lst acc) ∧ acc.length < sizeLine ∧ ∃ acc2 : List V, (upd H6 D (.lst (acc ++ [y2]))) D = some (.lst acc2) ∧ Same H1 (upd H6 D (.lst (acc ++ [y2]))) ∧ All2 (Cel.At (upd H6 D (.lst (acc ++ [y2])))) ((t.cels.take (i + 1)).map (Cel.px u)) acc2 := fun y2 H6 s6 aw => by
        have k6 : Tups H6 (upd H6 D (.lst (acc ++ [y2]))) := tups_put fun xs z => by
          rw [s6 _ _ hD] at z
          cases z
        refine ⟨acc, s6 _ _ hD, line_of (by omega), acc ++ [y2], upd_same, put_same (sm.trans s6) nD, ?_⟩
        rw [et]
        exact (all.mono fun a b h => h.keep ((tups_same s6).trans k6)).app (.one (aw.keep k6))
      cases c with
      | sc x0 =>
        obtain ⟨ey, hs⟩ := ac
        subst ey
        have noT : ∃ ty, TyX K H' y ty ∧ PySem.W.kitOne K ty (.type "tuple") = some false := by
          rcases hs with ⟨z, e⟩ | ⟨j, e⟩
          · subst e
            exact ⟨_, .base (.str z), kit_ty (by decide +kernel)⟩
          · subst e
            exact ⟨_, .base (.int j), kit_ty (by decide +kernel)⟩
        obtain ⟨ty, h1, h2⟩ := noT
        exact ⟨_, rfl, _, _, _, _, false, rfl, .ty "tuple", h1, h2, _, rfl, iteF ⟨_, rfl, fin y H' (fun _ _ e => e) ⟨rfl, hs⟩⟩⟩
      | tr k2 =>
        obtain ⟨⟨kk, wk⟩, dk⟩ := cel_wf hW mc
        have ak : At H' k2 y := Kf.At.keep (tups_same sm) ac
        obtain ⟨p2, xs2, ey, hp2, _, _⟩ := cels_of (wf_ok wk) ak
        have h1 : TyX K H' y (.type "tuple") := by
          rw [ey]
          exact .base (.tup hp2)
        refine ⟨_, rfl, _, _, _, _, true, rfl, .ty "tuple", h1, kit_ty (by decide +kernel), _, rfl, iteT ⟨_, rfl, _, rfl, y, x, k2, u, kk, rfl, ak, hU1.keep (tups_same sm), wk, by omega, by omega, fun y2 H6 a6 s6 => ?_⟩⟩
        exact fin y2 H6 s6 a6
    · rintro H7 ⟨acc, hD, sm, all⟩
      rw [← lc, List.take_length] at all
      refine .inl ⟨D, acc, rfl, .inl (.inl hD), fun q6 nq6 => ?_⟩
      have s6 := same_new (o := .tup acc) nq6
      exact q (.ref q6) _ (at_cels eq_ upd_same (all.mono fun a b h => h.keep (tups_same s6))) (s1.trans (sm.trans s6))
theorem ok_putsL {f : Addr} {fd : FuncData} (F : Fun K "_law_put" "_law_put" sPutL f fd) (bS : L2.Binds K fd ["thing", "term"] []) (mS : mg "_law_put" = some (.ref f)) (zIs : mg "isinstance" = none) (zT : mg "tuple" = none) : ∀ n : Nat, FnOk P w K mg base CX0 n f fd ["thing", "term"] (spPutL n)
  | 0 => no_calls fun vs H Q E h => by
    obtain ⟨v, x, t, u, k, _, _, _, _, hd, _⟩ := h
    have := deep_pos t
    omega
  | n + 1 => ok_putL F (ok_putsL F bS mS zIs zT n) bS mS zIs zT
end
end Kf
set_option Elab.async false
set_option linter.all false
set_option maxRecDepth 100000
set_option maxHeartbeats 8000000
set_option pp.maxSteps 300
/-! k21: chains of sayings. -/
namespace Kf
open PySem PySem.Spec PyProof.Rows L2 Sx
abbrev sChainL : Stmt := top 21
abbrev chN : List Str := ["dice", "many", "here", "saying", "turn", "word", "no", "other"]
theorem scChainL : FnScope chN ["dice", "many"] (defScope sChainL) := ⟨rfl, rfl, rfl, by decide +kernel, rfl, by decide +kernel, by decide +kernel⟩
/-- a saying so deep and great at most -/
structure Sz (d n : Nat) (t : Tr) : Prop where
  wf : t.Wf kS
  dp : t.deep ≤ d
  sz : t.size ≤ n
theorem sz_no : Sz 1 1 (.n0 "no") := ⟨no_row, Nat.le_refl 1, Nat.le_refl 1⟩
theorem sz_one {d n : Nat} {w : Str} {a : Tr} (hw : (w, kS, [kS]) ∈ table) (h : Sz d n a) : Sz (d + 1) (n + 1) (.n1 w a) := ⟨⟨kS, hw, h.wf⟩, Nat.succ_le_succ h.dp, Nat.succ_le_succ h.sz⟩
theorem sz_two {d e n m : Nat} {w : Str} {a b : Tr} (hw : (w, kS, [kS, kS]) ∈ table) (h : Sz d n a) (g : Sz e m b) : Sz (max d e + 1) (n + m + 1) (.n2 w a b) := ⟨⟨kS, kS, hw, h.wf, g.wf⟩, by
  show max a.deep b.deep + 1 ≤ _
  have := h.dp
  have := g.dp
  omega, by
  show a.size + b.size + 1 ≤ _
  have := h.sz
  have := g.sz
  omega⟩
theorem Sz.up {d e n m : Nat} {t : Tr} (h : Sz d n t) (a : d ≤ e) (b : n ≤ m) : Sz e m t := ⟨h.wf, Nat.le_trans h.dp a, Nat.le_trans h.sz b⟩
theorem sz_here : Sz 2 3 (.n2 "same" (.leaf "name" (.str "x")) (.leaf "num" (.int 2))) := ⟨⟨kT, kT, same_row, ⟨rfl, .inr ⟨rfl, _, rfl, by decide +kernel, by decide +kernel⟩⟩, ⟨rfl, .inl ⟨.inl rfl, 2, rfl, by decide, by decide⟩⟩⟩, by show 2 ≤ 2; decide, by show 3 ≤ 3; decide⟩
theorem sz_some : Sz 3 4 (.n1 "some" (.n2 "same" (.leaf "bound" (.int 0)) (.leaf "num" (.int 1)))) := ⟨⟨kS, by decide +kernel, ⟨kT, kT, same_row, ⟨rfl, .inl ⟨.inr rfl, 0, rfl, by decide, by decide⟩⟩, ⟨rfl, .inl ⟨.inl rfl, 1, rfl, by decide, by decide⟩⟩⟩⟩, by show 3 ≤ 3; decide, by show 4 ≤ 4; decide⟩
section
variable {P : Program} {w : World} {K : PySem.W.Frag} {mg : Str → Option Value} {base : Heap}
def spChainL : Sp := fun vs H Q _ => ∃ (p L : Addr) (k : Nat) (m : Int), vs = [.ref p, .int (k : Int)] ∧ k ≤ 50 ∧ m < 2 ^ 45 ∧ DiceAt H p L m ∧ ∀ t v H', Sz (k + 3) (4 * k + 4) t → At H' t v → But p H H' → DiceAt H' p L (m + 200) → Q v H'
theorem ok_chainL {f fr fp : Addr} {fd dr dp : FuncData} (F : Fun K "_law_chain" "_law_chain" sChainL f fd) (D : Draw P w K mg base fr fp dr dp) (zR : mg "range" = none) : FnOk P w K mg base CX0 3 f fd ["dice", "many"] spChainL := by
  refine F.ok scChainL (fun vs H Q E h => ?_) (fun cdv A outer s H vs Q E hr h => ?_)
  · obtain ⟨p, L, k, m, rfl, _⟩ := h
    rfl
  obtain ⟨p, L, k, m, rfl, k50, mb, hD, q⟩ := h
  have h2 : Room 2 _ := hr.mono (by decide)
  refine ⟨_, pss_cons (ps_set (i := 2) scChainL.nd rfl (.inl rfl) (pe_tup (pa_cons pe_str (pa_cons (pe_tup (pa_cons pe_str (pa_cons pe_str pa_nil))) (pa_cons (pe_tup (pa_cons pe_str (pa_cons pe_int pa_nil))) pa_nil)))))
    (pss_cons (ps_set (i := 3) scChainL.nd rfl (.inl rfl) (pe_call D.Pk h2 (by rfl) D.mP D.kP D.bP .nil pass0 (pa_cons (pv 0) (pa_cons (pe_lst (pa_cons (pv 2) (pa_cons (pe_tup (pa_cons pe_str pa_nil)) (pa_cons (pe_tup (pa_cons pe_str (pa_cons (pe_tup (pa_cons pe_str (pa_cons (pe_tup (pa_cons pe_str (pa_cons pe_int pa_nil))) (pa_cons (pe_tup (pa_cons pe_str (pa_cons pe_int pa_nil))) pa_nil)))) pa_nil))) pa_nil)))) pa_nil))))
    (pss_cons (ps_for PassesOwn.never rfl (pi_range1 (by rfl) zR (pa_cons (pv 1) pa_nil)) (pg_name (i := 4) scChainL.nd rfl (.inl rfl))
      (pss_cons (ps_set (i := 5) scChainL.nd rfl (.inl rfl) (pe_call D.Pk h2 (by rfl) D.mP D.kP D.bP .nil pass0 (pa_cons (pv 0) (pa_cons (pe_lst (pa_cons pe_str (pa_cons pe_str (pa_cons pe_str (pa_cons pe_str (pa_cons pe_str (pa_cons pe_str pa_nil))))))) pa_nil))))
      (pss_one (ps_if (pt_cmpR op_in_seq (pv 5) (pe_tup (pa_cons pe_str (pa_cons pe_str pa_nil))) (by rfl))
        (pss_one (ps_set (i := 3) scChainL.nd rfl (.inl rfl) (pe_tup (pa_cons (pv 5) (pa_cons (pv 3) pa_nil)))))
        (pss_cons (ps_set (i := 6) scChainL.nd rfl (.inl rfl) (pe_tup (pa_cons pe_str pa_nil)))
        (pss_cons (ps_set (i := 7) scChainL.nd rfl (.inl rfl) (pe_call D.Pk h2 (by rfl) D.mP D.kP D.bP .nil pass0 (pa_cons (pv 0) (pa_cons (pe_lst (pa_cons (pv 6) (pa_cons (pe_tup (pa_cons pe_str (pa_cons (pv 6) pa_nil))) (pa_cons (pe_tup (pa_cons pe_str (pa_cons (pv 6) pa_nil))) (pa_cons (pe_tup (pa_cons pe_str (pa_cons (pv 6) (pa_cons (pv 6) pa_nil)))) pa_nil))))) pa_nil))))
        (pss_one (ps_set (i := 3) scChainL.nd rfl (.inl rfl) (pe_call D.Pk h2 (by rfl) D.mP D.kP D.bP .nil pass0 (pa_cons (pv 0) (pa_cons (pe_lst (pa_cons (pe_tup (pa_cons (pv 5) (pa_cons (pv 3) (pa_cons (pv 7) pa_nil)))) (pa_cons (pe_tup (pa_cons (pv 5) (pa_cons (pv 7) (pa_cons (pv 3) pa_nil)))) pa_nil))) pa_nil)))))))))))
    (pss_one (ps_ret (pv 3))))), ?_⟩
  -- here
  refine ⟨(by show 2 ≤ sizeLine; decide), fun q1 n1 => ?_⟩
  have s1 := same_new (o := .tup [.str "name", .str "x"]) n1
  have e1 : upd H q1 (.tup [.str "name", .str "x"]) q1 = _ := upd_same
  generalize upd H q1 (.tup [.str "name", .str "x"]) = X1 at s1 e1
  refine ⟨(by show 2 ≤ sizeLine; decide), fun q2 n2 => ?_⟩
  have s2 := same_new (o := .tup [.str "num", .int 2]) n2
  have e2 : upd X1 q2 (.tup [.str "num", .int 2]) q2 = _ := upd_same
  generalize upd X1 q2 (.tup [.str "num", .int 2]) = X2 at s2 e2
  refine ⟨(by show 3 ≤ sizeLine; decide), fun q3 n3 => ?_⟩
  have s3 := same_new (o := .tup [.str "same", .ref q1, .ref q2]) n3
  have e3 : upd X2 q3 (.tup [.str "same", .ref q1, .ref q2]) q3 = _ := upd_same
  generalize upd X2 q3 (.tup [.str "same", .ref q1, .ref q2]) = X3 at s3 e3
  -- the first
  refine ⟨_, rfl, _, rfl, (by show 1 ≤ sizeLine; decide), fun q4 n4 => ?_⟩
  have s4 := same_new (o := .tup [.str "no"]) n4
  have e4 : upd X3 q4 (.tup [.str "no"]) q4 = _ := upd_same
  generalize upd X3 q4 (.tup [.str "no"]) = X4 at s4 e4
  refine ⟨(by show 2 ≤ sizeLine; decide), fun q5 n5 => ?_⟩
  have s5 := same_new (o := .tup [.str "bound", .int 0]) n5
  have e5 : upd X4 q5 (.tup [.str "bound", .int 0]) q5 = _ := upd_same
  generalize upd X4 q5 (.tup [.str "bound", .int 0]) = X5 at s5 e5
  refine ⟨(by show 2 ≤ sizeLine; decide), fun q6 n6 => ?_⟩
  have s6 := same_new (o := .tup [.str "num", .int 1]) n6
  have e6 : upd X5 q6 (.tup [.str "num", .int 1]) q6 = _ := upd_same
  generalize upd X5 q6 (.tup [.str "num", .int 1]) = X6 at s6 e6
  refine ⟨(by show 3 ≤ sizeLine; decide), fun q7 n7 => ?_⟩
  have s7 := same_new (o := .tup [.str "same", .ref q5, .ref q6]) n7
  have e7 : upd X6 q7 (.tup [.str "same", .ref q5, .ref q6]) q7 = _ := upd_same
  generalize upd X6 q7 (.tup [.str "same", .ref q5, .ref q6]) = X7 at s7 e7
  refine ⟨(by show 2 ≤ sizeLine; decide), fun q8 n8 => ?_⟩
  have s8 := same_new (o := .tup [.str "some", .ref q7]) n8
  have e8 : upd X7 q8 (.tup [.str "some", .ref q7]) q8 = _ := upd_same
  generalize upd X7 q8 (.tup [.str "some", .ref q7]) = X8 at s8 e8
  have k8 := s1.trans (s2.trans (s3.trans (s4.trans (s5.trans (s6.trans (s7.trans s8))))))
  have D8 := hD.same k8
  refine ⟨(by show 3 ≤ sizeLine; decide), fun l nl => ?_⟩
  have s9 := same_new (o := .lst [.ref q3, .ref q4, .ref q8]) nl
  have e9 : upd X8 l (.lst [.ref q3, .ref q4, .ref q8]) l = _ := upd_same
  have D9 := D8.same s9
  have nlp := D8.ne nl
  generalize upd X8 l (.lst [.ref q3, .ref q4, .ref q8]) = X9 at s9 e9 D9
  have k7 := s9
  have r8 := s8.trans s9
  have r7 := s7.trans r8
  have r6 := s6.trans r7
  have r5 := s5.trans r6
  have r4 := s4.trans r5
  have r3 := s3.trans r4
  have r2 := s2.trans r3
  have k9 := s1.trans r2
  refine ⟨p, l, L, _, m, rfl, .inl (.inl e9), nlp, (by show 0 < 3; decide), (by show 3 ≤ 1000; decide), by omega, D9, fun x mem Xa ba Da => ?_⟩
  have st : ∃ t, Sz 3 4 t ∧ At X9 t x := by
    rcases List.mem_cons.mp mem with rfl | mem
    · exact ⟨_, sz_here.up (by decide) (by decide), q3, _, _, rfl, r4 _ _ e3, ⟨q1, rfl, r2 _ _ e1⟩, ⟨q2, rfl, r3 _ _ e2⟩⟩
    rcases List.mem_cons.mp mem with rfl | mem
    · exact ⟨_, sz_no.up (by decide) (by decide), q4, rfl, r5 _ _ e4⟩
    · rw [List.mem_singleton.mp mem]
      exact ⟨_, sz_some, q8, _, rfl, s9 _ _ e8, q7, _, _, rfl, r8 _ _ e7, ⟨q5, rfl, r6 _ _ e5⟩, ⟨q6, rfl, r7 _ _ e6⟩⟩
  obtain ⟨t0, z0, a0⟩ := st
  have b0 : But p H Xa := (but_same k9).trans ba
  have A0 := a0.keep (D9.tups ba)
  refine ⟨_, rfl, _, rfl, Int.le_trans (by decide) (Int.natCast_nonneg k), Int.lt_of_le_of_lt (show (k : Int) ≤ 1000 by omega) (by decide), ?_⟩
  refine for_range (lo := 0) (n := ((k : Int)).toNat) (fun i σ H' => ∃ (y2 y4 y5 y6 y7 : Option V) (v : V) (t : Tr), σ = [some (.ref p), some (.int (k : Int)), y2, some v, y4, y5, y6, y7] ∧ Sz (i + 3) (4 * i + 4) t ∧ At H' t v ∧ But p H H' ∧ DiceAt H' p L (m + 1 + 3 * (i : Int)))
    ⟨_, _, _, _, _, x, t0, rfl, z0, A0, b0, Da.more (by omega)⟩ ?_ ?_
  · rintro i σ Y0 hi ⟨y2, y4, y5, y6, y7, v, t, rfl, zt, at0, bY, hY⟩
    have i50 : i < 50 := by
      have z : ((k : Int)).toNat = k := Int.toNat_natCast k
      omega
    -- the word
    refine ⟨_, rfl, (by show 6 ≤ sizeLine; decide), fun g0 m0 => ?_⟩
    have t0 := same_new (o := .lst [.str "all", .str "some", .str "and", .str "or", .str "if", .str "if"]) m0
    have f0 : upd Y0 g0 (.lst [.str "all", .str "some", .str "and", .str "or", .str "if", .str "if"]) g0 = _ := upd_same
    have E0_ := hY.same t0
    have ng0 := hY.ne m0
    generalize upd Y0 g0 (.lst [.str "all", .str "some", .str "and", .str "or", .str "if", .str "if"]) = Y1 at t0 f0 E0_
    refine ⟨p, g0, L, _, m + 1 + 3 * (i : Int), rfl, .inl (.inl f0), ng0, (by show 0 < 6; decide), (by show 6 ≤ 1000; decide), by omega, E0_, fun wv memw Y2 bY2 hY2 => ?_⟩
    have ww : ∃ wd : Str, wv = .str wd ∧ ((inV (.str wd) [.str "all", .str "some"] = true ∧ (wd, kS, [kS]) ∈ table) ∨ (inV (.str wd) [.str "all", .str "some"] = false ∧ (wd, kS, [kS, kS]) ∈ table)) := by
      rcases List.mem_cons.mp memw with rfl | memw
      · exact ⟨_, rfl, .inl ⟨by decide +kernel, by decide +kernel⟩⟩
      rcases List.mem_cons.mp memw with rfl | memw
      · exact ⟨_, rfl, .inl ⟨by decide +kernel, by decide +kernel⟩⟩
      rcases List.mem_cons.mp memw with rfl | memw
      · exact ⟨_, rfl, .inr ⟨by decide +kernel, by decide +kernel⟩⟩
      rcases List.mem_cons.mp memw with rfl | memw
      · exact ⟨_, rfl, .inr ⟨by decide +kernel, by decide +kernel⟩⟩
      rcases List.mem_cons.mp memw with rfl | memw
      · exact ⟨_, rfl, .inr ⟨by decide +kernel, by decide +kernel⟩⟩
      · exact ⟨_, List.mem_singleton.mp memw, .inr ⟨by decide +kernel, by decide +kernel⟩⟩
    obtain ⟨wd, rfl, hw⟩ := ww
    have b2 : But p H Y2 := (bY.trans (but_same t0)).trans bY2
    have at2 := (at0.keep (tups_same t0)).keep (E0_.tups bY2)
    refine ⟨_, rfl, (by show 2 ≤ sizeLine; decide), fun mm nmm => ?_⟩
    have t1 := same_new (o := .tup [.str "all", .str "some"]) nmm
    have em : upd Y2 mm (.tup [.str "all", .str "some"]) mm = _ := upd_same
    have hY3 := hY2.same t1
    have b3 : But p H (upd Y2 mm (.tup [.str "all", .str "some"])) := b2.trans (but_same t1)
    have at3 := at2.keep (tups_same t1)
    generalize upd Y2 mm (.tup [.str "all", .str "some"]) = Y3 at t1 em hY3 b3 at3
    refine ⟨mm, [.str "all", .str "some"], rfl, .inr (.inl (.inl em)), rfl, rfl, _, rfl, ?_⟩
    rcases hw with ⟨yes, row⟩ | ⟨no, row⟩
    · refine iteT' yes ⟨_, rfl, _, rfl, (by show 2 ≤ sizeLine; decide), fun g1 m1 => ?_⟩
      have t2 := same_new (o := .tup [.str wd, v]) m1
      exact ⟨_, _, _, _, _, .ref g1, .n1 wd t, rfl, (sz_one row zt).up (by omega) (by omega), ⟨g1, v, rfl, upd_same, at3.keep (tups_same t2)⟩, b3.trans (but_same t2), (hY3.same t2).more (by omega)⟩
    · refine iteF' no ⟨(by show 1 ≤ sizeLine; decide), fun g1 m1 => ?_⟩
      have t2 := same_new (o := .tup [.str "no"]) m1
      have f1 : upd Y3 g1 (.tup [.str "no"]) g1 = _ := upd_same
      have hY4 := hY3.same t2
      generalize upd Y3 g1 (.tup [.str "no"]) = Y4 at t2 f1 hY4
      refine ⟨_, rfl, _, rfl, _, rfl, (by show 2 ≤ sizeLine; decide), fun g2 m2 => ?_⟩
      have t3 := same_new (o := .tup [.str "some", .ref g1]) m2
      have f2 : upd Y4 g2 (.tup [.str "some", .ref g1]) g2 = _ := upd_same
      have hY5 := hY4.same t3
      generalize upd Y4 g2 (.tup [.str "some", .ref g1]) = Y5 at t3 f2 hY5
      refine ⟨_, rfl, (by show 2 ≤ sizeLine; decide), fun g3 m3 => ?_⟩
      have t4 := same_new (o := .tup [.str "all", .ref g1]) m3
      have f3 : upd Y5 g3 (.tup [.str "all", .ref g1]) g3 = _ := upd_same
      have hY6 := hY5.same t4
      generalize upd Y5 g3 (.tup [.str "all", .ref g1]) = Y6 at t4 f3 hY6
      refine ⟨_, rfl, _, rfl, (by show 3 ≤ sizeLine; decide), fun g4 m4 => ?_⟩
      have t5 := same_new (o := .tup [.str "or", .ref g1, .ref g1]) m4
      have f4 : upd Y6 g4 (.tup [.str "or", .ref g1, .ref g1]) g4 = _ := upd_same
      have hY7 := hY6.same t5
      generalize upd Y6 g4 (.tup [.str "or", .ref g1, .ref g1]) = Y7 at t5 f4 hY7
      refine ⟨(by show 4 ≤ sizeLine; decide), fun g5 m5 => ?_⟩
      have t6 := same_new (o := .lst [.ref g1, .ref g2, .ref g3, .ref g4]) m5
      have f5 : upd Y7 g5 (.lst [.ref g1, .ref g2, .ref g3, .ref g4]) g5 = _ := upd_same
      have hY8 := hY7.same t6
      have ng5 := hY7.ne m5
      generalize upd Y7 g5 (.lst [.ref g1, .ref g2, .ref g3, .ref g4]) = Y8 at t6 f5 hY8
      have w5 := t6
      have w4 := t5.trans w5
      have w3 := t4.trans w4
      have w2 := t3.trans w3
      have w1 := t2.trans w2
      refine ⟨p, g5, L, _, m + 1 + 3 * (i : Int) + 1, rfl, .inl (.inl f5), ng5, (by show 0 < 4; decide), (by show 4 ≤ 1000; decide), by omega, hY8, fun ov mem2 Y9 b9 hY9 => ?_⟩
      have aNo : At Y8 (.n0 "no") (.ref g1) := ⟨g1, rfl, w2 _ _ f1⟩
      have oth : ∃ t2, Sz 2 3 t2 ∧ At Y8 t2 ov := by
        rcases List.mem_cons.mp mem2 with rfl | mem2
        · exact ⟨_, sz_no.up (by decide) (by decide), aNo⟩
        rcases List.mem_cons.mp mem2 with rfl | mem2
        · exact ⟨_, (sz_one (w := "some") (by decide +kernel) sz_no).up (by decide) (by decide), g2, _, rfl, w3 _ _ f2, aNo⟩
        rcases List.mem_cons.mp mem2 with rfl | mem2
        · exact ⟨_, (sz_one (w := "all") (by decide +kernel) sz_no).up (by decide) (by decide), g3, _, rfl, w4 _ _ f3, aNo⟩
        · rw [List.mem_singleton.mp mem2]
          exact ⟨_, (sz_two (w := "or") (by decide +kernel) sz_no sz_no).up (by decide) (by decide), g4, _, _, rfl, w5 _ _ f4, aNo, aNo⟩
      obtain ⟨t2', zo, ao⟩ := oth
      have at8 := at3.keep (tups_same w1)
      have at9 := at8.keep (hY8.tups b9)
      have ao9 := ao.keep (hY8.tups b9)
      have b9' : But p H Y9 := (b3.trans (but_same w1)).trans b9
      refine ⟨_, rfl, _, rfl, _, rfl, _, rfl, (by show 3 ≤ sizeLine; decide), fun g6 m6 => ?_⟩
      have u1 := same_new (o := .tup [.str wd, v, ov]) m6
      have f6 : upd Y9 g6 (.tup [.str wd, v, ov]) g6 = _ := upd_same
      have hZ1 := hY9.same u1
      generalize upd Y9 g6 (.tup [.str wd, v, ov]) = Z1 at u1 f6 hZ1
      refine ⟨_, rfl, _, rfl, _, rfl, (by show 3 ≤ sizeLine; decide), fun g7 m7 => ?_⟩
      have u2 := same_new (o := .tup [.str wd, ov, v]) m7
      have f7 : upd Z1 g7 (.tup [.str wd, ov, v]) g7 = _ := upd_same
      have hZ2 := hZ1.same u2
      generalize upd Z1 g7 (.tup [.str wd, ov, v]) = Z2 at u2 f7 hZ2
      refine ⟨(by show 2 ≤ sizeLine; decide), fun g8 m8 => ?_⟩
      have u3 := same_new (o := .lst [.ref g6, .ref g7]) m8
      have f8 : upd Z2 g8 (.lst [.ref g6, .ref g7]) g8 = _ := upd_same
      have hZ3 := hZ2.same u3
      have ng8 := hZ2.ne m8
      generalize upd Z2 g8 (.lst [.ref g6, .ref g7]) = Z3 at u3 f8 hZ3
      have u13 := u1.trans (u2.trans u3)
      refine ⟨p, g8, L, _, m + 1 + 3 * (i : Int) + 1 + 1, rfl, .inl (.inl f8), ng8, (by show 0 < 2; decide), (by show 2 ≤ 1000; decide), by omega, hZ3, fun sv mem3 Za bz hZa => ?_⟩
      have av := at9.keep (tups_same u13)
      have ao3 := ao9.keep (tups_same u13)
      have nx : ∃ t3, Sz (i + 1 + 3) (4 * (i + 1) + 4) t3 ∧ At Z3 t3 sv := by
        rcases List.mem_cons.mp mem3 with rfl | mem3
        · exact ⟨.n2 wd t t2', (sz_two row zt zo).up (by omega) (by omega), g6, _, _, rfl, (u2.trans u3) _ _ f6, av, ao3⟩
        · rw [List.mem_singleton.mp mem3]
          exact ⟨.n2 wd t2' t, (sz_two row zo zt).up (by omega) (by omega), g7, _, _, rfl, u3 _ _ f7, ao3, av⟩
      obtain ⟨t3, z3, a3⟩ := nx
      exact ⟨_, _, _, _, _, sv, t3, rfl, z3, a3.keep (hZ3.tups bz), (b9'.trans (but_same u13)).trans bz, hZa.more (by omega)⟩
  · rintro σ Y0 ⟨y2, y4, y5, y6, y7, v, t, rfl, zt, at0, bY, hY⟩
    have z : ((k : Int)).toNat = k := Int.toNat_natCast k
    rw [z] at zt hY
    exact ⟨_, rfl, q t v Y0 zt at0 bY (hY.more (by omega))⟩
end
end Kf
set_option Elab.async false
set_option linter.all false
set_option maxRecDepth 100000
set_option maxHeartbeats 8000000
set_option pp.maxSteps 300
/-! k21: the law. -/
namespace Kf
open PySem PySem.Spec PyProof.Rows L2 Sx LamX LmY _root_.Gd
abbrev sLaw : Stmt := top 22
abbrev lawN : List Str := ["script", "dice", "turn", "saying", "kept", "kind"]
theorem scLaw : FnScope lawN ["script"] (defScope sLaw) := ⟨rfl, rfl, rfl, by decide +kernel, rfl, by decide +kernel, by decide +kernel⟩
theorem cr_reprE {X : Cx} (gu : X.A.guards = some []) (un : X.A.units + 130 < cLine) : CallR X (.builtin "repr") (fun xs H Q => ∃ (a : Addr) (d : PyData), xs = [.ref a] ∧ Dp X.K H (.ref a) d ∧ d.showable = true ∧ d.hasDict = false ∧ d.depth ≤ 120 ∧ d.shown.length ≤ sizeLine ∧ Q (.str d.shown) H) := by
  intro pins s σ H xs us Q I rel ⟨a, d, ex, dp, sh, nd, dd, fits, q⟩
  subst ex
  rw [Vals.ref1 rel]
  obtain ⟨as, rd⟩ := Dp.reads I d (.ref a) (.ref a) dp rfl
  exact repr_of_reads' rd sh (fun e => by rw [nd] at e; cases e) gu (by omega) (fun _ _ e => e) (fun h' u tk kp => ⟨.str d.shown, H, I.kept kp, ⟨u, rfl⟩, q⟩) fits
theorem cr_reprX {X : Cx} (gu : X.A.guards = some []) (un : X.A.units + 130 < cLine) : CallR X (.builtin "repr") (fun xs H Q => ∃ (v : V) (d : PyData), xs = [v] ∧ Dp X.K H v d ∧ d.showable = true ∧ d.hasDict = false ∧ d.depth ≤ 120 ∧ d.shown.length ≤ sizeLine ∧ Q (.str d.shown) H) := by
  intro pins s σ H xs us Q I rel ⟨v, d, ex, dp, sh, nd, dd, fits, q⟩
  subst ex
  cases dp with
  | lst h g => exact cr_reprE gu un pins s σ H _ us Q I rel ⟨_, _, rfl, .lst h g, sh, nd, dd, fits, q⟩
  | tup h g => exact cr_reprE gu un pins s σ H _ us Q I rel ⟨_, _, rfl, .tup h g, sh, nd, dd, fits, q⟩
  | non =>
    cases rel with
    | cons r rr =>
      cases rr
      cases r
      exact P.repr_of_none ⟨.str (PyData.shown .none), H, I.tok _, ⟨_, rfl⟩, q⟩
  | bl b =>
    cases rel with
    | cons r rr =>
      cases rr
      cases r
      cases b with
      | false => exact P.repr_of_bool (b := false) ⟨.str (PyData.shown (.bool false)), H, I.tok _, ⟨_, rfl⟩, q⟩
      | true => exact P.repr_of_bool (b := true) ⟨.str (PyData.shown (.bool true)), H, I.tok _, ⟨_, rfl⟩, q⟩
  | int i =>
    cases rel with
    | cons r rr =>
      cases rr
      obtain ⟨t, rfl⟩ := r
      exact P.repr_of_int (of_decide_eq_true sh) ⟨.str (PyData.shown (.int i)), H, I.tok _, ⟨_, rfl⟩, q⟩
  | str x =>
    cases rel with
    | cons r rr =>
      cases rr
      obtain ⟨t, rfl⟩ := r
      exact P.repr_of_str ⟨.str (PyData.shown (.str x)), H, I.tok _, ⟨_, rfl⟩, q⟩ fits
theorem cut_to {xs : List V} {k : Nat} : cutV xs none (some (k : Int)) = xs.take k := by
  unfold cutV
  rw [HT.sIx_none, HT.sIx_nat, List.drop_zero, Nat.sub_zero]
  rcases Nat.le_total k xs.length with h | h
  · rw [Nat.min_eq_left h]
  · rw [Nat.min_eq_right h, List.take_length, List.take_of_length_le h]
theorem iteNB {a b : Bool} {A B : Prop} (e : a = b) (h : B) : if (!decide (a = b)) = true then A else B := by
  rw [decide_eq_true e, Bool.not_true, if_neg Bool.false_ne_true]
  exact h
def spLaw (K : PySem.W.Frag) : Sp := fun vs H Q _ => ∃ (a : Addr) (ns : List Int), vs = [.ref a] ∧ SqL K H a (ns.map V.int) ∧ ns.length ≤ 63 ∧ (∀ z ∈ ns, Builtin.Int.intBits z ≤ 1048576) ∧ ∀ H', Q (.bl true) H'
section
variable {P : Program} {w : World} {K : PySem.W.Frag} {mg : Str → Option Value} {base : Heap}
structure Calls (P : Program) (w : World) (K : PySem.W.Frag) (mg : Str → Option Value) (base : Heap) (fr fp ft fs fc fu fk fi fo : Addr) (dr dp dt ds dc du dk di do_ : FuncData) : Prop where
  D : Draw P w K mg base fr fp dr dp
  M : FnOk P w K mg base CX0 3 ft dt ["dice", "deep", "loose"] (spTermL 1)
  bM : Binds K dt ["dice", "deep", "loose"] []
  kM : PySem.W.keepIn K (.ref ft) = true
  mM : mg "_law_term" = some (.ref ft)
  S : FnOk P w K mg base CX0 10 fs ds ["dice", "deep", "loose"] (spSayL 6)
  bS : Binds K ds ["dice", "deep", "loose"] []
  kS_ : PySem.W.keepIn K (.ref fs) = true
  mS : mg "_law_saying" = some (.ref fs)
  C : FnOk P w K mg base CX0 3 fc dc ["dice", "many"] spChainL
  bC : Binds K dc ["dice", "many"] []
  kC : PySem.W.keepIn K (.ref fc) = true
  mC : mg "_law_chain" = some (.ref fc)
  U : FnOk P w K mg base CX0 60 fu du ["thing", "term"] (spPutL 60)
  bU : Binds K du ["thing", "term"] []
  kU : PySem.W.keepIn K (.ref fu) = true
  mU : mg "_law_put" = some (.ref fu)
  O : FnOk P w K mg base CX0 61 fo do_ ["saying"] (spDueL K 60)
  bO : Binds K do_ ["saying"] []
  kO : PySem.W.keepIn K (.ref fo) = true
  mO : mg "_law_due" = some (.ref fo)
  Kd : FnOk P w K mg base CX0 3 fk dk ["saying"] (spKindOf K)
  bK : Binds K dk ["saying"] []
  kK : PySem.W.keepIn K (.ref fk) = true
  mK : mg "kind_of" = some (.ref fk)
  I : FnOk P w K mg base CX0 2 fi di ["thing"] (spIsKind K)
  bI : Binds K di ["thing"] []
  kI : PySem.W.keepIn K (.ref fi) = true
  mI : mg "is_kind" = some (.ref fi)
  zRange : mg "range" = none
  zList : mg "list" = none
  zRepr : mg "repr" = none
theorem ok_law {f fr fp ft fs fc fu fk fi fo : Addr} {fd dr dp dt ds dc du dk di do_ : FuncData} (F : Fun K "law" "law" sLaw f fd) (C : Calls P w K mg base fr fp ft fs fc fu fk fi fo dr dp dt ds dc du dk di do_) : FnG P w K mg base 70 f fd ["script"] (spLaw K) := by
  refine okG F scLaw (fun vs H Q E h => ?_) (fun cdv A outer s H vs Q gu hr h => ?_)
  · obtain ⟨a, ns, rfl, _⟩ := h
    rfl
  obtain ⟨a, ns, rfl, hS, hlen, hb, q⟩ := h
  have h1 : Room 1 _ := hr.mono (by decide)
  have h2 : Room 2 _ := hr.mono (by decide)
  have h3 : Room 3 _ := hr.mono (by decide)
  have h10 : Room 10 _ := hr.mono (by decide)
  have h60 : Room 60 _ := hr.mono (by decide)
  have h61 : Room 61 _ := hr.mono (by decide)
  have u1 : (A.deeper (envOfC "law" (defScope sLaw) s.heap.objs.size f cdv)).units + 130 < cLine := by
    have := hr.un
    omega
  refine ⟨_, pss_cons (ps_set (i := 1) scLaw.nd rfl (.inl rfl) (pe_lst (pa_cons (pe_callTy call_list_of (by rfl) C.zList (by decide +kernel) (pa_cons (pe_slice sl_list (pv 0) po_none (po_some pe_int)) pa_nil)) (pa_cons pe_int (pa_cons pe_int (pa_cons pe_int pa_nil))))))
    (pss_cons (ps_for PassesOwn.never rfl (pi_range1 (by rfl) C.zRange (pa_cons pe_int pa_nil)) (pg_name (i := 2) scLaw.nd rfl (.inl rfl))
      (pss_one (ps_for PassesOwn.never rfl (pi_list (pe_lst (pa_cons (pe_call C.S h10 (by rfl) C.mS C.kS_ C.bS .nil pass0 (pa_cons (pv 1) (pa_cons pe_int (pa_cons pe_int pa_nil)))) (pa_cons (pe_call C.C h3 (by rfl) C.mC C.kC C.bC .nil pass0 (pa_cons (pv 1) (pa_cons (pe_call C.D.R h1 (by rfl) C.D.mR C.D.kR C.D.bR .nil pass0 (pa_cons (pv 1) (pa_cons pe_int pa_nil))) pa_nil))) pa_nil)))) (pg_name (i := 3) scLaw.nd rfl (.inl rfl))
        (pss_cons (ps_set (i := 4) scLaw.nd rfl (.inl rfl) (pe_callB (cr_reprX gu u1) (by rfl) C.zRepr (by decide +kernel) (pa_cons (pv 3) pa_nil)))
        (pss_cons (ps_set (i := 5) scLaw.nd rfl (.inl rfl) (pe_call C.Kd h3 (by rfl) C.mK C.kK C.bK .nil pass0 (pa_cons (pv 3) pa_nil)))
        (pss_cons (ps_if (PW.pt (pw_or (pt_cmpR op_ne (pe_callB (cr_reprX gu u1) (by rfl) C.zRepr (by decide +kernel) (pa_cons (pv 5) pa_nil)) (pe_callB (cr_reprX gu u1) (by rfl) C.zRepr (by decide +kernel) (pa_cons (pe_call C.O h61 (by rfl) C.mO C.kO C.bO .nil pass0 (pa_cons (pv 3) pa_nil)) pa_nil)) (nomark _))
          (pw_or (pt_cmpR op_notBl (pe_call C.I h2 (by rfl) C.mI C.kI C.bI .nil pass0 (pa_cons (pv 5) pa_nil)) pe_bl (nomark _))
          (pw_or1 (pt_cmpR op_ne (pe_callB (cr_reprX gu u1) (by rfl) C.zRepr (by decide +kernel) (pa_cons (pv 3) pa_nil)) (pv 4) (nomark _)))))) (pss_one (ps_ret pe_bl)) pss_nil)
        (pss_one (ps_if (pt_cmpR (op_neW u1) (pe_call C.Kd h3 (by rfl) C.mK C.kK C.bK .nil pass0 (pa_cons (pe_call C.U h60 (by rfl) C.mU C.kU C.bU .nil pass0 (pa_cons (pv 3) (pa_cons (pe_call C.M h3 (by rfl) C.mM C.kM C.bM .nil pass0 (pa_cons (pv 1) (pa_cons pe_int (pa_cons pe_int pa_nil)))) pa_nil))) pa_nil)) (pv 5) (nomark _)) (pss_one (ps_ret pe_bl)) pss_nil))))))))
    (pss_one (ps_ret pe_bl))), ?_⟩
  refine ⟨_, rfl, 63, rfl, a, _, rfl, hS, fun l0 nl0 => ?_⟩
  have c63 : cutV (ns.map V.int) none (some 63) = ns.map V.int := by
    have z := cut_to (xs := ns.map V.int) (k := 63)
    rw [show (((63 : Nat) : Int)) = 63 from rfl] at z
    rw [z]
    exact List.take_of_length_le (by rw [List.length_map]; exact hlen)
  rw [c63]
  have e0 : upd H l0 (.lst (ns.map V.int)) l0 = _ := upd_same
  generalize upd H l0 (.lst (ns.map V.int)) = H0 at e0
  refine ⟨l0, _, rfl, .inl (.inl (.inl e0)), fun L nL => ?_⟩
  have e1 : upd H0 L (.lst (ns.map V.int)) L = _ := upd_same
  generalize upd H0 L (.lst (ns.map V.int)) = H1 at e1
  refine ⟨(by show 4 ≤ sizeLine; decide), fun p np => ?_⟩
  have nLp : L ≠ p := fun z => by
    rw [← z, e1] at np
    cases np
  have hD0 : DiceAt (upd H1 p (.lst [.ref L, .int 0, .int 0, .int 0])) p L 0 := ⟨0, 0, 0, ns, upd_same, nLp, by rw [upd_ne nLp]; exact e1, hlen, Int.le_refl _, Int.le_refl _⟩
  generalize upd H1 p (.lst [.ref L, .int 0, .int 0, .int 0]) = H2 at hD0
  have c5 : cy 5 = 766 := by decide
  have c0 : ct 0 = 4 := by decide
  refine ⟨_, rfl, by decide, by decide, ?_⟩
  refine for_range (lo := 0) (n := 5) (fun i σ H' => ∃ y2 y3 y4 y5 : Option V, σ = [some (.ref a), some (.ref p), y2, y3, y4, y5] ∧ DiceAt H' p L (1000 * (i : Int)))
    ⟨_, _, _, _, rfl, hD0.more (by omega)⟩ ?_ ?_
  · rintro i σ X0 hi ⟨y2, y3, y4, y5, rfl, hD⟩
    generalize hm : (1000 * (i : Int)) = m at hD
    have mb : m < 2 ^ 40 := by
      have z : (i : Int) < 5 := by omega
      omega
    -- the two sayings
    refine ⟨_, rfl, p, L, 5, 0, m, rfl, by decide, by decide, by omega, hD, fun t1 v1 X1 k1 a1 b1 hD1 => ?_⟩
    refine ⟨_, rfl, _, rfl, p, L, 50, m + cy 5, rfl, by decide, by decide, by omega, hD1, fun r X2 r0 r50 b2 hD2 => ?_⟩
    obtain ⟨rn, rfl⟩ := Int.eq_ofNat_of_zero_le r0
    refine ⟨p, L, rn, m + cy 5 + 1, rfl, by omega, by omega, hD2, fun t2 v2 X3 z2 a2 b3 hD3 => ?_⟩
    refine ⟨(by show 2 ≤ sizeLine; decide), fun l nl => ?_⟩
    have s4 := same_new (o := .lst [v1, v2]) nl
    have el : upd X3 l (.lst [v1, v2]) l = _ := upd_same
    have nlp := hD3.ne nl
    have hD4 := hD3.same s4
    have A1 := (((a1.keep (hD1.tups b2)).keep (hD2.tups b3))).keep (tups_same s4)
    have A2 := a2.keep (tups_same s4)
    generalize upd X3 l (.lst [v1, v2]) = X4 at s4 el hD4 A1 A2
    have all : ∀ x ∈ ([v1, v2] : List V), ∃ t, t.Wf kS ∧ t.deep ≤ 60 ∧ t.size ≤ 300 ∧ At X4 t x := fun x hx => by
      rcases List.mem_cons.mp hx with rfl | hx
      · refine ⟨t1, k1.wf, Nat.le_trans k1.dp (by decide), ?_, A1⟩
        have z := size_deep t1
        have y : 2 ^ t1.deep ≤ 2 ^ 8 := Nat.pow_le_pow_right (by decide) k1.dp
        omega
      · rw [List.mem_singleton.mp hx]
        have d := z2.dp
        have s := z2.sz
        exact ⟨t2, z2.wf, by omega, by omega, A2⟩
    generalize hmm : m + cy 5 + 1 + 200 = mm at hD4
    have mmb : mm ≤ 1000 * (i : Int) + 967 := by omega
    have mm0 : mm < 2 ^ 41 := by omega
    refine ⟨l, rfl, ⟨_, .inl (.inl el)⟩, for_list (K := K) (a := l) (xs := [v1, v2]) (fun j σ H' => ∃ y3 y4 y5 : Option V, σ = [some (.ref a), some (.ref p), some (.int (0 + (i : Int))), y3, y4, y5] ∧ But p X4 H' ∧ DiceAt H' p L (mm + 4 * (j : Int)))
      ⟨_, _, _, rfl, But.refl _ _, hD4.more (by omega)⟩ (fun j σ H' _ ⟨_, _, _, _, b, _⟩ => .inl (.inl (b _ _ nlp el))) ?_ ?_⟩
    · rintro j x σ H8 hx ⟨y3, y4, y5, rfl, bb, hD8⟩
      obtain ⟨t, wf, dt, zt, at4⟩ := all x (List.mem_of_getElem? hx)
      have jl : j < 2 := (List.getElem?_eq_some_iff.mp hx).1
      have at8 := at4.keep (hD4.tups bb)
      have ok := wf_ok wf
      have W := wd_tree t kS wf
      have wl : t.dat.shown.length ≤ sizeLine := by
        have := W.len
        have z : (100000 : Nat) ≤ sizeLine := by decide
        omega
      have wd : t.dat.depth ≤ 120 := Nat.le_trans W.deep (by omega)
      have X := kx_kd t
      have xl : (kd t).shown.length ≤ sizeLine := by
        have := X.len
        have z : (200000 : Nat) ≤ sizeLine := by decide
        omega
      have xd : (kd t).depth ≤ 120 := Nat.le_trans X.deep (by omega)
      refine ⟨_, rfl, x, t.dat, rfl, at8.dp ok, W.show_, W.dict, wd, wl, ?_⟩
      refine ⟨_, rfl, [p], x, t, rfl, ls1 hD8, at8, wf, by omega, by omega, fun u H9 hu s9 => ?_⟩
      have hD9 := hD8.same s9
      have at9 := at8.keep (tups_same s9)
      refine ⟨_, rfl, u, kd t, rfl, hu.dp, X.show_, X.dict, xd, xl, ?_⟩
      refine ⟨_, rfl, [p], x, t, rfl, ls1 hD9, at9, wf, dt, by omega, fun u2 Ha hu2 sa => ?_⟩
      have at10 := at9.keep (tups_same sa)
      have hua := hu.same sa
      refine ⟨u2, kd t, rfl, hu2.dp, X.show_, X.dict, xd, xl, rfl, _, rfl, iteNS rfl ?_⟩
      refine ⟨_, rfl, u, kd t, rfl, hua.dp, X.lay, Nat.le_trans X.deep (by omega), Nat.le_trans X.sz (by omega), fun Hb sb => ?_⟩
      have hub := hua.same sb
      have at11 := at10.keep (tups_same sb)
      have hDb := (hD9.same sa).same sb
      refine ⟨kn (kd t), true, rfl, rfl, _, rfl, iteNB X.kn ?_⟩
      refine ⟨_, rfl, x, t.dat, rfl, at11.dp ok, W.show_, W.dict, wd, wl, _, rfl, rfl, _, rfl, iteNS rfl ?_⟩
      -- with a term put
      refine ⟨_, rfl, _, rfl, p, L, 0, 0, mm + 4 * (j : Int), rfl, by decide, by decide, by omega, hDb, fun tt vt Hc kt ac bc hDc => ?_⟩
      have k12 := hDb.tups bc
      refine ⟨x, vt, t, tt, kS, rfl, at11.keep k12, ac, wf, dt, by omega, fun y Hd ay sd => ?_⟩
      have d1 : tt.deep ≤ 1 := kt.dp
      have pd := px_deep d1 t
      have pz := px_size (deep_one d1) t
      refine ⟨[p], y, px tt t, rfl, ls1 (hDc.same sd), ay, px_wf kt.wf wf, by omega, by omega, fun u3 He hu3 se => ?_⟩
      rw [px_kd tt wf] at hu3
      have hue := ((hub.but (List.mem_singleton.mpr rfl) bc).same sd).same se
      refine ⟨_, rfl, kd t, kd t, hu3.dp, hue.dp, X.lay, X.lay, xd, _, rfl, ?_⟩
      rw [eqv_self _ X.pur]
      refine iteF ?_
      exact ⟨_, _, _, rfl, ((((bb.trans (but_same (s9.trans (sa.trans sb)))).trans bc).trans (but_same sd)).trans (but_same se)), ((hDc.same sd).same se).more (by omega)⟩
    · rintro σ H8 ⟨y3, y4, y5, rfl, bb, hD8⟩
      exact ⟨_, _, _, _, rfl, hD8.more (by show mm + 4 * (((2 : Nat) : Int)) ≤ _; omega)⟩
  · rintro σ X0 ⟨y2, y3, y4, y5, rfl, hD⟩
    exact q _
end
end Kf
set_option Elab.async false
set_option linter.all false
set_option maxRecDepth 100000
/-! The top, the end. -/
namespace Kf
open PySem PySem.Spec PyProof.Rows L2 Sx _root_.Gd
theorem all_mk {l : PySem.W.OpenLaw} {w : World} {K : PySem.W.Frag} {h : Heap} {mg : Str → Option Value} {fa f1 f2 f3 f4 f5 f6 f7 f8 f9 f10 f11 f12 f13 f14 f15 f16 : Addr} (X : K.In h) (G : h.Ns mainGlobals mg) (hfa : mg "law" = some (.ref fa))
    {od1 an1 od2 an2 od3 an3 od4 an4 od5 an5 od6 an6 od7 an7 od8 an8 od9 an9 od10 an10 od11 an11 od12 an12 od13 an13 od14 an14 od15 an15 od16 an16 : Option Addr} {sl1 sl2 sl3 sl4 sl5 sl6 sl7 sl8 sl9 sl10 sl11 sl12 sl13 sl14 sl15 sl16 : Array (Option Value)} {oc1 kV1 dc1 pm1 cd1 ct1 oc2 kV2 dc2 pm2 cd2 ct2 oc3 kV3 dc3 pm3 cd3 ct3 oc4 kV4 dc4 pm4 cd4 ct4 oc5 kV5 dc5 pm5 cd5 ct5 oc6 kV6 dc6 pm6 cd6 ct6 oc7 kV7 dc7 pm7 cd7 ct7 oc8 kV8 dc8 pm8 cd8 ct8 oc9 kV9 dc9 pm9 cd9 ct9 oc10 kV10 dc10 pm10 cd10 ct10 oc11 kV11 dc11 pm11 cd11 ct11 oc12 kV12 dc12 pm12 cd12 ct12 oc13 kV13 dc13 pm13 cd13 ct13 oc14 kV14 dc14 pm14 cd14 ct14 oc15 kV15 dc15 pm15 cd15 ct15 oc16 kV16 dc16 pm16 cd16 ct16 : Value}
    (a1 : PySem.W.nsIn K mainGlobals "has_form" = some (some (.ref f1))) (l1 : K.lookup f1 = some ⟨oc1, od1, .func (PySem.W.fnOf "has_form" "has_form" (defArgs sForm) (defBody sForm) (defScope sForm) .none kV1 dc1 pm1 an1 cd1 ct1), sl1⟩) (c1 : PySem.W.codeIn K cd1 "has_form" = true) (k1 : PySem.W.keepIn K (.ref f1) = true)
    (a2 : PySem.W.nsIn K mainGlobals "is_kind" = some (some (.ref f2))) (l2 : K.lookup f2 = some ⟨oc2, od2, .func (PySem.W.fnOf "is_kind" "is_kind" (defArgs sIsKind) (defBody sIsKind) (defScope sIsKind) .none kV2 dc2 pm2 an2 cd2 ct2), sl2⟩) (c2 : PySem.W.codeIn K cd2 "is_kind" = true) (k2 : PySem.W.keepIn K (.ref f2) = true)
    (a3 : PySem.W.nsIn K mainGlobals "paired" = some (some (.ref f3))) (l3 : K.lookup f3 = some ⟨oc3, od3, .func (PySem.W.fnOf "paired" "paired" (defArgs sPaired) (defBody sPaired) (defScope sPaired) .none kV3 dc3 pm3 an3 cd3 ct3), sl3⟩) (c3 : PySem.W.codeIn K cd3 "paired" = true) (k3 : PySem.W.keepIn K (.ref f3) = true)
    (a4 : PySem.W.nsIn K mainGlobals "given_from" = some (some (.ref f4))) (l4 : K.lookup f4 = some ⟨oc4, od4, .func (PySem.W.fnOf "given_from" "given_from" (defArgs sGiven) (defBody sGiven) (defScope sGiven) .none kV4 dc4 pm4 an4 cd4 ct4), sl4⟩) (c4 : PySem.W.codeIn K cd4 "given_from" = true) (k4 : PySem.W.keepIn K (.ref f4) = true)
    (a5 : PySem.W.nsIn K mainGlobals "joined" = some (some (.ref f5))) (l5 : K.lookup f5 = some ⟨oc5, od5, .func (PySem.W.fnOf "joined" "joined" (defArgs sJoined) (defBody sJoined) (defScope sJoined) .none kV5 dc5 pm5 an5 cd5 ct5), sl5⟩) (c5 : PySem.W.codeIn K cd5 "joined" = true) (k5 : PySem.W.keepIn K (.ref f5) = true)
    (a6 : PySem.W.nsIn K mainGlobals "sayings_of" = some (some (.ref f6))) (l6 : K.lookup f6 = some ⟨oc6, od6, .func (PySem.W.fnOf "sayings_of" "sayings_of" (defArgs sOf) (defBody sOf) (defScope sOf) .none kV6 dc6 pm6 an6 cd6 ct6), sl6⟩) (c6 : PySem.W.codeIn K cd6 "sayings_of" = true) (k6 : PySem.W.keepIn K (.ref f6) = true)
    (a7 : PySem.W.nsIn K mainGlobals "kind_of" = some (some (.ref f7))) (l7 : K.lookup f7 = some ⟨oc7, od7, .func (PySem.W.fnOf "kind_of" "kind_of" (defArgs sKindOf) (defBody sKindOf) (defScope sKindOf) .none kV7 dc7 pm7 an7 cd7 ct7), sl7⟩) (c7 : PySem.W.codeIn K cd7 "kind_of" = true) (k7 : PySem.W.keepIn K (.ref f7) = true)
    (a8 : PySem.W.nsIn K mainGlobals "_law_roll" = some (some (.ref f8))) (l8 : K.lookup f8 = some ⟨oc8, od8, .func (PySem.W.fnOf "_law_roll" "_law_roll" (defArgs sRoll) (defBody sRoll) (defScope sRoll) .none kV8 dc8 pm8 an8 cd8 ct8), sl8⟩) (c8 : PySem.W.codeIn K cd8 "_law_roll" = true) (k8 : PySem.W.keepIn K (.ref f8) = true)
    (a9 : PySem.W.nsIn K mainGlobals "_law_pick" = some (some (.ref f9))) (l9 : K.lookup f9 = some ⟨oc9, od9, .func (PySem.W.fnOf "_law_pick" "_law_pick" (defArgs sPick) (defBody sPick) (defScope sPick) .none kV9 dc9 pm9 an9 cd9 ct9), sl9⟩) (c9 : PySem.W.codeIn K cd9 "_law_pick" = true) (k9 : PySem.W.keepIn K (.ref f9) = true)
    (a10 : PySem.W.nsIn K mainGlobals "_law_term" = some (some (.ref f10))) (l10 : K.lookup f10 = some ⟨oc10, od10, .func (PySem.W.fnOf "_law_term" "_law_term" (defArgs sTermL) (defBody sTermL) (defScope sTermL) .none kV10 dc10 pm10 an10 cd10 ct10), sl10⟩) (c10 : PySem.W.codeIn K cd10 "_law_term" = true) (k10 : PySem.W.keepIn K (.ref f10) = true)
    (a11 : PySem.W.nsIn K mainGlobals "_law_saying" = some (some (.ref f11))) (l11 : K.lookup f11 = some ⟨oc11, od11, .func (PySem.W.fnOf "_law_saying" "_law_saying" (defArgs sSayL) (defBody sSayL) (defScope sSayL) .none kV11 dc11 pm11 an11 cd11 ct11), sl11⟩) (c11 : PySem.W.codeIn K cd11 "_law_saying" = true) (k11 : PySem.W.keepIn K (.ref f11) = true)
    (a12 : PySem.W.nsIn K mainGlobals "_law_put" = some (some (.ref f12))) (l12 : K.lookup f12 = some ⟨oc12, od12, .func (PySem.W.fnOf "_law_put" "_law_put" (defArgs sPutL) (defBody sPutL) (defScope sPutL) .none kV12 dc12 pm12 an12 cd12 ct12), sl12⟩) (c12 : PySem.W.codeIn K cd12 "_law_put" = true) (k12 : PySem.W.keepIn K (.ref f12) = true)
    (a13 : PySem.W.nsIn K mainGlobals "_law_two" = some (some (.ref f13))) (l13 : K.lookup f13 = some ⟨oc13, od13, .func (PySem.W.fnOf "_law_two" "_law_two" (defArgs sTwoL) (defBody sTwoL) (defScope sTwoL) .none kV13 dc13 pm13 an13 cd13 ct13), sl13⟩) (c13 : PySem.W.codeIn K cd13 "_law_two" = true) (k13 : PySem.W.keepIn K (.ref f13) = true)
    (a14 : PySem.W.nsIn K mainGlobals "_law_due" = some (some (.ref f14))) (l14 : K.lookup f14 = some ⟨oc14, od14, .func (PySem.W.fnOf "_law_due" "_law_due" (defArgs sDueL) (defBody sDueL) (defScope sDueL) .none kV14 dc14 pm14 an14 cd14 ct14), sl14⟩) (c14 : PySem.W.codeIn K cd14 "_law_due" = true) (k14 : PySem.W.keepIn K (.ref f14) = true)
    (a15 : PySem.W.nsIn K mainGlobals "_law_chain" = some (some (.ref f15))) (l15 : K.lookup f15 = some ⟨oc15, od15, .func (PySem.W.fnOf "_law_chain" "_law_chain" (defArgs sChainL) (defBody sChainL) (defScope sChainL) .none kV15 dc15 pm15 an15 cd15 ct15), sl15⟩) (c15 : PySem.W.codeIn K cd15 "_law_chain" = true) (k15 : PySem.W.keepIn K (.ref f15) = true)
    (a16 : PySem.W.nsIn K mainGlobals "law" = some (some (.ref f16))) (l16 : K.lookup f16 = some ⟨oc16, od16, .func (PySem.W.fnOf "law" "law" (defArgs sLaw) (defBody sLaw) (defScope sLaw) .none kV16 dc16 pm16 an16 cd16 ct16), sl16⟩) (c16 : PySem.W.codeIn K cd16 "law" = true) (k16 : PySem.W.keepIn K (.ref f16) = true)
    (zrange : PySem.W.nsIn K mainGlobals "range" = some none)
    (zlen : PySem.W.nsIn K mainGlobals "len" = some none)
    (zlist : PySem.W.nsIn K mainGlobals "list" = some none)
    (zisinstance : PySem.W.nsIn K mainGlobals "isinstance" = some none)
    (ztuple : PySem.W.nsIn K mainGlobals "tuple" = some none)
    (zrepr : PySem.W.nsIn K mainGlobals "repr" = some none)
    (zint : PySem.W.nsIn K mainGlobals "int" = some none)
    (zreversed : PySem.W.nsIn K mainGlobals "reversed" = some none)
    (zzip : PySem.W.nsIn K mainGlobals "zip" = some none)
    {FV ga1 gb1 ga2 gb2 ga3 gb3 ga4 gb4 ga5 gb5 ga6 gb6 ga7 gb7 ga8 gb8 ga9 gb9 ga10 gb10 : Addr} {da1 db1 da2 db2 da3 db3 da4 db4 da5 db5 da6 db6 da7 db7 da8 db8 da9 db9 da10 db10 : Option Addr} {sa1 sb1 sa2 sb2 sa3 sb3 sa4 sb4 sa5 sb5 sa6 sb6 sa7 sb7 sa8 sb8 sa9 sb9 sa10 sb10 : Array (Option Value)} {nF na1 nb1 na2 nb2 na3 nb3 na4 nb4 na5 nb5 na6 nb6 na7 nb7 na8 nb8 na9 nb9 na10 nb10 : Nat} {ta1 tb1 ta2 tb2 tc2 ta3 tb3 tc3 ta4 tb4 tc4 ta5 ta6 tb6 tc6 ta7 tb7 tc7 ta8 tb8 tc8 ta9 tb9 ta10 tb10 : Tok} {es : Array DictEntry} (aF : PySem.W.nsIn K mainGlobals "FORMS" = some (some (.ref FV))) (oF : K.lookup FV = some ⟨.type "dict", none, .dict es nF, #[]⟩) (litF : PySem.W.KeysLit w.params es.toList) (lowF : (FV == sysModules) = false)
    (n1 : PySem.W.nsIn K FV "next" = some (some (.ref ga1))) (p1 : K.lookup ga1 = some ⟨.type "tuple", da1, .seq #[.str "term" ta1, .ref gb1] na1, sa1⟩) (q1 : K.lookup gb1 = some ⟨.type "tuple", db1, .seq #[.str "term" tb1] nb1, sb1⟩)
    (n2 : PySem.W.nsIn K FV "plus" = some (some (.ref ga2))) (p2 : K.lookup ga2 = some ⟨.type "tuple", da2, .seq #[.str "term" ta2, .ref gb2] na2, sa2⟩) (q2 : K.lookup gb2 = some ⟨.type "tuple", db2, .seq #[.str "term" tb2, .str "term" tc2] nb2, sb2⟩)
    (n3 : PySem.W.nsIn K FV "times" = some (some (.ref ga3))) (p3 : K.lookup ga3 = some ⟨.type "tuple", da3, .seq #[.str "term" ta3, .ref gb3] na3, sa3⟩) (q3 : K.lookup gb3 = some ⟨.type "tuple", db3, .seq #[.str "term" tb3, .str "term" tc3] nb3, sb3⟩)
    (n4 : PySem.W.nsIn K FV "same" = some (some (.ref ga4))) (p4 : K.lookup ga4 = some ⟨.type "tuple", da4, .seq #[.str "saying" ta4, .ref gb4] na4, sa4⟩) (q4 : K.lookup gb4 = some ⟨.type "tuple", db4, .seq #[.str "term" tb4, .str "term" tc4] nb4, sb4⟩)
    (n5 : PySem.W.nsIn K FV "no" = some (some (.ref ga5))) (p5 : K.lookup ga5 = some ⟨.type "tuple", da5, .seq #[.str "saying" ta5, .ref gb5] na5, sa5⟩) (q5 : K.lookup gb5 = some ⟨.type "tuple", db5, .seq #[] nb5, sb5⟩)
    (n6 : PySem.W.nsIn K FV "and" = some (some (.ref ga6))) (p6 : K.lookup ga6 = some ⟨.type "tuple", da6, .seq #[.str "saying" ta6, .ref gb6] na6, sa6⟩) (q6 : K.lookup gb6 = some ⟨.type "tuple", db6, .seq #[.str "saying" tb6, .str "saying" tc6] nb6, sb6⟩)
    (n7 : PySem.W.nsIn K FV "or" = some (some (.ref ga7))) (p7 : K.lookup ga7 = some ⟨.type "tuple", da7, .seq #[.str "saying" ta7, .ref gb7] na7, sa7⟩) (q7 : K.lookup gb7 = some ⟨.type "tuple", db7, .seq #[.str "saying" tb7, .str "saying" tc7] nb7, sb7⟩)
    (n8 : PySem.W.nsIn K FV "if" = some (some (.ref ga8))) (p8 : K.lookup ga8 = some ⟨.type "tuple", da8, .seq #[.str "saying" ta8, .ref gb8] na8, sa8⟩) (q8 : K.lookup gb8 = some ⟨.type "tuple", db8, .seq #[.str "saying" tb8, .str "saying" tc8] nb8, sb8⟩)
    (n9 : PySem.W.nsIn K FV "all" = some (some (.ref ga9))) (p9 : K.lookup ga9 = some ⟨.type "tuple", da9, .seq #[.str "saying" ta9, .ref gb9] na9, sa9⟩) (q9 : K.lookup gb9 = some ⟨.type "tuple", db9, .seq #[.str "saying" tb9] nb9, sb9⟩)
    (n10 : PySem.W.nsIn K FV "some" = some (some (.ref ga10))) (p10 : K.lookup ga10 = some ⟨.type "tuple", da10, .seq #[.str "saying" ta10, .ref gb10] na10, sa10⟩) (q10 : K.lookup gb10 = some ⟨.type "tuple", db10, .seq #[.str "saying" tb10] nb10, sb10⟩)
    {NO : Addr} {dNO : Option Addr} {sNO : Array (Option Value)} {nNO : Nat} {tNO0 : Tok} (aNO : PySem.W.nsIn K mainGlobals "NONE" = some (some (.ref NO))) (pNO : K.lookup NO = some ⟨.type "tuple", dNO, .seq #[.str "none" tNO0] nNO, sNO⟩)
    {NU : Addr} {dNU : Option Addr} {sNU : Array (Option Value)} {nNU : Nat} {tNU0 : Tok} (aNU : PySem.W.nsIn K mainGlobals "NUMBER" = some (some (.ref NU))) (pNU : K.lookup NU = some ⟨.type "tuple", dNU, .seq #[.str "number" tNU0] nNU, sNU⟩)
    {PA : Addr} {dPA : Option Addr} {sPA : Array (Option Value)} {nPA : Nat} {tPA0 tPA1 tPA2 : Tok} (aPA : PySem.W.nsIn K mainGlobals "PAIRED" = some (some (.ref PA))) (pPA : K.lookup PA = some ⟨.type "tuple", dPA, .seq #[.str "pair" tPA0, .str "from" tPA1, .str "either" tPA2] nPA, sPA⟩)
    {tM : Tok} {gM : Int} (aM : PySem.W.nsIn K mainGlobals "MOST_WITHIN" = some (some (.int gM tM))) (eM : gM = 100) :
    LawG l w K 70 63 "script" mg fa h := by
  have e := hfa.symm.trans (PySem.W.mg_of X G a16)
  cases e
  have F1 := fun_mk (st := sForm) l1 c1 k1
  have b1 := F1.binds (ps := ["piece"]) fun _ _ _ _ _ _ us hl => match us, hl with | [_], _ => rfl
  have m1 := PySem.W.mg_of X G a1
  have F2 := fun_mk (st := sIsKind) l2 c2 k2
  have b2 := F2.binds (ps := ["thing"]) fun _ _ _ _ _ _ us hl => match us, hl with | [_], _ => rfl
  have m2 := PySem.W.mg_of X G a2
  have F3 := fun_mk (st := sPaired) l3 c3 k3
  have b3 := F3.binds (ps := ["left", "right"]) fun _ _ _ _ _ _ us hl => match us, hl with | [_, _], _ => rfl
  have m3 := PySem.W.mg_of X G a3
  have F4 := fun_mk (st := sGiven) l4 c4 k4
  have b4 := F4.binds (ps := ["left", "right"]) fun _ _ _ _ _ _ us hl => match us, hl with | [_, _], _ => rfl
  have m4 := PySem.W.mg_of X G a4
  have F5 := fun_mk (st := sJoined) l5 c5 k5
  have b5 := F5.binds (ps := ["word", "parts"]) fun _ _ _ _ _ _ us hl => match us, hl with | [_, _], _ => rfl
  have m5 := PySem.W.mg_of X G a5
  have F6 := fun_mk (st := sOf) l6 c6 k6
  have b6 := F6.binds (ps := ["saying"]) fun _ _ _ _ _ _ us hl => match us, hl with | [_], _ => rfl
  have m6 := PySem.W.mg_of X G a6
  have F7 := fun_mk (st := sKindOf) l7 c7 k7
  have b7 := F7.binds (ps := ["saying"]) fun _ _ _ _ _ _ us hl => match us, hl with | [_], _ => rfl
  have m7 := PySem.W.mg_of X G a7
  have F8 := fun_mk (st := sRoll) l8 c8 k8
  have b8 := F8.binds (ps := ["dice", "size"]) fun _ _ _ _ _ _ us hl => match us, hl with | [_, _], _ => rfl
  have m8 := PySem.W.mg_of X G a8
  have F9 := fun_mk (st := sPick) l9 c9 k9
  have b9 := F9.binds (ps := ["dice", "some"]) fun _ _ _ _ _ _ us hl => match us, hl with | [_, _], _ => rfl
  have m9 := PySem.W.mg_of X G a9
  have F10 := fun_mk (st := sTermL) l10 c10 k10
  have b10 := F10.binds (ps := ["dice", "deep", "loose"]) fun _ _ _ _ _ _ us hl => match us, hl with | [_, _, _], _ => rfl
  have m10 := PySem.W.mg_of X G a10
  have F11 := fun_mk (st := sSayL) l11 c11 k11
  have b11 := F11.binds (ps := ["dice", "deep", "loose"]) fun _ _ _ _ _ _ us hl => match us, hl with | [_, _, _], _ => rfl
  have m11 := PySem.W.mg_of X G a11
  have F12 := fun_mk (st := sPutL) l12 c12 k12
  have b12 := F12.binds (ps := ["thing", "term"]) fun _ _ _ _ _ _ us hl => match us, hl with | [_, _], _ => rfl
  have m12 := PySem.W.mg_of X G a12
  have F13 := fun_mk (st := sTwoL) l13 c13 k13
  have b13 := F13.binds (ps := ["word", "one", "other"]) fun _ _ _ _ _ _ us hl => match us, hl with | [_, _, _], _ => rfl
  have m13 := PySem.W.mg_of X G a13
  have F14 := fun_mk (st := sDueL) l14 c14 k14
  have b14 := F14.binds (ps := ["saying"]) fun _ _ _ _ _ _ us hl => match us, hl with | [_], _ => rfl
  have m14 := PySem.W.mg_of X G a14
  have F15 := fun_mk (st := sChainL) l15 c15 k15
  have b15 := F15.binds (ps := ["dice", "many"]) fun _ _ _ _ _ _ us hl => match us, hl with | [_, _], _ => rfl
  have m15 := PySem.W.mg_of X G a15
  have F16 := fun_mk (st := sLaw) l16 c16 k16
  have m16 := PySem.W.mg_of X G a16
  have grange := PySem.W.mg_none_of X G zrange
  have glen := PySem.W.mg_none_of X G zlen
  have glist := PySem.W.mg_none_of X G zlist
  have gisinstance := PySem.W.mg_none_of X G zisinstance
  have gtuple := PySem.W.mg_none_of X G ztuple
  have grepr := PySem.W.mg_none_of X G zrepr
  have gint := PySem.W.mg_none_of X G zint
  have greversed := PySem.W.mg_none_of X G zreversed
  have gzip := PySem.W.mg_none_of X G zzip
  refine ⟨PySem.W.fnOf "law" "law" (defArgs sLaw) (defBody sLaw) (defScope sLaw) .none kV16 dc16 pm16 an16 cd16 ct16, [], spLaw K, fun p hp => (List.not_mem_nil hp).elim, fun p hp => (List.not_mem_nil hp).elim, fun p hp => (List.not_mem_nil hp).elim, fun s v => .of_eq rfl,
    fun H a ns hl hb _ hS => ⟨a, ns, rfl, hS, hl, hb, fun _ => rfl⟩, fun base _ _ _ => ?_⟩
  have form : ∀ wd k ks, (wd, k, ks) ∈ table → ∃ fa fb, PySem.W.nsIn K FV wd = some (some (.ref fa)) ∧ (∀ H, SqT K H fa [.str k, .ref fb]) ∧ ∀ H, SqT K H fb (ks.map V.str) := by
    intro wd k ks hm
    rcases List.mem_cons.mp hm with e | hm
    · cases e
      exact ⟨_, _, n1, fun H => .inr ⟨_, _, _, p1, rfl, rfl, (by show 2 ≤ sizeLine; decide), .cons ⟨_, rfl⟩ (.cons rfl .nil)⟩, fun H => .inr ⟨_, _, _, q1, rfl, rfl, (by show 1 ≤ sizeLine; decide), .cons ⟨_, rfl⟩ (.nil)⟩⟩
    rcases List.mem_cons.mp hm with e | hm
    · cases e
      exact ⟨_, _, n2, fun H => .inr ⟨_, _, _, p2, rfl, rfl, (by show 2 ≤ sizeLine; decide), .cons ⟨_, rfl⟩ (.cons rfl .nil)⟩, fun H => .inr ⟨_, _, _, q2, rfl, rfl, (by show 2 ≤ sizeLine; decide), .cons ⟨_, rfl⟩ (.cons ⟨_, rfl⟩ (.nil))⟩⟩
    rcases List.mem_cons.mp hm with e | hm
    · cases e
      exact ⟨_, _, n3, fun H => .inr ⟨_, _, _, p3, rfl, rfl, (by show 2 ≤ sizeLine; decide), .cons ⟨_, rfl⟩ (.cons rfl .nil)⟩, fun H => .inr ⟨_, _, _, q3, rfl, rfl, (by show 2 ≤ sizeLine; decide), .cons ⟨_, rfl⟩ (.cons ⟨_, rfl⟩ (.nil))⟩⟩
    rcases List.mem_cons.mp hm with e | hm
    · cases e
      exact ⟨_, _, n4, fun H => .inr ⟨_, _, _, p4, rfl, rfl, (by show 2 ≤ sizeLine; decide), .cons ⟨_, rfl⟩ (.cons rfl .nil)⟩, fun H => .inr ⟨_, _, _, q4, rfl, rfl, (by show 2 ≤ sizeLine; decide), .cons ⟨_, rfl⟩ (.cons ⟨_, rfl⟩ (.nil))⟩⟩
    rcases List.mem_cons.mp hm with e | hm
    · cases e
      exact ⟨_, _, n5, fun H => .inr ⟨_, _, _, p5, rfl, rfl, (by show 2 ≤ sizeLine; decide), .cons ⟨_, rfl⟩ (.cons rfl .nil)⟩, fun H => .inr ⟨_, _, _, q5, rfl, rfl, (by show 0 ≤ sizeLine; decide), .nil⟩⟩
    rcases List.mem_cons.mp hm with e | hm
    · cases e
      exact ⟨_, _, n6, fun H => .inr ⟨_, _, _, p6, rfl, rfl, (by show 2 ≤ sizeLine; decide), .cons ⟨_, rfl⟩ (.cons rfl .nil)⟩, fun H => .inr ⟨_, _, _, q6, rfl, rfl, (by show 2 ≤ sizeLine; decide), .cons ⟨_, rfl⟩ (.cons ⟨_, rfl⟩ (.nil))⟩⟩
    rcases List.mem_cons.mp hm with e | hm
    · cases e
      exact ⟨_, _, n7, fun H => .inr ⟨_, _, _, p7, rfl, rfl, (by show 2 ≤ sizeLine; decide), .cons ⟨_, rfl⟩ (.cons rfl .nil)⟩, fun H => .inr ⟨_, _, _, q7, rfl, rfl, (by show 2 ≤ sizeLine; decide), .cons ⟨_, rfl⟩ (.cons ⟨_, rfl⟩ (.nil))⟩⟩
    rcases List.mem_cons.mp hm with e | hm
    · cases e
      exact ⟨_, _, n8, fun H => .inr ⟨_, _, _, p8, rfl, rfl, (by show 2 ≤ sizeLine; decide), .cons ⟨_, rfl⟩ (.cons rfl .nil)⟩, fun H => .inr ⟨_, _, _, q8, rfl, rfl, (by show 2 ≤ sizeLine; decide), .cons ⟨_, rfl⟩ (.cons ⟨_, rfl⟩ (.nil))⟩⟩
    rcases List.mem_cons.mp hm with e | hm
    · cases e
      exact ⟨_, _, n9, fun H => .inr ⟨_, _, _, p9, rfl, rfl, (by show 2 ≤ sizeLine; decide), .cons ⟨_, rfl⟩ (.cons rfl .nil)⟩, fun H => .inr ⟨_, _, _, q9, rfl, rfl, (by show 1 ≤ sizeLine; decide), .cons ⟨_, rfl⟩ (.nil)⟩⟩
    · cases List.mem_singleton.mp hm
      exact ⟨_, _, n10, fun H => .inr ⟨_, _, _, p10, rfl, rfl, (by show 2 ≤ sizeLine; decide), .cons ⟨_, rfl⟩ (.cons rfl .nil)⟩, fun H => .inr ⟨_, _, _, q10, rfl, rfl, (by show 1 ≤ sizeLine; decide), .cons ⟨_, rfl⟩ (.nil)⟩⟩
  have TX : Txt K w mg FV := ⟨PySem.W.mg_of X G aF, ⟨es, nF, ⟨oF, litF, lowF⟩⟩, form, gzip⟩
  have X1 : Tx K mg NO NU PA := ⟨PySem.W.mg_of X G aNO, PySem.W.mg_of X G aNU, PySem.W.mg_of X G aPA, fun H => .inr ⟨_, _, _, pNO, rfl, rfl, (by show 1 ≤ sizeLine; decide), (.cons ⟨_, rfl⟩ .nil)⟩, fun H => .inr ⟨_, _, _, pNU, rfl, rfl, (by show 1 ≤ sizeLine; decide), (.cons ⟨_, rfl⟩ .nil)⟩, fun H => .inr ⟨_, _, _, pPA, rfl, rfl, (by show 3 ≤ sizeLine; decide), (.cons ⟨_, rfl⟩ (.cons ⟨_, rfl⟩ (.cons ⟨_, rfl⟩ .nil)))⟩, gisinstance, gtuple, glen⟩
  have mM : mg "MOST_WITHIN" = some (.int 100 tM) := by
    rw [← eM]
    exact PySem.W.mg_of X G aM
  have gRoll := ok_roll (P := l.prog) (w := w) (base := base) (j := 0) F8 glen
  have D : Draw l.prog w K mg base f8 f9 _ _ := ⟨gRoll, b8, k8, m8, ok_pick F9 gRoll b8 k8 m8 glen, b9, k9, m9⟩
  have gFo := ok_form (P := l.prog) (w := w) (base := base) (j := 0) F1 X1
  have gIs := ok_iskind F2 X1 mM gFo b1 k1 m1
  have gPa := ok_paired (P := l.prog) (w := w) (base := base) (j := 0) F3 X1
  have gGi := ok_given (P := l.prog) (w := w) (base := base) (j := 0) F4 X1
  have gJo := ok_joined F5 X1 gPa b3 k3 m3 gGi b4 k4 m4
  have gOf := ok_of (P := l.prog) (w := w) (base := base) (j := 0) F6 TX
  have gKo := ok_kindof F7 X1 gOf b6 k6 m6 gJo b5 k5 m5 greversed
  have gTe := ok_termsL F10 D b10 m10
  have gSa := ok_saysL F11 D (gTe 2) b10 k10 m10 b11 m11
  have gPu := ok_putsL (P := l.prog) (w := w) (base := base) F12 b12 m12 gisinstance gtuple
  have gTw := ok_twoL (P := l.prog) (w := w) (base := base) (j := 0) F13 gint
  have gDu := ok_duesL F14 gTw b13 k13 m13 gint b14 m14
  have gCh := ok_chainL F15 D grange
  exact ok_law F16 ⟨D, gTe 1, b10, k10, m10, gSa 6, b11, k11, m11, gCh, b15, k15, m15, gPu 60, b12, k12, m12, gDu 60, b14, k14, m14, gKo, b7, k7, m7, gIs, b2, k2, m2, grange, glist, grepr⟩
theorem walk {l : PySem.W.OpenLaw} {q : Program} {loose : List Str} {XP : (Str → Option Value) → Heap → Prop} {YP : World → Heap → Prop} {d : DefRec} {K : Params → PySem.W.Frag} (hn : l.most = some 63) (hdf : d.params.defaults = [])
    (hY : ∀ (w : World) (h : Heap), YP w h → (K w.params).In h)
    (F : ∀ (w : World) (mg : Str → Option Value) (fa : Addr) (h : Heap), (K w.params).In h → h.Ns mainGlobals mg → mg d.name = some (.ref fa) → LawG l w (K w.params) 70 63 "script" mg fa h) :
    PySem.W.WalkO q loose XP YP l.row.toRowW d [] (fun f vs => PySem.call f vs) :=
  walk_guard [] hn (by decide) hdf ⟨rfl, by decide, by decide⟩ (fun nm h => (List.not_mem_nil h).elim) hY (fun w mg fa h _ KX G hm _ => F w mg fa h KX G hm)
end Kf
open PySem PySem.W PyProof.Rows in
set_option maxRecDepth 100000 in
set_option maxHeartbeats 0 in
theorem PySem.Challenge.cw_prooffruit_k21_kinds_of_sayings_holds : PySem.Challenge.rw_prooffruit_k21_kinds_of_sayings.Holds := by
  w_on; o_law; k_head; (case hw => w_witness2)
  k_fill
  refine Kf.walk (l := PySem.Challenge.rw_prooffruit_k21_kinds_of_sayings) rfl rfl (fun w h Y => PySem.W.kIn_of Y) ?F
  case F =>
    intro w mg fa h KX G hmg
    refine' Kf.all_mk KX G hmg ?a1 ?l1 ?c1 ?k1 ?a2 ?l2 ?c2 ?k2 ?a3 ?l3 ?c3 ?k3 ?a4 ?l4 ?c4 ?k4 ?a5 ?l5 ?c5 ?k5 ?a6 ?l6 ?c6 ?k6 ?a7 ?l7 ?c7 ?k7 ?a8 ?l8 ?c8 ?k8 ?a9 ?l9 ?c9 ?k9 ?a10 ?l10 ?c10 ?k10 ?a11 ?l11 ?c11 ?k11 ?a12 ?l12 ?c12 ?k12 ?a13 ?l13 ?c13 ?k13 ?a14 ?l14 ?c14 ?k14 ?a15 ?l15 ?c15 ?k15 ?a16 ?l16 ?c16 ?k16 ?zrange ?zlen ?zlist ?zisinstance ?ztuple ?zrepr ?zint ?zreversed ?zzip ?aF ?oF ?litF ?lowF ?n1 ?p1 ?q1 ?n2 ?p2 ?q2 ?n3 ?p3 ?q3 ?n4 ?p4 ?q4 ?n5 ?p5 ?q5 ?n6 ?p6 ?q6 ?n7 ?p7 ?q7 ?n8 ?p8 ?q8 ?n9 ?p9 ?q9 ?n10 ?p10 ?q10 ?aNO ?pNO ?aNU ?pNU ?aPA ?pPA ?aM ?eM
    (case a1 => first | k_is | rfl)
    (case l1 => first | k_is | rfl)
    (case c1 => first | k_is | rfl)
    (case k1 => first | k_is | rfl)
    (case a2 => first | k_is | rfl)
    (case l2 => first | k_is | rfl)
    (case c2 => first | k_is | rfl)
    (case k2 => first | k_is | rfl)
    (case a3 => first | k_is | rfl)
    (case l3 => first | k_is | rfl)
    (case c3 => first | k_is | rfl)
    (case k3 => first | k_is | rfl)
    (case a4 => first | k_is | rfl)
    (case l4 => first | k_is | rfl)
    (case c4 => first | k_is | rfl)
    (case k4 => first | k_is | rfl)
    (case a5 => first | k_is | rfl)
    (case l5 => first | k_is | rfl)
    (case c5 => first | k_is | rfl)
    (case k5 => first | k_is | rfl)
    (case a6 => first | k_is | rfl)
    (case l6 => first | k_is | rfl)
    (case c6 => first | k_is | rfl)
    (case k6 => first | k_is | rfl)
    (case a7 => first | k_is | rfl)
    (case l7 => first | k_is | rfl)
    (case c7 => first | k_is | rfl)
    (case k7 => first | k_is | rfl)
    (case a8 => first | k_is | rfl)
    (case l8 => first | k_is | rfl)
    (case c8 => first | k_is | rfl)
    (case k8 => first | k_is | rfl)
    (case a9 => first | k_is | rfl)
    (case l9 => first | k_is | rfl)
    (case c9 => first | k_is | rfl)
    (case k9 => first | k_is | rfl)
    (case a10 => first | k_is | rfl)
    (case l10 => first | k_is | rfl)
    (case c10 => first | k_is | rfl)
    (case k10 => first | k_is | rfl)
    (case a11 => first | k_is | rfl)
    (case l11 => first | k_is | rfl)
    (case c11 => first | k_is | rfl)
    (case k11 => first | k_is | rfl)
    (case a12 => first | k_is | rfl)
    (case l12 => first | k_is | rfl)
    (case c12 => first | k_is | rfl)
    (case k12 => first | k_is | rfl)
    (case a13 => first | k_is | rfl)
    (case l13 => first | k_is | rfl)
    (case c13 => first | k_is | rfl)
    (case k13 => first | k_is | rfl)
    (case a14 => first | k_is | rfl)
    (case l14 => first | k_is | rfl)
    (case c14 => first | k_is | rfl)
    (case k14 => first | k_is | rfl)
    (case a15 => first | k_is | rfl)
    (case l15 => first | k_is | rfl)
    (case c15 => first | k_is | rfl)
    (case k15 => first | k_is | rfl)
    (case a16 => first | k_is | rfl)
    (case l16 => first | k_is | rfl)
    (case c16 => first | k_is | rfl)
    (case k16 => first | k_is | rfl)
    (case zrange => first | k_is | rfl)
    (case zlen => first | k_is | rfl)
    (case zlist => first | k_is | rfl)
    (case zisinstance => first | k_is | rfl)
    (case ztuple => first | k_is | rfl)
    (case zrepr => first | k_is | rfl)
    (case zint => first | k_is | rfl)
    (case zreversed => first | k_is | rfl)
    (case zzip => first | k_is | rfl)
    (case aF => first | k_is | rfl)
    (case oF => first | k_is | rfl)
    (case litF => first | k_is | exact ⟨⟨_, _, rfl, rfl⟩, ⟨_, _, rfl, rfl⟩, ⟨_, _, rfl, rfl⟩, ⟨_, _, rfl, rfl⟩, ⟨_, _, rfl, rfl⟩, ⟨_, _, rfl, rfl⟩, ⟨_, _, rfl, rfl⟩, ⟨_, _, rfl, rfl⟩, ⟨_, _, rfl, rfl⟩, ⟨_, _, rfl, rfl⟩, trivial⟩)
    (case lowF => first | k_is | rfl)
    (case n1 => first | k_is | rfl)
    (case p1 => first | k_is | rfl)
    (case q1 => first | k_is | rfl)
    (case n2 => first | k_is | rfl)
    (case p2 => first | k_is | rfl)
    (case q2 => first | k_is | rfl)
    (case n3 => first | k_is | rfl)
    (case p3 => first | k_is | rfl)
    (case q3 => first | k_is | rfl)
    (case n4 => first | k_is | rfl)
    (case p4 => first | k_is | rfl)
    (case q4 => first | k_is | rfl)
    (case n5 => first | k_is | rfl)
    (case p5 => first | k_is | rfl)
    (case q5 => first | k_is | rfl)
    (case n6 => first | k_is | rfl)
    (case p6 => first | k_is | rfl)
    (case q6 => first | k_is | rfl)
    (case n7 => first | k_is | rfl)
    (case p7 => first | k_is | rfl)
    (case q7 => first | k_is | rfl)
    (case n8 => first | k_is | rfl)
    (case p8 => first | k_is | rfl)
    (case q8 => first | k_is | rfl)
    (case n9 => first | k_is | rfl)
    (case p9 => first | k_is | rfl)
    (case q9 => first | k_is | rfl)
    (case n10 => first | k_is | rfl)
    (case p10 => first | k_is | rfl)
    (case q10 => first | k_is | rfl)
    (case aNO => first | k_is | rfl)
    (case pNO => first | k_is | rfl)
    (case aNU => first | k_is | rfl)
    (case pNU => first | k_is | rfl)
    (case aPA => first | k_is | rfl)
    (case pPA => first | k_is | rfl)
    (case aM => first | k_is | rfl)
    (case eM => first | rfl | decide +kernel)
