import PyProof.Rows.All
import Wide.All
import OpenK.AllK
import Wide.FinOn
import HandS.ForMost
import HandS.SetKeys
import HandS.SetFor
import HandS.Strs
import HandS.More
import HandS.Wide
import HandS.IsInst
import HandS.TupAny
import HandS.EndBits
import HandS.WideBits
import HandS.Deep
import HandS.DeepEq
import HandS.Conv
import HandS.NoneIn
import PyProof.ReprLen
import HandS.AnyAll
import HandS.CallLocal
import HandS.Iter
import HandS.Zip
import HandS.Comp
import HandS.Style
import HandS.Lambda
import HandS.Nested
import HandS.Star
import HandS.Flow
import HandS.Dict
import HandS.ExcInit
import HandS.WordsExc
import HandS.ExcField
import PyProof.ExcBaseAll.ValueError
import HandS.ExcOwn
import HandS.Steps
import HandS.Exc
import HandS.ExcIs
import HandS.ExcValue
import HandS.Small
import KE.KExcIs
import HandS.EndTab
import PyProof.ReprRoads
import HandS.EndOwn
import HandS.TupLe
import HandS.Defaults
import PySem.Challenge.RW_prooffruit_k28_whole_calls_far_within_on
set_option Elab.async false
set_option linter.all false
set_option maxRecDepth 100000
set_option maxHeartbeats 4000000
/-! Sets of texts, whatever the world's order of them is: set(), set(a list), add, sorted. -/
namespace Sx
open PySem PySem.Spec PyProof.Rows L2
/-- the text of an entry -/
def tx (e : Int × Value) : Str := match e.2 with
  | .str k _ => k
  | _ => Str.empty
def Ent (w : World) (e : Int × Value) : Prop := ∃ k tk, e = (hashStr w k, Value.str k tk)
/-- one text more -/
def ins (k : Str) (ks : List Str) : List Str := if k ∈ ks then ks else k :: ks
theorem ins_mem {k j : Str} {ks : List Str} : j ∈ ins k ks ↔ j = k ∨ j ∈ ks := by
  unfold ins
  split
  · rename_i h
    exact ⟨.inr, fun q => q.elim (fun e => e ▸ h) (fun q => q)⟩
  · exact List.mem_cons
theorem ins_nodup {k : Str} {ks : List Str} (h : ks.Nodup) : (ins k ks).Nodup := by
  unfold ins
  split
  · exact h
  · rename_i q
    exact List.nodup_cons.mpr ⟨q, h⟩
theorem ins_len {k : Str} {ks : List Str} : (ins k ks).length ≤ ks.length + 1 := by
  unfold ins
  split
  · omega
  · exact Nat.le_refl _
/-- the set's table: its rows are the texts ks, it can be walked -/
structure Rows (w : World) (es : Array (Int × Value)) (t : SetTable) (ks : List Str) : Prop where
  ent : ∀ e ∈ es.toList, Ent w e
  perm : (es.toList.map tx).Perm ks
  nd : ks.Nodup
  few : es.size < scanBound
  fit : t.fits es.size = true
  ris : Ris t.place.toList
  led : w.params.followText "set-order" = true ∨ t.led = true
def SetS (w : World) (h : Heap) (a : Addr) (ks : List Str) : Prop := ∃ o es ep t, h.get? a = some o ∧ o.ExactSet ∧ o.data = .set es ep t ∧ Rows w es t ks
section
variable {P : Program} {w : World} {h h' : Heap} {a : Addr} {ks : List Str} {es : Array (Int × Value)} {t : SetTable}
theorem SetS.stay (R : SetS w h a ks) (k : ∀ o, h.get? a = some o → h'.get? a = some o) : SetS w h' a ks := by
  obtain ⟨o, es, ep, t, ho, z⟩ := R
  exact ⟨o, es, ep, t, k o ho, z⟩
theorem Rows.size (r : Rows w es t ks) : es.size = ks.length := by
  have q := r.perm.length_eq
  rw [List.length_map, Array.length_toList] at q
  exact q
theorem ent_is {e : Int × Value} (g : Ent w e) (k : Str) : (PySem.strKind P w).is k e.2 = true ↔ tx e = k := by
  obtain ⟨j, tk, rfl⟩ := g
  show (j == k) = true ↔ j = k
  exact beq_iff_eq
theorem Rows.elems (r : Rows w es t ks) : ElemsOf (PySem.strKind P w) es.toList := by
  intro e he
  obtain ⟨k, tk, rfl⟩ := r.ent e he
  exact ⟨⟨k, strKind_is P w k tk, rfl⟩, rfl⟩
theorem Rows.mem (r : Rows w es t ks) (k : Str) : k ∈ ks ↔ ∃ e ∈ es.toList, (PySem.strKind P w).is k e.2 = true := by
  rw [← r.perm.mem_iff, List.mem_map]
  exact ⟨fun ⟨e, he, q⟩ => ⟨e, he, (ent_is (r.ent e he) k).2 q⟩, fun ⟨e, he, q⟩ => ⟨e, he, (ent_is (r.ent e he) k).1 q⟩⟩
theorem SetS.of (R : SetS w h a ks) : h.SetOf (PySem.strKind P w) a (fun k => decide (k ∈ ks)) ks.length := by
  obtain ⟨o, es, ep, t, ho, hx, hd, r⟩ := R
  exact ⟨o, es, ep, t, ho, hx, hd, r.elems, fun k => by rw [decide_eq_true_iff]; exact r.mem k, r.few, r.fit, r.size⟩
theorem rows_new (w : World) : Rows w #[] (.fresh 0 0 (!w.params.followText "set-order")) [] where
  ent := fun e he => by simp at he
  perm := List.Perm.refl _
  nd := List.nodup_nil
  few := by decide
  fit := rfl
  ris := List.Pairwise.nil
  led := by
    show _ ∨ (!w.params.followText "set-order") = true
    cases w.params.followText "set-order" with
    | true => exact .inl rfl
    | false => exact .inr rfl
end
section
variable {P : Program} {w : World} {A : Around} {E : Value → Shared → Prop} {s : Shared} {a : Addr} {ks : List Str}
/-- the table is stored, and laid anew where it is too full -/
theorem stored {gave : Bool → Sem Unit} (hg : ∀ (b : Bool) (z : Shared) (Y : Unit → Shared → Prop), Y () z → wpAny (model P w) A (gave b) Y E z)
    {o : Obj} {es0 es : Array (Int × Value)} {ep : Nat} {t0 t : SetTable} (ho : s.heap.get? a = some o) (hx : o.ExactSet) (hd : o.data = .set es0 ep t0) (r : Rows w es t ks) {dummy : Bool} {Z : Option Bool → Shared → Prop}
    (hZ : ∀ h', Heap.SameBut a s.heap h' → SetS w h' a ks → Z (some true) { s with heap := h' }) :
    wpAny (model P w) A (do
        storeSet a es t
        if (!dummy && t.tooFull) = true then do
            gave (relayAll t es (SetTable.grown es.size)).2.2
            storeSet a (relayAll t es (SetTable.grown es.size)).1 (relayAll t es (SetTable.grown es.size)).2.1
            pure (some true)
          else pure (some true)) Z E s := by
  have first := Heap.SameBut.update s.heap a (Obj.putSet es t)
  have o1 := store_at (es' := es) (t' := t) ho hd
  refine wpAny_bind (wpAny_storeSet_of ho hd ?_ (fits_of_scanBound r.few))
  by_cases full : (!dummy && t.tooFull) = true
  · rw [if_pos full]
    have r2 : Rows w (relayAll t es (SetTable.grown es.size)).1 (relayAll t es (SetTable.grown es.size)).2.1 ks := by
      have pm := relayAll_perm t es (SetTable.grown es.size)
      have sz : (relayAll t es (SetTable.grown es.size)).1.size = es.size := by
        have q := pm.length_eq
        rw [Array.length_toList, Array.length_toList] at q
        exact q
      exact ⟨fun e he => r.ent e (pm.mem_iff.mp he), (pm.map tx).trans r.perm, r.nd, Nat.lt_of_le_of_lt (Nat.le_of_eq sz) r.few, relayAll_fits _ _ _, relayAll_ris _ _ _, r.led.imp (fun z => z) fun z => (relayAll_led _ _ _).trans z⟩
    refine wpAny_bind (hg _ _ _ (wpAny_bind (wpAny_storeSet_of o1 rfl ?_ (fits_of_scanBound r2.few))))
    exact wpAny_pure (hZ _ (first.trans (Heap.SameBut.update _ a _)) ⟨_, _, _, _, store_at o1 rfl, hx, rfl, r2⟩)
  · rw [if_neg full]
    exact wpAny_pure (hZ _ first ⟨_, _, _, _, o1, hx, rfl, r⟩)
theorem plain_off {w : World} {es : Array (Int × Value)} {t : SetTable} {ks : List Str} (r : Rows w es t ks) : Rows w es { t with plain := false } ks :=
  ⟨r.ent, r.perm, r.nd, r.few, SetTable.fits_plain_off r.fit, r.ris, r.led⟩
/-- a text whose hash is known is added -/
theorem add_at {k : Str} {tk : Tok} {Z : Bool → Shared → Prop} (R : SetS w s.heap a ks) (room : ks.length + 1 < scanBound)
    (hZ : ∀ b h', Heap.SameBut a s.heap h' → SetS w h' a (ins k ks) → Z b { s with heap := h' }) : wpAny (model P w) A (setAddHashed a (.str k tk) (hashStr w k)) Z E s := by
  obtain ⟨o, es, ep, t, ho, hx, hd, r⟩ := R
  have hel : ElemsOf (PySem.strKind P w) es.toList := r.elems
  have hscan : byScan (Value.str k tk) es = true := byScan_of rfl r.few hel
  unfold setAddHashed setAddHashedIn
  refine wpAny_holding (wpAny_bind (wpAny_setState_of ho hd r.fit ?_))
  dsimp only
  rw [hscan]
  simp only [↓reduceIte]
  unfold setAddByScan
  refine wpAny_bind (wpAny_bind (wpAny_rule (wpAny_bind (wpAny_setScan_of (knd := PySem.strKind P w) (k := k) (strKind_is P w k tk) ho hd r.fit hel ?_))))
  cases found : List.findIdx? (fun e => (PySem.strKind P w).is k e.2) es.toList with
  | some j =>
    obtain ⟨lt, hit, _⟩ := List.findIdx?_eq_some_iff_getElem.mp found
    have there : k ∈ ks := (r.mem (P := P) k).2 ⟨_, List.getElem_mem lt, hit⟩
    refine wpAny_pure (wpAny_pure (hZ _ s.heap (Heap.SameBut.refl a s.heap) ⟨o, es, ep, t, ho, hx, hd, ?_⟩))
    unfold ins
    rw [if_pos there]
    exact r
  | none =>
    have away : k ∉ ks := fun z => by
      obtain ⟨e, he, hit⟩ := (r.mem (P := P) k).1 z
      have no := List.findIdx?_eq_none_iff.mp found e he
      rw [hit] at no
      cases no
    have pm0 := layNew_perm t es (hashStr w k) (.str k tk)
    rw [Array.toList_push] at pm0
    have pm := pm0.trans (List.perm_append_singleton (hashStr w k, Value.str k tk) es.toList)
    have r1 : Rows w (layNew t es (hashStr w k) (.str k tk)).1 (layNew t es (hashStr w k) (.str k tk)).2.1 (ins k ks) := by
      have sz : (layNew t es (hashStr w k) (.str k tk)).1.size = ks.length + 1 := by
        have q := pm.length_eq
        rw [Array.length_toList, List.length_cons, Array.length_toList, r.size] at q
        exact q
      refine ⟨fun e he => ?_, ?_, ins_nodup r.nd, Nat.lt_of_le_of_lt (Nat.le_of_eq sz) room, layNew_fits _ _ _ _, layNew_ris _ _ _ _ r.ris, r.led.imp (fun z => z) fun z => (layNew_led _ _ _ _).trans z⟩
      · rcases List.mem_cons.mp (pm.mem_iff.mp he) with z | z
        · exact ⟨k, tk, z⟩
        · exact r.ent e z
      · unfold ins
        rw [if_neg away]
        exact (pm.map tx).trans (List.Perm.cons k r.perm)
    have gw : ∀ (b : Bool) (z : Shared) (Y : Unit → Shared → Prop), Y () z → wpAny (model P w) A (match b with | true => rule "set.scan.the-table-gave-way" | false => pure ()) Y E z := by
      intro b z Y q
      cases b with
      | true => exact wpAny_rule q
      | false => exact wpAny_pure q
    have goal2 : ∀ h', Heap.SameBut a s.heap h' → SetS w h' a (ins k ks) → Z true { s with heap := h' } := fun h' sb r' => hZ true h' sb r'
    dsimp only
    change wpAny _ _ _ _ _ _
    generalize layNew t es (hashStr w k) (.str k tk) = L at r1 ⊢
    obtain ⟨es1, t1, dummy, gave⟩ := L
    dsimp only at r1 ⊢
    refine wpAny_bind (gw _ _ _ ?_)
    by_cases pl : t1.plain = true
    · rw [if_pos pl]
      refine wpAny_bind ?_
      rw [hashByValue_scannable 8 (show (Value.str k tk).scannable = true from rfl)]
      refine wpAny_pure ?_
      refine stored gw ho hx hd (ks := ins k ks) ?_ fun h' sb r' => wpAny_pure (goal2 h' sb r')
      split
      · exact r1
      · exact plain_off r1
    · rw [if_neg pl]
      refine wpAny_bind (wpAny_pure ?_)
      simp only [↓reduceIte]
      exact stored gw ho hx hd (ks := ins k ks) r1 fun h' sb r' => wpAny_pure (goal2 h' sb r')
end
/-- the texts of the first i are put in, one by one -/
def insAll (ks : List Str) : List Str → List Str
  | [] => ks
  | x :: r => insAll (ins x ks) r
theorem insAll_mem {j : Str} : ∀ (xs ks : List Str), j ∈ insAll ks xs ↔ j ∈ xs ∨ j ∈ ks
  | [], ks => by simp [insAll]
  | x :: r, ks => by
    rw [insAll, insAll_mem r, ins_mem, List.mem_cons]
    constructor
    · rintro (h | h | h)
      · exact .inl (.inr h)
      · exact .inl (.inl h)
      · exact .inr h
    · rintro ((h | h) | h)
      · exact .inr (.inl h)
      · exact .inl h
      · exact .inr (.inr h)
theorem insAll_len : ∀ (xs ks : List Str), (insAll ks xs).length ≤ ks.length + xs.length
  | [], ks => Nat.le_refl _
  | x :: r, ks => by
    have h1 := insAll_len r (ins x ks)
    have h2 := ins_len (k := x) (ks := ks)
    rw [insAll, List.length_cons]
    omega
section
variable {P : Program} {w : World} {A : Around} {E : Value → Shared → Prop} {s : Shared}
/-- set.update's own loop over a walk that yields texts -/
theorem feed_loop {I : Addr} {fp wr : List Addr} {G : Array GenState → Array GenState → Prop} {n : Nat} {Y : Nat → Value → Prop} {St : Nat → Shared → Prop} {Z : Result → Shared → Prop}
    (W : WalksS P w A.in1 I fp wr G n Y St) (S : Addr) (out : S ∉ fp) (texts : List Str) (hn : texts.length = n) (hb : n + 1 < scanBound) (hY : ∀ i v, Y i v → ∃ k tk, texts[i]? = some k ∧ v = .str k tk) :
    ∀ (left : Nat) (i : Nat) (ks : List Str) (s : Shared), i + left = n → St i s → SetS w s.heap S ks → ks.length ≤ i →
      (∀ s', Moved (S :: wr) G s s' → SetS w s'.heap S (insAll ks (texts.drop i)) → Z (.ok (.ret .none)) s') → codeAny (model P w) A (.builtin "set.update.loop" ⟨[.ref S, .ref I], []⟩) Z s := by
  have quietS : S ∉ wr := fun z => out (W.sub _ z)
  have more : ∀ b ∈ wr, b ∈ S :: wr := fun b hb => List.mem_cons_of_mem _ hb
  intro left
  induction left with
  | zero =>
    intro i ks s hi hst hS _ hZ
    have e0 : texts.drop i = [] := List.drop_eq_nil_of_le (by omega)
    rw [e0] at hZ
    have e1 : i = n := by omega
    rw [e1] at hst
    refine codeAny_builtin F.entry_set_update_loop ?_
    rw [Around.under_plainId F.plain_set_update_loop _]
    show wpAny _ A.in1 (pyNext (.ref I) >>= _) _ _ s
    refine wpAny_bind (W.done s _ _ hst fun s' mv => wpAny_pure (hZ s' (mv.mono more) (hS.stay fun o e => mv.heap S o quietS e)))
  | succ left ih =>
    intro i ks s hi hst hS hk hZ
    have lt : i < n := by omega
    refine codeAny_builtin F.entry_set_update_loop ?_
    rw [Around.under_plainId F.plain_set_update_loop _]
    show wpAny _ A.in1 (pyNext (.ref I) >>= _) _ _ s
    refine wpAny_bind (W.item i s _ _ lt hst fun v s1 hv hst1 mv => ?_)
    obtain ⟨k, tk, hk1, rfl⟩ := hY i v hv
    have hS1 : SetS w s1.heap S ks := hS.stay fun o e => mv.heap S o quietS e
    have ed : texts.drop i = k :: texts.drop (i + 1) := by
      obtain ⟨lt2, e2⟩ := List.getElem?_eq_some_iff.mp hk1
      rw [← e2]
      exact List.drop_eq_getElem_cons lt2
    rw [ed] at hZ
    show wpAny _ A.in1 (holding [Value.str k tk] (setAdd S (.str k tk)) >>= _) _ _ s1
    unfold setAdd
    refine wpAny_bind (wpAny_holding (wpAny_holding (wpAny_bind ((PySem.strKind P w).pyHash (k := k) (strKind_is P w k tk) ?_))))
    refine add_at (s := { s1 with toks := s1.toks + 1 }) hS1 (by omega) fun b h' sb hS2 => ?_
    refine wpAny_pure ⟨plainId_quiet F.plain_set_update_loop _, ih (i + 1) (ins k ks) _ (by omega) (W.frame _ s1 _ _ hst1 (Nat.le_succ _) fun c hc o e => ?_) hS2 ?_ fun s2 mv2 hS3 => ?_⟩
    · have away : c ≠ S := fun z => out (z ▸ hc)
      rw [sb.2 c away]
      exact e
    · have := ins_len (k := k) (ks := ks)
      omega
    · refine hZ s2 (Moved.trans W.gtrans ((mv.mono more).then_heap (Nat.le_succ _) fun c o hc e => ?_) mv2) hS3
      have away : c ≠ S := fun z => hc (z ▸ List.mem_cons_self)
      rw [sb.2 c away]
      exact e
/-- the empty set, as it is made -/
abbrev bare (w : World) : Obj := { cls := .type "set", dict := none, data := .set #[] 0 (.fresh 0 0 (!w.params.followText "set-order")) }
theorem bare_holds {h : Heap} {a : Addr} (ho : h.get? a = some (bare w)) : SetS w h a [] := ⟨_, _, _, _, ho, ⟨rfl, rfl, rfl⟩, rfl, rows_new w⟩
set_option maxHeartbeats 8000000 in
theorem set_of_list {l : Addr} {items : Array Value} (texts : List Str) {Z : Value → Shared → Prop} (hh : A.handled = none) (hl : s.heap.IsList l items) (ht : StrsAre items.toList texts) (hb : texts.length + 1 < scanBound)
    (hZ : ∀ (h' : Heap) (tk : Nat), SetS w h' s.heap.objs.size (insAll [] texts) → (∀ b o, s.heap.get? b = some o → h'.get? b = some o) → Z (.ref s.heap.objs.size) { s with heap := h', toks := tk }) :
    wpAny (model P w) A (call (.type "set") [.ref l]) Z E s := by
  have count : texts.length = items.size := by
    have q := StrsAre.len_eq ht
    rw [Array.length_toList] at q
    exact q.symm
  obtain ⟨c, tl, hmro⟩ := F.called_set.mro
  have made := F.called_set.made
  have sub := F.called_set.sub
  have noType := F.called_set.notType
  have can := F.called_set.canCreate
  have tcall := F.typeCall_set_1 (.ref l)
  refine wpAny_call (codeAny_of_tree ?_)
  show wpAny _ _ (callAny (.type "set") _) _ _ _
  refine wpAny_pure ⟨Code.quiet_builtin _ (by decide +kernel), codeAny_builtin F.entry_type_call ?_⟩
  rw [Around.under_plain (weight_type_call_type "set" [.ref l] []) rfl]
  repeat (any_goals (first | assumption | wp_step))
  refine codeAny_mono (code_set_led1 (.ref l) (E := E) (Q₁ := fun v z => v = .ref s.heap.objs.size ∧ z = { s with heap := s.heap.push (bare w) }) ⟨rfl, rfl⟩) fun r z hr => ?_
  match r, hr with
  | .error _, hr => exact hr
  | .ok .next, hr => exact hr.elim
  | .ok .brk, hr => exact hr.elim
  | .ok .cont, hr => exact hr.elim
  | .ok (.ret _), hr =>
    obtain ⟨rfl, rfl⟩ := hr
    have hS : (s.heap.push (bare w)).get? s.heap.objs.size = some (bare w) := Heap.get?_push_size _ rfl
    have isSet : Shared.TypeIs { s with heap := s.heap.push (bare w) } (.ref s.heap.objs.size) "set" := ⟨_, hS, rfl⟩
    have initL := F.called_set.init.lookup
    have initB := F.called_set.init.bind (.ref s.heap.objs.size)
    repeat (any_goals (first | assumption | wp_step))
    refine codeAny_mono (codeAny_call_builtin (R := wants (fun v z => v = .none ∧ ∃ h' tk, z = { s with heap := h', toks := tk } ∧ SetS w h' s.heap.objs.size (insAll [] texts) ∧ ∀ b o, s.heap.get? b = some o → h'.get? b = some o) E)
      F.called_set.init.plain F.entry_set_init (check_set_init_1 isSet ?_)) fun r z hr => ?_
    · have hl1 : (s.heap.push (bare w)).IsList l items := hl.push _
      obtain ⟨⟨_, dd, _, sl⟩, hol, rfl, nl, rfl⟩ := id hl
      have hol1 : (s.heap.push (bare w)).get? l = some ⟨.type "list", dd, .seq items nl, sl⟩ := Heap.get?_push_of_some _ hol
      have sub1 := F.sub_list_set
      have sub2 := F.sub_list_frozenset
      have unlike : (Value.type "list" == Value.type "dict") = false := by decide
      unfold Builtin.«set.__init__» noKeywords Builtin.Frozenset.updateFrom
      generalize hPI : pyIter = PI
      wp_walk
      subst hPI
      refine wpAny_pyIter_list hl1 (wpAny_bind (wpAny_runValue ?_))
      have old : l < s.heap.objs.size := Heap.lt_size hol
      have sz1 : (s.heap.push (bare w)).objs.size = s.heap.objs.size + 1 := Heap.size_push ..
      have apart : l ≠ (s.heap.push (bare w)).objs.size := by
        rw [sz1]
        exact Nat.ne_of_lt (Nat.lt_succ_of_lt old)
      have out : s.heap.objs.size ∉ [(s.heap.push (bare w)).objs.size, l] := by
        intro z
        rcases List.mem_cons.mp z with z | z
        · rw [sz1] at z
          omega
        · exact absurd old (by rw [← List.mem_singleton.mp z]; exact Nat.lt_irrefl _)
      have texty : ∀ (i : Nat) (v : Value), items[i]? = some v → ∃ k tk, texts[i]? = some k ∧ v = .str k tk := fun i v hv => by
        have hi : i < texts.length := by
          rw [count]
          exact (Array.getElem?_eq_some_iff.mp hv).1
        obtain ⟨tk, e⟩ := SS.strs_at ht i v (by rw [Array.getElem?_toList]; exact hv)
        refine ⟨texts[i], tk, List.getElem?_eq_getElem hi, ?_⟩
        rw [e, List.getD_eq_getElem?_getD, List.getElem?_eq_getElem hi]
        rfl
      have hh3 : A.in1.in1.in1.handled = none := by simp [hh]
      refine feed_loop ((Walks.list hh3 _ l apart items).toS) s.heap.objs.size out texts count (by rw [← count]; exact hb) texty items.size 0 [] _ (Nat.zero_add _) ⟨⟨_, Heap.get?_push_size _ rfl, rfl, rfl⟩, hl1.push _⟩
        (bare_holds (Heap.get?_push_of_some _ hS)) (Nat.le_refl _) fun s' mv hS' => ?_
      obtain ⟨h', g', d', tk', os'⟩ := s'
      have eg : g' = s.gens := mv.gens
      have ed : d' = s.drawn := mv.drawn
      have eo : os' = s.os := mv.os
      subst eg ed eo
      show wpAny _ _ _ _ _ _
      refine wpAny_pure ?_
      show wpAny _ _ (ret Value.none) _ _ _
      refine wpAny_pure ⟨rfl, h', tk', rfl, hS', fun b o e => ?_⟩
      have lt := Heap.lt_size e
      refine mv.heap b o (fun z => ?_) (Heap.get?_push_of_some _ (Heap.get?_push_of_some _ e))
      rcases List.mem_cons.mp z with z | z
      · rw [z] at lt
        exact Nat.lt_irrefl _ lt
      · have z2 := List.mem_singleton.mp z
        have lt2 : b < (s.heap.push (bare w)).objs.size := by
          rw [sz1]
          exact Nat.lt_succ_of_lt lt
        rw [z2] at lt2
        exact Nat.lt_irrefl _ lt2
    · match r, hr with
      | .error _, hr => exact hr
      | .ok .next, hr => exact hr.elim
      | .ok .brk, hr => exact hr.elim
      | .ok .cont, hr => exact hr.elim
      | .ok (.ret _), hr =>
        obtain ⟨rfl, h', tk, rfl, hS', keep⟩ := hr
        repeat (any_goals (first | assumption | wp_step))
        exact hZ _ _ hS' keep
/-- the texts of values that are texts -/
theorem texts_of : ∀ (vs : List Value), (∀ v ∈ vs, ∃ k tk, v = Value.str k tk) → ∃ ks, StrsAre vs ks ∧ ks = vs.map fun v => tx (0, v)
  | [], _ => ⟨[], .nil, rfl⟩
  | v :: vs, h => by
    obtain ⟨k, tk, rfl⟩ := h v List.mem_cons_self
    obtain ⟨ks, h1, h2⟩ := texts_of vs fun u hu => h u (List.mem_cons_of_mem _ hu)
    exact ⟨k :: ks, .cons k tk h1, by rw [h2]; rfl⟩
theorem sorted_of_set {a : Addr} {ks : List Str} {Z : Value → Shared → Prop} (R : SetS w s.heap a ks) (hh : A.handled = none) (few : ks.length < 64)
    (hZ : ∀ s' p (out : Array Value) (c : Nat) (ys : List Str), (∀ b o, s.heap.get? b = some o → s'.heap.get? b = some o) → s'.gens = s.gens → s'.os = s.os → s.heap.objs.size ≤ p →
      s'.heap.get? p = some (seqObj "list" out c) → StrsAre out.toList ys → ys.Perm ks → sortedS ys = true → Z (.ref p) s') :
    wpAny (model P w) A (call (.builtin "sorted") [.ref a]) Z E s := by
  obtain ⟨o, es, ep, t, ho, hx, hd, r⟩ := R
  refine Calls.call_function_entry kind_sorted plain_sorted entry_sorted (args_sorted1 _) ?_
  unfold Builtin.«sorted»
  refine wpAny_bind (m := checkCount "sorted" 1 1 _) (wpAny_pure ?_)
  refine wpAny_bind (collect_set (A := A.in1) hh ⟨o, ho, hx.1, hd⟩ r.fit r.few r.ris r.led fun s1 vs keep more g1 o1 pm => ?_)
  obtain ⟨texts, isT, eT⟩ := texts_of vs fun v hv => by
    obtain ⟨e, he, q⟩ := List.mem_map.mp (pm.mem_iff.mp hv)
    obtain ⟨k, tk, ee⟩ := r.ent e he
    exact ⟨k, tk, by rw [← q, ee]⟩
  have pT : texts.Perm ks := by
    refine List.Perm.trans ?_ r.perm
    rw [eT]
    have q := pm.map fun v => tx (0, v)
    rw [List.map_map] at q
    exact q
  have len : vs.length = ks.length := by
    rw [StrsAre.len_eq isT]
    exact pT.length_eq
  have line : vs.length ≤ sizeLine := by
    rw [len, sizeLine_eq]
    omega
  have hL : (s1.heap.push (seqObj "list" vs.toArray 0)).get? s1.heap.objs.size = some (seqObj "list" vs.toArray 0) := Heap.get?_push_size _ rfl
  refine wpAny_bind (wpAny_newList ?_ line)
  refine wpAny_bind (wpAny_holding (wpAny_call_entry slot_list_sort ⟨_, hL, rfl⟩ entry_list_sort (list_sort_treeK strKind_oneLt hL isT.keysOf (fun v₁ v₂ rest e => keyKind_strs (by rw [← e]; exact isT)) (by rw [len]; exact few) fun st hp hs => ?_) (args_list_sort _)))
  obtain ⟨ys, y1, y2, y3⟩ := sorted_out_str isT hp hs
  obtain ⟨c, hc⟩ := sortedHeap_at (vs := vs) (out := (arrOf st).map (·.2)) hL
  refine ⟨_, rfl, wpAny_pure ⟨_, rfl, hZ _ s1.heap.objs.size _ c ys (fun b u e => ?_) g1 o1 more hc y1 (y2.trans pT) y3⟩⟩
  have q := keep b u e
  have lt := Heap.lt_size q
  show (sortedHeap (s1.heap.push (seqObj "list" vs.toArray 0)) s1.heap.objs.size vs _).get? b = some u
  rw [sortedHeap_old (Nat.ne_of_lt lt) (by rw [Heap.size_push]; exact Nat.lt_succ_of_lt lt)]
  exact Heap.get?_push_of_some _ q
end
end Sx
set_option Elab.async false
set_option linter.all false
set_option maxRecDepth 100000
set_option maxHeartbeats 4000000
/-! The rules over sets of texts. -/
namespace Sx
open PySem PySem.Spec PyProof.Rows L2
/-- a set of the texts ks stands at a -/
def SetX (w : World) (a : Addr) (ks : List Str) : HO := .ext fun h => SetS w h a ks
section
variable {X : Cx}
theorem setX_new {w : World} {P : Program} {H : Hp} {h : Heap} {a : Addr} {ks : List Str} (R : SetS w h a ks) : ObjOk P w H h a (SetX w a ks) := by
  have ⟨o, _, _, _, ho, _⟩ := R
  exact ⟨R, ⟨o, ho⟩, fun _ _ r k => SetS.stay r k⟩
theorem setX_get {pins : List (Addr × Obj)} {σ : L2.St} {H : Hp} {s : Shared} {a : Addr} {ks : List Str} (I : Inv X pins σ H s) (e : H a = some (SetX X.w a ks)) : SetS X.w s.heap a ks := (I.hok a _ e).1
/-- set() -/
def rNewX (w : World) : List V → Hp → VK → Prop := fun xs H Q => xs = [] ∧ ∀ p, H p = none → Q (.ref p) (upd H p (SetX w p []))
theorem cr_newX : CallR X (.type "set") (rNewX X.w) := by
  intro pins s σ H xs us Q I r ⟨e, q⟩
  subst e
  cases r
  refine setR_new fun _ => ⟨.ref _, upd H s.heap.objs.size (SetX X.w s.heap.objs.size []), ?_, rfl, q _ (I.hok.fresh (Nat.le_refl _))⟩
  exact I.laid (t' := s.toks) (fun b u e => Heap.get?_push_of_some _ e) (Nat.le_refl _) (setX_new (bare_holds (Heap.get?_push_size _ rfl)))
/-- set(a list of texts) -/
def rOfX (K : PySem.W.Frag) (w : World) : List V → Hp → VK → Prop := fun xs H Q => ∃ (l : Addr) (texts : List Str), xs = [.ref l] ∧ SqL K H l (texts.map V.str) ∧ texts.length + 1 < scanBound ∧
  ∀ p, H p = none → Q (.ref p) (upd H p (SetX w p (insAll [] texts)))
theorem cr_ofX (hc : X.calm = true) : CallR X (.type "set") (rOfX X.K X.w) := by
  intro pins s σ H xs us Q I r ⟨l, texts, e, hq, few, q⟩
  subst e
  rw [Vals.ref1 r]
  obtain ⟨its, rv, pl, _⟩ := I.list hq
  refine set_of_list texts (I.ok.hd hc) pl.isList (by simpa using strsAre_of rv) few fun h' tk hS keep => ?_
  exact ⟨.ref _, upd H s.heap.objs.size (SetX X.w s.heap.objs.size (insAll [] texts)), I.laid (t' := tk) keep (Nat.le_refl _) (setX_new hS), rfl, q _ (I.hok.fresh (Nat.le_refl _))⟩
/-- found.add(text) -/
def rAddX (w : World) : V → List V → Hp → VK → Prop := fun x xs H Q => ∃ (a : Addr) (k : Str) (ks : List Str), x = V.ref a ∧ xs = [V.str k] ∧ H a = some (SetX w a ks) ∧ ks.length + 1 < scanBound ∧ Q .non (upd H a (SetX w a (ins k ks)))
theorem mt_addX : MtR X "set.add" (rAddX X.w) := by
  intro pins s σ H x xs v us Q I rx rxs ⟨a, k, ks, e1, e2, ha, room, q⟩
  subst e1 e2
  cases rx
  obtain ⟨u, rfl, tk, rfl⟩ := vals1 rxs
  have R := setX_get I ha
  refine wpAny_call_entry F.slot_set_add (R.of (P := X.prog)).typeIs F.entry_set_add ?_ (F.args_set_add_2 _ _)
  unfold Builtin.«set.add» Builtin.Frozenset.oneOther
  simp only [List.isEmpty_nil, bind_assoc]
  unfold Builtin.Frozenset.addrOf setAdd
  refine wpAny_bind (wpAny_pure ?_)
  try dsimp only
  refine wpAny_bind (wpAny_pure ?_)
  try dsimp only
  refine wpAny_bind (wpAny_holding (wpAny_bind ((PySem.strKind X.prog X.w).pyHash (strKind_is X.prog X.w k tk) ?_)))
  refine add_at (s := { s with toks := s.toks + 1 }) R room fun b h' sb new => ?_
  show wpAny _ _ (ret Value.none) _ _ _
  have there : ∃ u, h'.get? a = some u := by
    obtain ⟨o, _, _, _, ho, _⟩ := new
    exact ⟨o, ho⟩
  exact wpAny_pure ⟨_, rfl, .non, upd H a (SetX X.w a (ins k ks)), I.write (e := a) (t' := s.toks + 1) (by rw [ha]; trivial) (.inl rfl) (fun c u hc hu => (sb.2 c hc).trans hu) there (setX_new new), rfl, q⟩
def tAddX (w : World) (to : TE) (t : TA) : TE := fun σ H Q => to σ H fun x H1 => (∃ a ks, x = V.ref a ∧ H1 a = some (SetX w a ks)) ∧ t σ H1 fun xs H2 => rAddX w x xs H2 Q
theorem pe_addX {o e : Expr} {to : TE} {t : TA} {apos cpos : Pos} (ho : PE X o to) (ha : PA X [e] t)
    (h1 : attributeBase o "add" X.env (eval o X.env) = eval o X.env := by rfl)
    (h2 : ((backTo cpos (starEach [e] X.env)).all (fun x => !x.1) && (backToKw cpos (keywordEach [] X.env)).all (fun x => x.1.isSome) && decide ([e].length + ([] : List Keyword).length + (if ([] : List Keyword).isEmpty then 0 else 1) < 30)) = true := by rfl)
    (h3 : (apos.endLine == cpos.line) = true := by rfl) (h4 : starEach [e] X.env = (false, eval e X.env) :: starEach [] X.env := by rfl) (h5 : (backTo cpos (starEach [] X.env)).any (·.1) = false := by rfl) :
    PE X (.Call (.Attribute o "add" apos) [e] [] cpos) (tAddX X.w to t) := by
  refine ⟨fun pins s σ H Q I h => wpAny_Call_method_late h1 h2 h3 rfl (thn (ho.run pins s σ H _ I h) fun v s1 ⟨x, H1, I1, r1, ⟨a, ks, ex, hka⟩, q1⟩ => ?_)⟩
  subst ex
  cases r1
  have R := (setX_get I1 hka).of (P := X.prog)
  have run := ha.run cpos pins s1 σ H1 _ I1 q1
  refine ⟨"set", "set.add", F.plainAttrs_set, F.slot_set_add, F.type_set_add, R.typeIs, R.noDict, ?_⟩
  rw [h4] at run ⊢
  refine Calls.callWith_builtin (by show (false || (backTo cpos (starEach [] X.env)).any (·.1)) = false; rw [h5]; rfl) (Calls.evalArgs_plain (thn run fun us s2 ⟨vs, H2, I2, r2, q2⟩ => ?_))
  exact mt_addX pins s2 σ H2 (.ref a) vs (.ref a) us Q I2 rfl r2 q2
/-- sorted(a set of texts) -/
def rSortX (w : World) : List V → Hp → VK → Prop := fun vs H Q => ∃ (a : Addr) (ks : List Str), vs = [V.ref a] ∧ H a = some (SetX w a ks) ∧ ks.length < 64 ∧
  ∀ (ys : List Str) (p : Addr), ys.Perm ks → ys.Nodup → sortedS ys = true → H p = none → Q (.ref p) (upd H p (.lst (ys.map V.str)))
theorem cr_sortX (hc : X.calm = true) : CallR X (.builtin "sorted") (rSortX X.w) := by
  intro pins s σ H vs us Q I r ⟨a, ks, e, ha, few, q⟩
  subst e
  rw [Vals.ref1 r]
  have R := setX_get I ha
  have nd : ks.Nodup := by
    obtain ⟨_, _, _, _, _, _, _, rows⟩ := R
    exact rows.nd
  refine sorted_of_set R (I.ok.hd hc) few fun s' p out c ys keep g1 o1 old hp y1 y2 y3 => ?_
  have line : (ys.map V.str).length ≤ sizeLine := by
    rw [List.length_map, y2.length_eq]
    exact small64 few
  have free : H p = none := I.hok.fresh old
  have J : Inv X pins σ (upd H p (.lst (ys.map V.str))) { s with heap := s'.heap, gens := s'.gens, drawn := s'.drawn, toks := s'.toks } :=
    I.call (ch := []) (Un.laid keep old free) (I.hok.laid keep old ⟨line, out.toList, c, vals_of_strs y1, hp⟩) (by rw [g1]; exact I.bare) (fun _ z => nomatch z)
  have back : s' = { s with heap := s'.heap, gens := s'.gens, drawn := s'.drawn, toks := s'.toks } := by
    cases s'
    cases s
    cases o1
    rfl
  rw [back]
  exact ⟨.ref p, _, J, rfl, q ys p y2 (y2.nodup_iff.mpr nd) y3 free⟩
end
end Sx
set_option Elab.async false
set_option linter.all false
set_option maxRecDepth 100000
set_option maxHeartbeats 4000000
/-! Trees, heaps: what the defs of these laws share. -/
namespace Kf
open PySem PySem.Spec PyProof.Rows L2 Sx
/-! ### lists, pair by pair -/
inductive All2 {α β : Type} (F : α → β → Prop) : List α → List β → Prop
  | nil : All2 F [] []
  | cons {a : α} {b : β} {l : List α} {m : List β} : F a b → All2 F l m → All2 F (a :: l) (b :: m)
section
variable {α β : Type} {F G : α → β → Prop}
theorem All2.len : ∀ {l : List α} {m : List β}, All2 F l m → l.length = m.length
  | _, _, .nil => rfl
  | _, _, .cons _ t => congrArg Nat.succ t.len
theorem All2.app : ∀ {l l2 : List α} {m m2 : List β}, All2 F l m → All2 F l2 m2 → All2 F (l ++ l2) (m ++ m2)
  | _, _, _, _, .nil, h => h
  | _, _, _, _, .cons r t, h => .cons r (t.app h)
theorem All2.mono (f : ∀ a b, F a b → G a b) : ∀ {l : List α} {m : List β}, All2 F l m → All2 G l m
  | _, _, .nil => .nil
  | _, _, .cons r t => .cons (f _ _ r) (t.mono f)
theorem All2.one {a : α} {b : β} (h : F a b) : All2 F [a] [b] := .cons h .nil
theorem All2.rev : ∀ {l : List α} {m : List β}, All2 F l m → All2 F l.reverse m.reverse
  | _, _, .nil => .nil
  | _, _, .cons r t => by
    rw [List.reverse_cons, List.reverse_cons]
    exact t.rev.app (.one r)
theorem All2.last {l : List α} {m : List β} {y : β} (h : All2 F l (m ++ [y])) : ∃ k x, l = k ++ [x] ∧ All2 F k m ∧ F x y := by
  have q := h.rev
  rw [List.reverse_append, List.reverse_singleton, List.singleton_append] at q
  generalize hr : l.reverse = r at q
  cases q with
  | @cons x _ k _ r t =>
    have t2 := t.rev
    rw [List.reverse_reverse] at t2
    refine ⟨k.reverse, x, ?_, t2, r⟩
    have e := congrArg List.reverse hr
    rw [List.reverse_reverse, List.reverse_cons] at e
    exact e
theorem All2.get : ∀ {l : List α} {m : List β} {i : Nat} {y : β}, All2 F l m → m[i]? = some y → ∃ x, l[i]? = some x ∧ F x y
  | _, _, _, _, .nil, h => by simp at h
  | _, _, 0, _, .cons r _, h => ⟨_, rfl, (Option.some.inj h) ▸ r⟩
  | _, _, i + 1, _, .cons _ t, h => t.get (i := i) (by simpa using h)
end
/-! ### heaps -/
/-- all but what stands at f is as it was -/
def But (f : Addr) (H H' : Hp) : Prop := ∀ b o, b ≠ f → H b = some o → H' b = some o
/-- all tuples stand -/
def Tups (H H' : Hp) : Prop := ∀ b xs, H b = some (.tup xs) → H' b = some (.tup xs)
section
variable {f : Addr} {H H1 H2 : Hp} {p : Addr} {o : HO}
theorem But.refl (f : Addr) (H : Hp) : But f H H := fun _ _ _ e => e
theorem But.trans (a : But f H H1) (b : But f H1 H2) : But f H H2 := fun c u n e => b c u n (a c u n e)
theorem but_same (a : Same H H1) : But f H H1 := fun c u _ e => a c u e
theorem But.new (a : But f H H1) (h : H1 p = none) : But f H (upd H1 p o) := fun c u n e => by
  have q := a c u n e
  rw [upd_ne (ne_of_none q h)]
  exact q
theorem But.own (a : But f H H1) : But f H (upd H1 f o) := fun c u n e => by
  rw [upd_ne n]
  exact a c u n e
theorem same_new (h : H p = none) : Same H (upd H p o) := fun b u q => by
  rw [upd_ne (ne_of_none q h)]
  exact q
theorem same_put (s : Same H H1) (h : H1 p = none) : Same H (upd H1 p o) := fun b u q => by
  rw [upd_ne (ne_of_none (s b u q) h)]
  exact s b u q
theorem Tups.refl (H : Hp) : Tups H H := fun _ _ e => e
theorem Tups.trans (a : Tups H H1) (b : Tups H1 H2) : Tups H H2 := fun c u e => b c u (a c u e)
theorem tups_same (a : Same H H1) : Tups H H1 := fun c u e => a c _ e
theorem But.tups {xs : List V} (a : But f H H1) (h : H f = some (.lst xs)) : Tups H H1 := fun c u e => a c _ (fun z => by
  rw [z, h] at e
  cases e) e
theorem tups_put (h : ∀ xs, H p ≠ some (.tup xs)) : Tups H (upd H p o) := fun c u e => by
  rw [upd_ne (fun z => h u (by rw [← z]; exact e))]
  exact e
end
/-! ### trees -/
inductive Tr where
  | leaf (w : Str) (x : V)
  | n0 (w : Str)
  | n1 (w : Str) (a : Tr)
  | n2 (w : Str) (a b : Tr)
abbrev leafVs : List V := [.str "num", .str "name", .str "bound"]
abbrev bindVs : List V := [.str "all", .str "some"]
def leafy (w : Str) : Bool := inV (.str w) leafVs
def binds (w : Str) : Bool := inV (.str w) bindVs
/-- how many stand around the parts -/
def inner (w : Str) (r : Nat) : Nat := if binds w = true then r + 1 else r
def Tr.word : Tr → Str
  | .leaf w _ => w
  | .n0 w => w
  | .n1 w _ => w
  | .n2 w _ _ => w
def Tr.kids : Tr → List Tr
  | .leaf _ _ => []
  | .n0 _ => []
  | .n1 _ a => [a]
  | .n2 _ a b => [a, b]
/-- the tree t is the value v -/
def At (H : Hp) : Tr → V → Prop
  | .leaf w x, v => ∃ p, v = .ref p ∧ H p = some (.tup [.str w, x])
  | .n0 w, v => ∃ p, v = .ref p ∧ H p = some (.tup [.str w])
  | .n1 w a, v => ∃ p y, v = .ref p ∧ H p = some (.tup [.str w, y]) ∧ At H a y
  | .n2 w a b, v => ∃ p y z, v = .ref p ∧ H p = some (.tup [.str w, y, z]) ∧ At H a y ∧ At H b z
theorem At.keep {H H' : Hp} (k : Tups H H') : ∀ {t : Tr} {v : V}, At H t v → At H' t v
  | .leaf _ _, _, ⟨p, e, h⟩ => ⟨p, e, k _ _ h⟩
  | .n0 _, _, ⟨p, e, h⟩ => ⟨p, e, k _ _ h⟩
  | .n1 _ _, _, ⟨p, y, e, h, a⟩ => ⟨p, y, e, k _ _ h, a.keep k⟩
  | .n2 _ _ _, _, ⟨p, y, z, e, h, a, b⟩ => ⟨p, y, z, e, k _ _ h, a.keep k, b.keep k⟩
/-- leaves by their words -/
def Tr.Ok : Tr → Prop
  | .leaf w x => leafy w = true ∧ ((∃ i, x = .int i) ∧ w ≠ "name" ∨ (∃ z, x = .str z) ∧ w = "name")
  | .n0 w => leafy w = false
  | .n1 w a => leafy w = false ∧ a.Ok
  | .n2 w a b => leafy w = false ∧ a.Ok ∧ b.Ok
/-- how far within one another -/
def Tr.deep : Tr → Nat
  | .leaf _ _ => 1
  | .n0 _ => 1
  | .n1 _ a => a.deep + 1
  | .n2 _ a b => max a.deep b.deep + 1
def Tr.size : Tr → Nat
  | .leaf _ _ => 1
  | .n0 _ => 1
  | .n1 _ a => a.size + 1
  | .n2 _ a b => a.size + b.size + 1
theorem size_deep : ∀ t : Tr, t.size + 1 ≤ 2 ^ t.deep
  | .leaf _ _ => Nat.le_refl _
  | .n0 _ => Nat.le_refl _
  | .n1 _ a => by
    have h := size_deep a
    have p : 2 ^ (a.deep + 1) = 2 ^ a.deep * 2 := Nat.pow_succ _ _
    show a.size + 1 + 1 ≤ 2 ^ (a.deep + 1)
    omega
  | .n2 _ a b => by
    have h := size_deep a
    have h2 := size_deep b
    have p : 2 ^ (max a.deep b.deep + 1) = 2 ^ (max a.deep b.deep) * 2 := Nat.pow_succ _ _
    have q1 : 2 ^ a.deep ≤ 2 ^ (max a.deep b.deep) := Nat.pow_le_pow_right (by decide) (Nat.le_max_left _ _)
    have q2 : 2 ^ b.deep ≤ 2 ^ (max a.deep b.deep) := Nat.pow_le_pow_right (by decide) (Nat.le_max_right _ _)
    show a.size + b.size + 1 + 1 ≤ 2 ^ (max a.deep b.deep + 1)
    omega
def Tr.names : Tr → List Str
  | .leaf w x => if w = "name" then (match x with | .str z => [z] | _ => []) else []
  | .n0 _ => []
  | .n1 _ a => a.names
  | .n2 _ a b => a.names ++ b.names
theorem names_size : ∀ t : Tr, t.names.length ≤ t.size
  | .leaf w x => by
    show (if w = "name" then (match x with | .str z => [z] | _ => []) else ([] : List Str)).length ≤ 1
    split
    · cases x <;> simp
    · simp
  | .n0 _ => Nat.zero_le _
  | .n1 _ a => Nat.le_succ_of_le (names_size a)
  | .n2 _ a b => by
    have h1 := names_size a
    have h2 := names_size b
    show (a.names ++ b.names).length ≤ a.size + b.size + 1
    rw [List.length_append]
    omega
/-! ### the pieces, parts ahead of the whole, from the left; each with how many all and some stand around it -/
def Tr.post : Tr → Nat → List (Tr × Nat)
  | .leaf w x, r => [(.leaf w x, r)]
  | .n0 w, r => [(.n0 w, r)]
  | .n1 w a, r => a.post (inner w r) ++ [(.n1 w a, r)]
  | .n2 w a b, r => a.post (inner w r) ++ b.post (inner w r) ++ [(.n2 w a b, r)]
theorem post_len : ∀ (t : Tr) (r : Nat), (t.post r).length = t.size
  | .leaf _ _, _ => rfl
  | .n0 _, _ => rfl
  | .n1 w a, r => by
    show (a.post _ ++ [_]).length = a.size + 1
    rw [List.length_append, post_len a]
    rfl
  | .n2 w a b, r => by
    show (a.post _ ++ b.post _ ++ [_]).length = a.size + b.size + 1
    rw [List.length_append, List.length_append, post_len a, post_len b]
    rfl
theorem post_kids (t : Tr) (r : Nat) : t.post r = (t.kids.flatMap fun a => a.post (inner t.word r)) ++ [(t, r)] := by
  cases t with
  | leaf w x => rfl
  | n0 w => rfl
  | n1 w a => simp [Tr.post, Tr.kids, Tr.word]
  | n2 w a b => simp [Tr.post, Tr.kids, Tr.word]
/-- what a whole list of pieces has for names -/
def leafName : Tr → List Str
  | .leaf w x => Tr.names (.leaf w x)
  | _ => []
theorem post_names : ∀ (t : Tr) (r : Nat), ((t.post r).flatMap fun (e : Tr × Nat) => leafName e.1) = t.names
  | .leaf w x, r => by simp [Tr.post, leafName]
  | .n0 w, r => by simp [Tr.post, leafName, Tr.names]
  | .n1 w a, r => by
    show ((a.post _ ++ [_]).flatMap fun (e : Tr × Nat) => leafName e.1) = a.names
    rw [List.flatMap_append, post_names a]
    simp [leafName]
  | .n2 w a b, r => by
    show ((a.post _ ++ b.post _ ++ [_]).flatMap fun (e : Tr × Nat) => leafName e.1) = a.names ++ b.names
    rw [List.flatMap_append, List.flatMap_append, post_names a, post_names b]
    simp [leafName]
theorem post_ok : ∀ (t : Tr) (r : Nat), t.Ok → ∀ e ∈ t.post r, e.1.Ok
  | .leaf w x, r, h, e, he => by
    rw [List.mem_singleton.mp he]
    exact h
  | .n0 w, r, h, e, he => by
    rw [List.mem_singleton.mp he]
    exact h
  | .n1 w a, r, h, e, he => by
    rcases List.mem_append.mp he with z | z
    · exact post_ok a _ h.2 e z
    · rw [List.mem_singleton.mp z]
      exact h
  | .n2 w a b, r, h, e, he => by
    rcases List.mem_append.mp he with z | z
    · rcases List.mem_append.mp z with z | z
      · exact post_ok a _ h.2.1 e z
      · exact post_ok b _ h.2.2 e z
    · rw [List.mem_singleton.mp z]
      exact h
theorem no_leaf {w : Str} (h : leafy w = false) (z : leafy w = true) : False := by
  rw [h] at z
  cases z
/-- a tree's own tuple -/
theorem At.view {H : Hp} {t : Tr} {v : V} (h : At H t v) (ok : t.Ok) : ∃ p vs, v = .ref p ∧ H p = some (.tup (.str t.word :: vs)) ∧ vs.length ≤ 2 ∧ (leafy t.word = false → All2 (At H) t.kids vs) ∧ (leafy t.word = true → ∃ x, t = .leaf t.word x ∧ vs = [x]) := by
  cases t with
  | leaf w x =>
    obtain ⟨p, e, h⟩ := h
    exact ⟨p, [x], e, h, Nat.le_succ 1, fun z => (no_leaf z ok.1).elim, fun _ => ⟨x, rfl, rfl⟩⟩
  | n0 w =>
    obtain ⟨p, e, h⟩ := h
    exact ⟨p, [], e, h, Nat.zero_le 2, fun _ => .nil, fun z => (no_leaf ok z).elim⟩
  | n1 w a =>
    obtain ⟨p, y, e, h, ha⟩ := h
    exact ⟨p, [y], e, h, Nat.le_succ 1, fun _ => .one ha, fun z => (no_leaf ok.1 z).elim⟩
  | n2 w a b =>
    obtain ⟨p, y, z, e, h, ha, hb⟩ := h
    exact ⟨p, [y, z], e, h, Nat.le_refl 2, fun _ => .cons ha (.one hb), fun q => (no_leaf ok.1 q).elim⟩
theorem kids_ok {t : Tr} (ok : t.Ok) : ∀ a ∈ t.kids, a.Ok := by
  cases t with
  | leaf w x => intro a h; cases h
  | n0 w => intro a h; cases h
  | n1 w a =>
    intro c h
    rw [List.mem_singleton.mp h]
    exact ok.2
  | n2 w a b =>
    intro c h
    rcases List.mem_cons.mp h with z | z
    · rw [z]
      exact ok.2.1
    · rw [List.mem_singleton.mp z]
      exact ok.2.2
/-! ### sorted lists of texts -/
theorem nodup_le : ∀ (ks ms : List Str), ks.Nodup → (∀ k ∈ ks, k ∈ ms) → ks.length ≤ ms.length
  | [], _, _, _ => Nat.zero_le _
  | k :: r, ms, nd, h => by
    obtain ⟨n1, n2⟩ := List.nodup_cons.mp nd
    have hk : k ∈ ms := h k List.mem_cons_self
    have q := nodup_le r (ms.erase k) n2 fun j hj => (List.mem_erase_of_ne (fun z : j = k => n1 (z ▸ hj))).mpr (h j (List.mem_cons_of_mem _ hj))
    rw [List.length_erase_of_mem hk] at q
    have pos : 0 < ms.length := List.length_pos_of_mem hk
    rw [List.length_cons]
    omega
def Le (a b : Str) : Prop := ltCps b.cps.toList a.cps.toList = false
theorem rising_pairs : ∀ (p : Str) (l : List Str), risingS p l = true → (∀ (a b c : Str), Le a b → Le b c → Le a c) → (p :: l).Pairwise Le
  | p, [], _, _ => List.pairwise_singleton _ _
  | p, x :: r, h, tr => by
    have h' : (!ltCps x.cps.toList p.cps.toList && risingS x r) = true := h
    rw [Bool.and_eq_true] at h'
    have q := rising_pairs x r h'.2 tr
    have px : Le p x := by
      unfold Le
      simpa using h'.1
    refine List.pairwise_cons.mpr ⟨fun y hy => ?_, q⟩
    rcases List.mem_cons.mp hy with z | z
    · rw [z]
      exact px
    · exact tr _ _ _ px (List.rel_of_pairwise_cons q z)
theorem le_iff (a b : Str) : Le a b ↔ a.cps.toList ≤ b.cps.toList := by
  unfold Le
  rw [ltCps_eq]
  simp
theorem le_trans3 (a b c : Str) (h1 : Le a b) (h2 : Le b c) : Le a c := by
  rw [le_iff] at *
  exact List.le_trans h1 h2
theorem le_anti (a b : Str) (h1 : Le a b) (h2 : Le b a) : a = b := by
  rw [le_iff] at *
  have q := List.le_antisymm h1 h2
  cases a with
  | mk x =>
    cases b with
    | mk y =>
      have q' : x.toList = y.toList := q
      rw [Array.toList_inj.mp q']
theorem one_order : ∀ (l m : List Str), l.Pairwise Le → m.Pairwise Le → l.Nodup → m.Nodup → (∀ x, x ∈ l ↔ x ∈ m) → l = m
  | [], [], _, _, _, _, _ => rfl
  | [], y :: m, _, _, _, _, h => by
    have := (h y).2 List.mem_cons_self
    cases this
  | x :: l, [], _, _, _, _, h => by
    have := (h x).1 List.mem_cons_self
    cases this
  | x :: l, y :: m, pl, pm, nl, nm, h => by
    obtain ⟨l1, l2⟩ := List.pairwise_cons.mp pl
    obtain ⟨m1, m2⟩ := List.pairwise_cons.mp pm
    obtain ⟨k1, k2⟩ := List.nodup_cons.mp nl
    obtain ⟨j1, j2⟩ := List.nodup_cons.mp nm
    have exy : x = y := by
      rcases List.mem_cons.mp ((h x).1 List.mem_cons_self) with z | z
      · exact z
      · rcases List.mem_cons.mp ((h y).2 List.mem_cons_self) with q | q
        · exact q.symm
        · exact le_anti _ _ (l1 y q) (m1 x z)
    subst exy
    rw [one_order l m l2 m2 k2 j2 fun z => ?_]
    constructor
    · intro hz
      rcases List.mem_cons.mp ((h z).1 (List.mem_cons_of_mem _ hz)) with e | e
      · exact absurd (e ▸ hz) k1
      · exact e
    · intro hz
      rcases List.mem_cons.mp ((h z).2 (List.mem_cons_of_mem _ hz)) with e | e
      · exact absurd (e ▸ hz) j1
      · exact e
theorem sorted_pairs : ∀ l : List Str, sortedS l = true → l.Pairwise Le
  | [], _ => List.Pairwise.nil
  | x :: r, h => rising_pairs x r h le_trans3
end Kf
set_option Elab.async false
set_option linter.all false
/-! What the drawn programs' texts hold that the judge's texts want, where no programs are drawn. -/
namespace Kf
open PySem PySem.Spec PyProof.Rows L2 Sx
theorem all2_get' {α β : Type} {F : α → β → Prop} : ∀ {xs : List α} {ys : List β} {i : Nat} {y : β}, All2 F xs ys → ys[i]? = some y → ∃ x, xs[i]? = some x ∧ F x y
  | _, _, 0, _, .cons r _, h => by cases h; exact ⟨_, rfl, r⟩
  | _, _, i + 1, _, .cons _ t, h => all2_get' (i := i) t h
theorem join2 {C G : V → Hp → Prop} {M : Prop} (main : (∀ v H, C v H → G v H) → M) (rest : ∀ v H, C v H → G v H) : M := main rest
end Kf
set_option Elab.async false
set_option linter.all false
set_option maxRecDepth 100000
set_option maxHeartbeats 4000000
set_option pp.maxSteps 800
/-! Data of any form, how great they are; tuples that stand whatever is done to lists; small ways through a body. -/
namespace Kf
open PySem PySem.Spec PyProof.Rows L2 Sx
section
variable {K : PySem.W.Frag} {H H' : Hp}
theorem sqL_up {a : Addr} {xs : List V} (b : Same H H') (h : SqL K H a xs) : SqL K H' a xs := by
  rcases h with (h | ⟨o, h⟩) | h
  · exact .inl (.inl (b _ _ h))
  · exact .inl (.inr ⟨o, b _ _ h⟩)
  · exact .inr h
theorem sqT_up {a : Addr} {xs : List V} (b : Same H H') (h : SqT K H a xs) : SqT K H' a xs := by
  rcases h with (h | ⟨o, h⟩) | h
  · exact .inl (.inl (b _ _ h))
  · exact .inl (.inr ⟨o, b _ _ h⟩)
  · exact .inr h
mutual
theorem dp_up (s : Same H H') : ∀ (d : PyData) (v : V), Dp K H v d → Dp K H' v d
  | .none, _, h => by cases h; exact .non
  | .bool b, _, h => by cases h; exact .bl b
  | .int b, _, h => by cases h; exact .int b
  | .str b, _, h => by cases h; exact .str b
  | .list ds, _, h => by
    cases h with
    | lst h a => exact .lst (sqL_up s h) (dps_up s ds _ a)
  | .tuple ds, _, h => by
    cases h with
    | tup h a => exact .tup (sqT_up s h) (dps_up s ds _ a)
  | .dict _, _, h => by cases h
theorem dps_up (s : Same H H') : ∀ (ds : List PyData) (vs : List V), DpAll K H vs ds → DpAll K H' vs ds
  | [], _, h => by cases h; exact .nil
  | d :: ds, _, h => by
    cases h with
    | cons a b => exact .cons (dp_up s d _ a) (dps_up s ds _ b)
end
/-- the name of a thing's type -/
def tyN : PyData → String
  | .none => "NoneType"
  | .bool _ => "bool"
  | .int _ => "int"
  | .str _ => "str"
  | .list _ => "list"
  | .tuple _ => "tuple"
  | .dict _ => "dict"
theorem dp_ty {v : V} {d : PyData} (h : Dp K H v d) : TyX K H v (.type (tyN d)) := by
  cases h with
  | non => exact .base .non
  | bl b => exact .base (.bl b)
  | int i => exact .base (.int i)
  | str z => exact .base (.str z)
  | lst h _ =>
    rcases h with (h | ⟨o, h⟩) | ⟨o, its, n, e, c, _⟩
    · exact .base (.lst h)
    · exact .base (.frz h)
    · exact .kList e c
  | tup h _ =>
    rcases h with (h | ⟨o, h⟩) | ⟨o, its, n, e, c, _⟩
    · exact .base (.tup h)
    · exact .fTuple h
    · exact .kTuple e c
def isI : PyData → Bool
  | .int _ | .bool _ => true
  | _ => false
def isB : PyData → Bool
  | .bool _ => true
  | _ => false
def isS : PyData → Bool
  | .str _ => true
  | _ => false
def isTu : PyData → Bool
  | .tuple _ => true
  | _ => false
theorem kit_i (d : PyData) : PySem.W.kitOne K (.type (tyN d)) (.type "int") = some (isI d) := by
  cases d with
  | none => exact kit_ty (show kitB "NoneType" "int" = some false by decide +kernel)
  | bool _ => exact kit_ty (show kitB "bool" "int" = some true by decide +kernel)
  | int _ => exact kit_ty (show kitB "int" "int" = some true by decide +kernel)
  | str _ => exact kit_ty (show kitB "str" "int" = some false by decide +kernel)
  | list _ => exact kit_ty (show kitB "list" "int" = some false by decide +kernel)
  | tuple _ => exact kit_ty (show kitB "tuple" "int" = some false by decide +kernel)
  | dict _ => exact kit_ty (show kitB "dict" "int" = some false by decide +kernel)
theorem kit_b (d : PyData) : PySem.W.kitOne K (.type (tyN d)) (.type "bool") = some (isB d) := by
  cases d with
  | none => exact kit_ty (show kitB "NoneType" "bool" = some false by decide +kernel)
  | bool _ => exact kit_ty (show kitB "bool" "bool" = some true by decide +kernel)
  | int _ => exact kit_ty (show kitB "int" "bool" = some false by decide +kernel)
  | str _ => exact kit_ty (show kitB "str" "bool" = some false by decide +kernel)
  | list _ => exact kit_ty (show kitB "list" "bool" = some false by decide +kernel)
  | tuple _ => exact kit_ty (show kitB "tuple" "bool" = some false by decide +kernel)
  | dict _ => exact kit_ty (show kitB "dict" "bool" = some false by decide +kernel)
theorem kit_s (d : PyData) : PySem.W.kitOne K (.type (tyN d)) (.type "str") = some (isS d) := by
  cases d with
  | none => exact kit_ty (show kitB "NoneType" "str" = some false by decide +kernel)
  | bool _ => exact kit_ty (show kitB "bool" "str" = some false by decide +kernel)
  | int _ => exact kit_ty (show kitB "int" "str" = some false by decide +kernel)
  | str _ => exact kit_ty (show kitB "str" "str" = some true by decide +kernel)
  | list _ => exact kit_ty (show kitB "list" "str" = some false by decide +kernel)
  | tuple _ => exact kit_ty (show kitB "tuple" "str" = some false by decide +kernel)
  | dict _ => exact kit_ty (show kitB "dict" "str" = some false by decide +kernel)
theorem kit_tu (d : PyData) : PySem.W.kitOne K (.type (tyN d)) (.type "tuple") = some (isTu d) := by
  cases d with
  | none => exact kit_ty (show kitB "NoneType" "tuple" = some false by decide +kernel)
  | bool _ => exact kit_ty (show kitB "bool" "tuple" = some false by decide +kernel)
  | int _ => exact kit_ty (show kitB "int" "tuple" = some false by decide +kernel)
  | str _ => exact kit_ty (show kitB "str" "tuple" = some false by decide +kernel)
  | list _ => exact kit_ty (show kitB "list" "tuple" = some false by decide +kernel)
  | tuple _ => exact kit_ty (show kitB "tuple" "tuple" = some true by decide +kernel)
  | dict _ => exact kit_ty (show kitB "dict" "tuple" = some false by decide +kernel)
theorem dps_len : ∀ {vs : List V} {ds : List PyData}, DpAll K H vs ds → vs.length = ds.length
  | _, _, .nil => rfl
  | _, _, .cons _ t => congrArg Nat.succ (dps_len t)
end
/-! ### in a tuple -/
section
variable {X : Cx}
def rInDT (K : PySem.W.Frag) : R2 := fun x y H Q => ∃ d ds, Dp K H x d ∧ Dp K H y (.tuple ds) ∧ SeqAt.shaped d = true ∧ SeqAt.shaped (.list ds) = true ∧ PyData.depthAll ds = 0 ∧ Q (.bl (ds.any fun z => PyData.eqv z d)) H
theorem op_inDT (hu : X.A.units + 64 < cLine) : OpR X (compareOp .In) (rInDT X.K) := by
  intro pins s σ H x y v u Q I rx ry h
  obtain ⟨d, ds, hd, he, sd, se, z0, q⟩ := h
  obtain ⟨as, r1⟩ := Dp.reads I d x v hd rx
  obtain ⟨bs, r2⟩ := Dp.reads I (.tuple ds) y u he ry
  exact SeqAt.in_tuple_reads r2 r1 (SeqAt.canLay_of_shaped se) (SeqAt.canLay_of_shaped sd) (by rw [z0, Nat.zero_min]; omega) ⟨.bl _, H, I, rfl, q⟩
def rNotInDT (K : PySem.W.Frag) : R2 := fun x y H Q => ∃ d ds, Dp K H x d ∧ Dp K H y (.tuple ds) ∧ SeqAt.shaped d = true ∧ SeqAt.shaped (.list ds) = true ∧ PyData.depthAll ds = 0 ∧ Q (.bl (!ds.any fun z => PyData.eqv z d)) H
theorem op_notInDT (hu : X.A.units + 64 < cLine) : OpR X (compareOp .NotIn) (rNotInDT X.K) := by
  intro pins s σ H x y v u Q I rx ry h
  obtain ⟨d, ds, hd, he, sd, se, z0, q⟩ := h
  obtain ⟨as, r1⟩ := Dp.reads I d x v hd rx
  obtain ⟨bs, r2⟩ := Dp.reads I (.tuple ds) y u he ry
  exact SeqAt.notIn_tuple_reads r2 r1 (SeqAt.canLay_of_shaped se) (SeqAt.canLay_of_shaped sd) (by rw [z0, Nat.zero_min]; omega) ⟨.bl _, H, I, rfl, q⟩
end
/-! ### data of any depth: ==, !=, repr -/
section
variable {X : Cx}
def rEqW (K : PySem.W.Frag) : R2 := fun x y H Q => ∃ d e, Dp K H x d ∧ Dp K H y e ∧ d.canLay0 = true ∧ e.canLay0 = true ∧ d.depth ≤ 120 ∧ Q (.bl (PyData.eqv d e)) H
def rNeW (K : PySem.W.Frag) : R2 := fun x y H Q => ∃ d e, Dp K H x d ∧ Dp K H y e ∧ d.canLay0 = true ∧ e.canLay0 = true ∧ d.depth ≤ 120 ∧ Q (.bl (!PyData.eqv d e)) H
theorem op_eqW (hu : X.A.units + 130 < cLine) : OpR X (compareOp .Eq) (rEqW X.K) := by
  intro pins s σ H x y v u Q I rx ry h
  obtain ⟨d, e, hd, he, sd, se, dd, q⟩ := h
  obtain ⟨as, r1⟩ := Dp.reads I d x v hd rx
  obtain ⟨bs, r2⟩ := Dp.reads I e y u he ry
  exact SeqAt.compareEq_reads r1 r2 sd se (by omega) ⟨.bl _, H, I, rfl, q⟩
theorem op_neW (hu : X.A.units + 130 < cLine) : OpR X (compareOp .NotEq) (rNeW X.K) := by
  intro pins s σ H x y v u Q I rx ry h
  obtain ⟨d, e, hd, he, sd, se, dd, q⟩ := h
  obtain ⟨as, r1⟩ := Dp.reads I d x v hd rx
  obtain ⟨bs, r2⟩ := Dp.reads I e y u he ry
  exact SeqAt.compareNe_reads r1 r2 sd se (by omega) ⟨.bl _, H, I, rfl, q⟩
def rInW (K : PySem.W.Frag) : R2 := fun x y H Q => ∃ d ds, Dp K H x d ∧ Dp K H y (.tuple ds) ∧ d.canLay0 = true ∧ PyData.canLayAll0 ds = true ∧ min (PyData.depthAll ds) d.depth ≤ 120 ∧ Q (.bl (ds.any fun z => PyData.eqv z d)) H
theorem op_inW (hu : X.A.units + 130 < cLine) : OpR X (compareOp .In) (rInW X.K) := by
  intro pins s σ H x y v u Q I rx ry h
  obtain ⟨d, ds, hd, he, sd, se, z0, q⟩ := h
  obtain ⟨as, r1⟩ := Dp.reads I d x v hd rx
  obtain ⟨bs, r2⟩ := Dp.reads I (.tuple ds) y u he ry
  exact SeqAt.in_tuple_reads r2 r1 se sd (by omega) ⟨.bl _, H, I, rfl, q⟩
def rNotInW (K : PySem.W.Frag) : R2 := fun x y H Q => ∃ d ds, Dp K H x d ∧ Dp K H y (.tuple ds) ∧ d.canLay0 = true ∧ PyData.canLayAll0 ds = true ∧ min (PyData.depthAll ds) d.depth ≤ 120 ∧ Q (.bl (!ds.any fun z => PyData.eqv z d)) H
theorem op_notInW (hu : X.A.units + 130 < cLine) : OpR X (compareOp .NotIn) (rNotInW X.K) := by
  intro pins s σ H x y v u Q I rx ry h
  obtain ⟨d, ds, hd, he, sd, se, z0, q⟩ := h
  obtain ⟨as, r1⟩ := Dp.reads I d x v hd rx
  obtain ⟨bs, r2⟩ := Dp.reads I (.tuple ds) y u he ry
  exact SeqAt.notIn_tuple_reads r2 r1 se sd (by omega) ⟨.bl _, H, I, rfl, q⟩
end
abbrev NmOk (z : Str) : Prop := z.cps.all (· < 0x110000) = true
section
variable {K : PySem.W.Frag} {H H' : Hp}
theorem dps_app : ∀ {vs ws : List V} {ds es : List PyData}, DpAll K H vs ds → DpAll K H ws es → DpAll K H (vs ++ ws) (ds ++ es)
  | _, _, _, _, .nil, h => h
  | _, _, _, _, .cons a b, h => .cons a (dps_app b h)
theorem dps_take : ∀ (k : Nat) {vs : List V} {ds : List PyData}, DpAll K H vs ds → DpAll K H (vs.take k) (ds.take k)
  | 0, _, _, _ => .nil
  | k + 1, _, _, .nil => .nil
  | k + 1, _, _, .cons a b => .cons a (dps_take k b)
theorem dps_drop : ∀ (k : Nat) {vs : List V} {ds : List PyData}, DpAll K H vs ds → DpAll K H (vs.drop k) (ds.drop k)
  | 0, _, _, h => h
  | k + 1, _, _, .nil => .nil
  | k + 1, _, _, .cons a b => dps_drop k b
theorem dps_get : ∀ {vs : List V} {ds : List PyData} {i : Nat} {v : V}, DpAll K H vs ds → vs[i]? = some v → ∃ d, ds[i]? = some d ∧ Dp K H v d
  | _, _, _, _, .nil, h => by simp at h
  | _, _, 0, _, .cons a _, h => ⟨_, rfl, (Option.some.inj h) ▸ a⟩
  | _, _, i + 1, _, .cons _ t, h => dps_get (i := i) t (by simpa using h)
theorem dps_mem {vs : List V} {ds : List PyData} {v : V} (h : DpAll K H vs ds) (m : v ∈ vs) : ∃ d, d ∈ ds ∧ Dp K H v d := by
  obtain ⟨i, lt, e⟩ := List.getElem_of_mem m
  obtain ⟨d, e2, h2⟩ := dps_get h (by rw [List.getElem?_eq_getElem lt, e])
  exact ⟨d, List.mem_of_getElem? e2, h2⟩
end
/-! ### how great -/
mutual
def ats : PyData → Bool
  | .tuple ds => atss ds
  | .list ds => atss ds
  | .none => true
  | .bool _ => true
  | .int i => decide (i.natAbs < 10 ^ 62)
  | .str z => z.cps.all (· < 0x110000) && decide (z.length ≤ 10)
  | .dict _ => false
def atss : List PyData → Bool
  | [] => true
  | d :: ds => ats d && atss ds
end
mutual
def psz : PyData → Nat
  | .tuple ds => 1 + pszs ds
  | .list ds => 1 + pszs ds
  | .none => 1
  | .bool _ => 1
  | .int _ => 1
  | .str _ => 1
  | .dict _ => 1
def pszs : List PyData → Nat
  | [] => 0
  | d :: ds => psz d + pszs ds
end
theorem psz_pos : ∀ d, 1 ≤ psz d
  | .tuple ds => Nat.le_add_right _ _
  | .list ds => Nat.le_add_right _ _
  | .none => Nat.le_refl _
  | .bool _ => Nat.le_refl _
  | .int _ => Nat.le_refl _
  | .str _ => Nat.le_refl _
  | .dict _ => Nat.le_refl _
theorem pszs_app : ∀ xs ys : List PyData, pszs (xs ++ ys) = pszs xs + pszs ys
  | [], ys => (Nat.zero_add _).symm
  | x :: xs, ys => by
    have z := pszs_app xs ys
    show psz x + pszs (xs ++ ys) = psz x + pszs xs + pszs ys
    omega
theorem atss_app : ∀ xs ys : List PyData, atss (xs ++ ys) = (atss xs && atss ys)
  | [], ys => rfl
  | x :: xs, ys => by
    have z := atss_app xs ys
    show (ats x && atss (xs ++ ys)) = (ats x && atss xs && atss ys)
    rw [z, Bool.and_assoc]
theorem atss_mem : ∀ {ds : List PyData} {d : PyData}, atss ds = true → d ∈ ds → ats d = true
  | x :: xs, d, h, m => by
    have h2 : (ats x && atss xs) = true := h
    rw [Bool.and_eq_true] at h2
    rcases List.mem_cons.mp m with rfl | m
    · exact h2.1
    · exact atss_mem h2.2 m
theorem atss_of : ∀ {ds : List PyData}, (∀ d ∈ ds, ats d = true) → atss ds = true
  | [], _ => rfl
  | x :: xs, h => by
    show (ats x && atss xs) = true
    rw [h x List.mem_cons_self, atss_of fun d m => h d (List.mem_cons_of_mem _ m)]
    rfl
theorem pszs_mem : ∀ {ds : List PyData} {d : PyData}, d ∈ ds → psz d ≤ pszs ds
  | x :: xs, d, m => by
    show psz d ≤ psz x + pszs xs
    rcases List.mem_cons.mp m with rfl | m
    · exact Nat.le_add_right _ _
    · exact Nat.le_trans (pszs_mem m) (Nat.le_add_left _ _)
theorem dep_mem : ∀ {ds : List PyData} {d : PyData}, d ∈ ds → d.depth ≤ PyData.depthAll ds
  | x :: xs, d, m => by
    show d.depth ≤ max x.depth (PyData.depthAll xs)
    rcases List.mem_cons.mp m with rfl | m
    · exact Nat.le_max_left _ _
    · exact Nat.le_trans (dep_mem m) (Nat.le_max_right _ _)
theorem dep_of : ∀ {ds : List PyData} {n : Nat}, (∀ d ∈ ds, d.depth ≤ n) → PyData.depthAll ds ≤ n
  | [], n, _ => Nat.zero_le _
  | x :: xs, n, h => by
    show max x.depth (PyData.depthAll xs) ≤ n
    have a := h x List.mem_cons_self
    have b := dep_of fun d m => h d (List.mem_cons_of_mem _ m)
    omega
theorem len_pszs : ∀ ds : List PyData, ds.length ≤ pszs ds
  | [] => Nat.le_refl _
  | x :: xs => by
    have a := len_pszs xs
    have b := psz_pos x
    show xs.length + 1 ≤ psz x + pszs xs
    omega
structure Fit (d : PyData) (m : Nat) : Prop where
  lay : d.canLay0 = true
  show_ : d.showable = true
  dict : d.hasDict = false
  len : d.shown.length ≤ m
theorem fit_int {i : Int} (h : i.natAbs < 10 ^ 62) : Fit (.int i) 127 := by
  refine ⟨rfl, decide_eq_true ?_, rfl, ?_⟩
  · by_cases z : i.natAbs = 0
    · rw [z]
      decide
    · refine (Nat.log2_lt z).2 ?_
      exact Nat.lt_of_lt_of_le h (Nat.le_trans (show 10 ^ 62 ≤ 2 ^ 208 by decide) (Nat.pow_le_pow_right (by decide) (by decide)))
  · have e := int_text_length_le10 (k := 62) (by decide) h
    show (Str.ofString (toString i)).length ≤ 127
    rw [PySem.ofString_length]
    exact Nat.le_trans e (by decide)
theorem fit_str {z : Str} (h1 : NmOk z) (h2 : z.length ≤ 10) : Fit (.str z) 127 := by
  refine ⟨h1, rfl, rfl, ?_⟩
  have all : ∀ c ∈ z.cps.toList, c < 16 ^ 8 := fun c hc => by
    have q := (Array.all_eq_true_iff_forall_mem.mp h1) c (Array.mem_toList_iff.mp hc)
    have q2 : c < 0x110000 := by simpa using q
    exact Nat.lt_of_lt_of_le q2 (by decide)
  have y := StrLaws.reprText_len z all
  have e : (PyData.shown (.str z)).length = (reprText z).length := rfl
  rw [e]
  omega
mutual
theorem fit : ∀ d : PyData, ats d = true → Fit d (130 * psz d - 3)
  | .none, _ => ⟨rfl, rfl, rfl, by decide +kernel⟩
  | .bool b, _ => ⟨rfl, rfl, rfl, by cases b <;> decide +kernel⟩
  | .int i, h => fit_int (of_decide_eq_true h)
  | .str z, h => by
    have h2 : (z.cps.all (· < 0x110000) && decide (z.length ≤ 10)) = true := h
    rw [Bool.and_eq_true] at h2
    exact fit_str h2.1 (of_decide_eq_true h2.2)
  | .dict _, h => (Bool.false_ne_true h).elim
  | .tuple ds, h => by
    obtain ⟨a1, a2, a3, a4, a5⟩ := fits ds h
    have l2 := tupleText_len_le (PyData.shownAll ds)
    have e : psz (.tuple ds) = 1 + pszs ds := rfl
    refine ⟨a1, a2, a3, ?_⟩
    show (tupleText (PyData.shownAll ds)).length ≤ _
    omega
  | .list ds, h => by
    obtain ⟨a1, a2, a3, a4, a5⟩ := fits ds h
    have l1 := listText_len_le (PyData.shownAll ds)
    have e : psz (.list ds) = 1 + pszs ds := rfl
    refine ⟨a1, a2, a3, ?_⟩
    show (listText (PyData.shownAll ds)).length ≤ _
    omega
theorem fits : ∀ ds : List PyData, atss ds = true → PyData.canLayAll0 ds = true ∧ PyData.showableAll ds = true ∧ PyData.hasDictAll ds = false ∧ ((PyData.shownAll ds).map (·.length)).sum + 3 * ds.length ≤ 130 * pszs ds ∧ (PyData.shownAll ds).length = ds.length
  | [], _ => ⟨rfl, rfl, rfl, Nat.le_refl _, rfl⟩
  | d :: ds, h => by
    have h2 : (ats d && atss ds) = true := h
    rw [Bool.and_eq_true] at h2
    obtain ⟨b1, b2, b3, b4⟩ := fit d h2.1
    obtain ⟨a1, a2, a3, a4, a5⟩ := fits ds h2.2
    have p := psz_pos d
    refine ⟨?_, ?_, ?_, ?_, ?_⟩
    · show (d.canLay0 && PyData.canLayAll0 ds) = true
      rw [b1, a1]
      rfl
    · show (d.showable && PyData.showableAll ds) = true
      rw [b2, a2]
      rfl
    · show (d.hasDict || PyData.hasDictAll ds) = false
      rw [b3, a3]
      rfl
    · show d.shown.length + ((PyData.shownAll ds).map (·.length)).sum + 3 * (ds.length + 1) ≤ 130 * (psz d + pszs ds)
      omega
    · show (PyData.shownAll ds).length + 1 = ds.length + 1
      rw [a5]
end
/-- a thing: its atoms, how deep, how many parts at most -/
structure Th (n m : Nat) (d : PyData) : Prop where
  ats : ats d = true
  deep : d.depth ≤ n
  sz : psz d ≤ m
theorem Th.mono {n m n2 m2 : Nat} {d : PyData} (h : Th n m d) (a : n ≤ n2) (b : m ≤ m2) : Th n2 m2 d := ⟨h.ats, Nat.le_trans h.deep a, Nat.le_trans h.sz b⟩
theorem Th.line {n m : Nat} {d : PyData} (h : Th n m d) (b : m ≤ 4000) : d.shown.length ≤ sizeLine := by
  have a := (fit d h.ats).len
  have c := h.sz
  exact Nat.le_trans (m := 520000) (by omega) (by decide)
theorem dep_tup (ds : List PyData) : (PyData.tuple ds).depth = PyData.depthAll ds + 1 := rfl
theorem dep_lst (ds : List PyData) : (PyData.list ds).depth = PyData.depthAll ds + 1 := rfl
theorem psz_tup (ds : List PyData) : psz (.tuple ds) = 1 + pszs ds := rfl
theorem psz_lst (ds : List PyData) : psz (.list ds) = 1 + pszs ds := rfl
theorem cut_one (x : V) (r : List V) : cutV (x :: r) (some 1) none = r := by
  unfold cutV
  have e1 : HT.sIx (x :: r).length 0 (some 1) = 1 := by
    rw [show HT.sIx (x :: r).length 0 (some 1) = min 1 (x :: r).length from HT.sIx_nat _ 0 1, List.length_cons]
    omega
  rw [e1, HT.sIx_none]
  show List.take ((x :: r).length - 1) r = r
  rw [List.length_cons, Nat.add_sub_cancel]
  exact List.take_length
theorem cut_not (x : V) (r : List V) : ¬ (HT.sIx (x :: r).length 0 (some 1) = 0 ∧ HT.sIx (x :: r).length (x :: r).length none = (x :: r).length) := by
  intro h
  have e1 : HT.sIx (x :: r).length 0 (some 1) = 1 := by
    rw [show HT.sIx (x :: r).length 0 (some 1) = min 1 (x :: r).length from HT.sIx_nat _ 0 1, List.length_cons]
    omega
  rw [e1] at h
  exact absurd h.1 (by decide)
theorem same_own {H H1 : Hp} {p : Addr} {o : HO} (s : Same H H1) (n : H p = none) : Same H (upd H1 p o) := fun b u q => by
  rw [upd_ne (ne_of_none q n)]
  exact s b u q
section
variable {K : PySem.W.Frag} {H : Hp}
theorem dps_rev : ∀ {vs : List V} {ds : List PyData}, DpAll K H vs ds → DpAll K H vs.reverse ds.reverse
  | _, _, .nil => .nil
  | _, _, .cons a b => by
    rw [List.reverse_cons, List.reverse_cons]
    exact dps_app (dps_rev b) (.cons a .nil)
theorem dps_last {vs : List V} {v : V} {ds : List PyData} (h : DpAll K H (vs ++ [v]) ds) : ∃ es e, ds = es ++ [e] ∧ DpAll K H vs es ∧ Dp K H v e := by
  have q := dps_rev h
  rw [List.reverse_append, List.reverse_singleton, List.singleton_append] at q
  generalize hr : ds.reverse = r at q
  cases q with
  | @cons _ _ e es a b =>
    have b2 := dps_rev b
    rw [List.reverse_reverse] at b2
    refine ⟨es.reverse, e, ?_, b2, a⟩
    have z := congrArg List.reverse hr
    rw [List.reverse_reverse, List.reverse_cons] at z
    exact z
end
theorem pszs_rev : ∀ xs : List PyData, pszs xs.reverse = pszs xs
  | [] => rfl
  | x :: xs => by
    rw [List.reverse_cons, pszs_app, pszs_rev xs]
    show pszs xs + (psz x + 0) = psz x + pszs xs
    omega
theorem head_at (x : V) (us : List V) : atI (x :: us) 0 = some x := atI_nat (j := 0) rfl
/-- the tuples alone -/
def tups (H : Hp) : Hp := fun a => match H a with
  | some (.tup xs) => some (.tup xs)
  | _ => none
theorem tups_is {H : Hp} {a : Addr} {o : HO} (h : tups H a = some o) : ∃ xs, o = .tup xs ∧ H a = some (.tup xs) := by
  unfold tups at h
  split at h
  · rename_i xs e
    cases h
    exact ⟨xs, rfl, e⟩
  · cases h
theorem tups_of {H : Hp} {a : Addr} {xs : List V} (h : H a = some (.tup xs)) : tups H a = some (.tup xs) := by
  unfold tups
  rw [h]
theorem tups_le {H H' : Hp} (k : Tups H H') : Same (tups H) (tups H') := fun a o e => by
  obtain ⟨xs, rfl, h⟩ := tups_is e
  exact tups_of (k _ _ h)
theorem tups_in {H : Hp} : Same (tups H) H := fun a o e => by
  obtain ⟨xs, rfl, h⟩ := tups_is e
  exact h
section
variable {K : PySem.W.Frag} {C : Addr} {H0 H : Hp} {p dx l : Addr} {rs : List Addr} {v : V}
theorem tups_lst {q : Addr} {xs : List V} {o : HO} (h : H q = some (.lst xs)) : Tups H (upd H q o) := tups_put fun ys e => by
  rw [h] at e
  cases e
theorem tups_ins {q C dx : Addr} {fs : List (Str × V)} {o : HO} (h : H q = some (.ins C dx fs)) : Tups H (upd H q o) := tups_put fun ys e => by
  rw [h] at e
  cases e
theorem all2_mono2 {α β : Type} {F G : α → β → Prop} : ∀ {xs : List α} {ys : List β}, (∀ a ∈ xs, ∀ b, F a b → G a b) → All2 F xs ys → All2 G xs ys
  | _, _, _, .nil => .nil
  | _, _, h, .cons r t => .cons (h _ List.mem_cons_self _ r) (all2_mono2 (fun a ha => h a (List.mem_cons_of_mem _ ha)) t)
theorem all2_mem {α β : Type} {F : α → β → Prop} : ∀ {xs : List α} {ys : List β} {a : α}, All2 F xs ys → a ∈ xs → ∃ b, F a b
  | _, _, _, .nil, h => nomatch h
  | _, _, _, .cons r t, h => by
    rcases List.mem_cons.mp h with rfl | h
    · exact ⟨_, r⟩
    · exact all2_mem t h
end
theorem eqS {a b : Str} {A B : Prop} (t : a = b → A) (f : a ≠ b → B) : if decide (V.str a = V.str b) = true then A else B := by
  by_cases e : a = b
  · rw [if_pos (by rw [e]; exact decide_eq_true rfl)]
    exact t e
  · rw [if_neg (fun z => e (by injection of_decide_eq_true z))]
    exact f e
theorem V_str (a b : Str) : decide (V.str a = V.str b) = decide (a = b) := by
  by_cases e : a = b
  · rw [e, decide_eq_true rfl, decide_eq_true rfl]
  · rw [decide_eq_false e, decide_eq_false fun z => e (by injection z)]
theorem andWays {c1 : Bool} {M : Prop} (c2 : Bool) {B R : Prop} (m : c1 = true → (if c2 = true then B else R) → M) (t : (c1 && c2) = true → B) (f : ¬ (c1 && c2) = true → R) : if c1 = true then M else (if false = true then B else R) := by
  cases c1 with
  | false =>
    rw [if_neg Bool.false_ne_true, if_neg Bool.false_ne_true]
    exact f Bool.false_ne_true
  | true =>
    rw [if_pos rfl]
    refine m rfl ?_
    cases c2 with
    | true => exact iteT (t rfl)
    | false => exact iteF (f Bool.false_ne_true)
theorem joinS {C G : L2.St → Hp → Prop} {M : Prop} (main : (∀ σ H, C σ H → G σ H) → M) (rest : ∀ σ H, C σ H → G σ H) : M := main rest
theorem no_calls {P : Program} {w : World} {K : PySem.W.Frag} {mg : Str → Option Value} {base : Heap} {f : Addr} {fd : FuncData} {k : Nat} {ps : List Str} {sp : Sp} (no : ∀ vs H Q E, ¬ sp vs H Q E) : FnOk P w K mg base CX0 k f fd ps sp :=
  ⟨fun vs H Q E h => absurd h (no vs H Q E), fun A outer s H args us vs Q E _ _ _ _ h => absurd h (no vs H Q E)⟩

theorem ways2 {C1 C2 G1 G2 M : Prop} (main : (C1 → G1) → (C2 → G2) → M) (b : C1 → G1) (r : C2 → G2) : M := main b r
theorem few_of' {n : Nat} (h : n ≤ 200000) : n < sizeLine := Nat.lt_of_le_of_lt h (by decide)
theorem cut63 {xs : List V} (h : xs.length ≤ 63) : cutV xs none (some 63) = xs := by
  unfold cutV
  have e1 : HT.sIx xs.length xs.length (some 63) = min 63 xs.length := HT.sIx_nat _ _ 63
  rw [e1, HT.sIx_none]
  show List.take (min 63 xs.length - 0) (xs.drop 0) = xs
  rw [List.drop_zero]
  exact List.take_of_length_le (by omega)
/-- data of tuples that stand -/
def Dt (K : PySem.W.Frag) (H : Hp) (v : V) (d : PyData) : Prop := Dp K (tups H) v d
def DtAll (K : PySem.W.Frag) (H : Hp) (vs : List V) (ds : List PyData) : Prop := DpAll K (tups H) vs ds
section
variable {K : PySem.W.Frag} {H H' : Hp}
theorem Dt.keep {v : V} {d : PyData} (h : Dt K H v d) (k : Tups H H') : Dt K H' v d := dp_up (tups_le k) _ _ h
theorem DtAll.keep {vs : List V} {ds : List PyData} (h : DtAll K H vs ds) (k : Tups H H') : DtAll K H' vs ds := dps_up (tups_le k) _ _ h
theorem Dt.dp {v : V} {d : PyData} (h : Dt K H v d) : Dp K H v d := dp_up tups_in _ _ h
theorem DtAll.dp {vs : List V} {ds : List PyData} (h : DtAll K H vs ds) : DpAll K H vs ds := dps_up tups_in _ _ h
theorem sqT_tups {a : Addr} {xs : List V} (h : H a = some (.tup xs)) : SqT K (tups H) a xs := .inl (.inl (tups_of h))
theorem dt_tup {a : Addr} {xs : List V} {ds : List PyData} (h : H a = some (.tup xs)) (g : DtAll K H xs ds) : Dt K H (.ref a) (.tuple ds) := .tup (sqT_tups h) g
/-- a tuple's parts -/
theorem Dt.view {v : V} {ds : List PyData} (h : Dt K H v (.tuple ds)) : ∃ a xs, v = .ref a ∧ SqT K H a xs ∧ DtAll K H xs ds := by
  cases h with
  | @tup a xs _ hs ha => exact ⟨a, xs, rfl, sqT_up tups_in hs, ha⟩
theorem sqT_keep {a : Addr} {xs : List V} (k : Tups H H') (h : SqT K (tups H) a xs) : SqT K (tups H') a xs := sqT_up (tups_le k) h
end
theorem but_tups {f : Addr} {H H' : Hp} (b : But f H H') (n : ∀ xs, H f ≠ some (.tup xs)) : Tups H H' := fun c xs e => b _ _ (fun z => n xs (by rw [← z]; exact e)) e
end Kf
set_option Elab.async false
set_option linter.all false
set_option maxRecDepth 100000
set_option maxHeartbeats 4000000
set_option pp.maxSteps 1500
/-! The dice. -/
namespace Kf
open PySem PySem.Spec PyProof.Rows L2 Sx
def top (i : Nat) : Stmt := PySem.Challenge.pw_prooffruit_k28_whole_calls_far_within_on.main.body.getD i (.Pass ⟨0, 0, 0, 0⟩)
abbrev sRoll : Stmt := top 66
abbrev sPick : Stmt := top 67
abbrev rollN : List Str := ["dice", "size", "spot", "cell", "seed", "rest"]
theorem scRoll : FnScope rollN ["dice", "size"] (defScope sRoll) := ⟨rfl, rfl, rfl, by decide +kernel, rfl, by decide +kernel, by decide +kernel⟩
theorem scPick : FnScope ["dice", "some"] ["dice", "some"] (defScope sPick) := ⟨rfl, rfl, rfl, by decide +kernel, rfl, by decide +kernel, by decide +kernel⟩
/-- the dice: its cells, how many are used up, below m -/
def DiceAt (H : Hp) (p L : Addr) (m : Int) : Prop := ∃ (spot n rest : Int) (cells : List Int), H p = some (.lst [.ref L, .int spot, .int n, .int rest]) ∧ L ≠ p ∧ H L = some (.lst (cells.map V.int)) ∧ cells.length ≤ 63 ∧ 0 ≤ spot ∧ spot ≤ m
theorem DiceAt.same {H H' : Hp} {p L : Addr} {m : Int} (h : DiceAt H p L m) (b : Same H H') : DiceAt H' p L m := by
  obtain ⟨x, n, r, cs, e, nl, eL, q⟩ := h
  exact ⟨x, n, r, cs, b _ _ e, nl, b _ _ eL, q⟩
theorem DiceAt.more {H : Hp} {p L : Addr} {m k : Int} (h : DiceAt H p L m) (l : m ≤ k) : DiceAt H p L k := by
  obtain ⟨x, n, r, cs, e, nl, eL, hc, h0, h1⟩ := h
  exact ⟨x, n, r, cs, e, nl, eL, hc, h0, Int.le_trans h1 l⟩
theorem DiceAt.ne {H : Hp} {p q L : Addr} {m : Int} (h : DiceAt H p L m) (e : H q = none) : q ≠ p := fun z => by
  obtain ⟨x, n, r, cs, e2, _⟩ := h
  rw [z, e2] at e
  cases e
theorem DiceAt.tups {H H' : Hp} {p L : Addr} {m : Int} (h : DiceAt H p L m) (b : But p H H') : Tups H H' := by
  obtain ⟨x, n, r, cs, e2, _⟩ := h
  intro c xs e
  refine b _ _ (fun z => ?_) e
  rw [z, e2] at e
  cases e
/-! ### whole numbers as data -/
theorem dp_ints {K : PySem.W.Frag} {H : Hp} {a : Addr} {ns : List Int} (h : SqL K H a (ns.map V.int)) : Dp K H (.ref a) (.list (ns.map PyData.int)) := by
  refine .lst h ?_
  clear h
  induction ns with
  | nil => exact .nil
  | cons x r ih => exact .cons (.int x) ih
theorem lay_ints : ∀ ns : List Int, PyData.canLayAll0 (ns.map .int) = true ∧ PyData.depthAll (ns.map .int) = 0
  | [] => ⟨rfl, rfl⟩
  | z :: r => by
    obtain ⟨h1, h2⟩ := lay_ints r
    refine ⟨?_, ?_⟩
    · show (true && PyData.canLayAll0 (r.map .int)) = true
      rw [h1]
      rfl
    · show max 0 (PyData.depthAll (r.map .int)) = 0
      rw [h2]
      rfl
theorem shaped_ints (ns : List Int) : SeqAt.shaped (.list (ns.map .int)) = true := by
  obtain ⟨h1, h2⟩ := lay_ints ns
  show (PyData.canLayAll0 (ns.map .int) && decide (PyData.depthAll (ns.map .int) + 1 ≤ 64)) = true
  rw [h1, h2]
  rfl
theorem notM {m : Int} (h : 0 < m) : m ≠ 0 := Int.ne_of_gt h
theorem mod_in {i m : Int} (h : 0 < m) : 0 ≤ i.fmod m ∧ i.fmod m < m := by
  rw [Int.fmod_eq_emod_of_nonneg _ (Int.le_of_lt h)]
  exact ⟨Int.emod_nonneg _ (Int.ne_of_gt h), Int.emod_lt_of_pos _ h⟩
theorem atI_in {α : Type} {xs : List α} {r : Int} (h0 : 0 ≤ r) (h1 : r < (xs.length : Int)) : ∃ x ∈ xs, atI xs r = some x := by
  obtain ⟨k, rfl⟩ := Int.eq_ofNat_of_zero_le h0
  have lt : k < xs.length := by omega
  exact ⟨xs[k], List.getElem_mem lt, atI_nat (List.getElem?_eq_getElem lt)⟩
section
variable {P : Program} {w : World} {K : PySem.W.Frag} {mg : Str → Option Value} {base : Heap}
def spRoll : Sp := fun vs H Q _ => ∃ (p L : Addr) (size m : Int), vs = [.ref p, .int size] ∧ 0 < size ∧ size.natAbs < 2 ^ 200 ∧ m < 2 ^ 50 ∧ DiceAt H p L m ∧
  ∀ (r : Int) H', 0 ≤ r → r < size → But p H H' → DiceAt H' p L (m + 1) → Q (.int r) H'
theorem ok_roll {f : Addr} {fd : FuncData} {j : Nat} (F : Fun K "_law_roll" "_law_roll" sRoll f fd) (ml : mg "len" = none) : FnOk P w K mg base CX0 (j + 1) f fd ["dice", "size"] spRoll := by
  refine F.ok scRoll (fun vs H Q E h => ?_) (fun cdv A outer s H vs Q E hr h => ?_)
  · obtain ⟨a, L, z, m, rfl, _⟩ := h
    rfl
  obtain ⟨p, L, size, m, rfl, pos, small, mm, ⟨spot, n, rest, cells, hp, nl, hL, hc, s0, s1⟩, q⟩ := h
  have u1 : (A.deeper (envOfC "_law_roll" (defScope sRoll) s.heap.objs.size f cdv)).units + 64 < cLine := by
    have := hr.units
    omega
  refine ⟨_, pss_cons (ps_if (pt_cmpR op_eq (pe_ix ix_list (pv 0) pe_int (fun _ _ => rfl)) pe_int (nomark _))
      (pss_cons (ps_set (i := 2) scRoll.nd rfl (.inl rfl) (pe_ix ix_list (pv 0) pe_int (fun _ _ => rfl)))
      (pss_cons (ps_asg (pe_op op_add (pv 2) pe_int) (pg_sub (pv 0) pe_int set_list))
      (pss_cons (ps_set (i := 3) scRoll.nd rfl (.inl rfl) pe_int)
      (pss_cons (ps_if (pt_cmpR (op_neD u1) (pe_ix ix_list (pv 0) pe_int (fun _ _ => rfl)) (pe_lst pa_nil) (nomark _))
        (pss_one (ps_set (i := 3) scRoll.nd rfl (.inl rfl) (pe_ix ix_list (pe_ix ix_list (pv 0) pe_int (fun _ _ => rfl)) (pe_op op_modN (pv 2) (pe_callB call_len_seq (by rfl) ml PySem.boot_len (pa_cons (pe_ix ix_list (pv 0) pe_int (fun _ _ => rfl)) pa_nil))) (fun _ _ => rfl)))) pss_nil)
      (pss_cons (ps_if (PW.pt (pw_or (pt_cmpR op_ge (pv 2) (pe_callB call_len_seq (by rfl) ml PySem.boot_len (pa_cons (pe_ix ix_list (pv 0) pe_int (fun _ _ => rfl)) pa_nil)) (nomark _)) (pw_or1 (pt_cmpR op_lt (pv 3) (pe_op op_pow pe_int pe_int) (nomark _)))))
        (pss_cons (ps_set (i := 4) scRoll.nd rfl (.inl rfl) (pe_op op_modN (pe_op op_mul (pe_op op_add (pe_op op_modN (pv 3) pe_int) pe_int) (pe_op op_add (pe_op op_add (pe_op op_mul (pv 2) (pv 2)) (pe_op op_mul pe_int (pv 2))) pe_int)) pe_int))
        (pss_cons (ps_set (i := 4) scRoll.nd rfl (.inl rfl) (pe_op op_modN (pe_op op_pow (pv 4) pe_int) pe_int))
        (pss_one (ps_ret (pe_op op_modN (pe_op op_fdiv (pe_op op_modN (pe_op op_add (pv 4) (pe_op op_mul pe_int (pv 2))) pe_int) pe_int) (pv 1)))))) pss_nil)
      (pss_cons (ps_asg pe_int (pg_sub (pv 0) pe_int set_list))
      (pss_one (ps_asg (pe_op op_sub (pv 3) (pe_op op_pow pe_int pe_int)) (pg_sub (pv 0) pe_int set_list))))))))) pss_nil)
    (pss_cons (ps_asg (pe_op op_sub (pe_ix ix_list (pv 0) pe_int (fun _ _ => rfl)) pe_int) (pg_sub (pv 0) pe_int set_list))
    (pss_cons (ps_set (i := 5) scRoll.nd rfl (.inl rfl) (pe_ix ix_list (pv 0) pe_int (fun _ _ => rfl)))
    (pss_cons (ps_asg (pe_op op_fdivW (pv 5) (pv 1)) (pg_sub (pv 0) pe_int set_list)) (pss_one (ps_ret (pe_op op_modN (pv 5) (pv 1))))))), ?_⟩
  have sq : ∀ (H' : Hp) a b c, H' p = some (.lst [.ref L, a, b, c]) → SqL K H' p [.ref L, a, b, c] := fun H' a b c e => .inl (.inl e)
  have end_ : ∀ (H' : Hp) (x a b : Int), H' p = some (.lst [.ref L, .int x, .int a, .int b]) → But p H H' → 0 ≤ x → x ≤ m + 1 →
      (∃ H2, H2 = upd (upd H' p (.lst [.ref L, .int x, .int (a - 1), .int b])) p (.lst [.ref L, .int x, .int (a - 1), .int (b / size)]) ∧ Q (.int (b.fmod size)) H2) := fun H' x a b e bb x0 x1 => by
    refine ⟨_, rfl, ?_⟩
    refine q _ _ (mod_in pos).1 (mod_in pos).2 ((bb.own).own) ⟨x, a - 1, b / size, cells, upd_same, nl, ?_, hc, x0, x1⟩
    rw [upd_ne nl, upd_ne nl]
    exact bb _ _ nl hL
  have sp : CMul spot spot := .inl ⟨by omega, by omega⟩
  have in64 : ∀ c : Int, -(2 ^ 64) < c.fmod 999953 + 37 ∧ c.fmod 999953 + 37 < 2 ^ 64 := fun c => by
    obtain ⟨a, b⟩ := mod_in (i := c) (m := 999953) (by decide)
    omega
  have pow64 : ∀ c : Int, (c.fmod 1000003).natAbs < 2 ^ 64 := fun c => by
    obtain ⟨a, b⟩ := mod_in (i := c) (m := 1000003) (by decide)
    omega
  refine ⟨_, rfl, p, _, 2, .int n, rfl, rfl, sq _ _ _ _ hp, rfl, rfl, _, rfl, ?_⟩
  refine ite2 (fun c => ?_) (fun c => ?_)
  · refine ⟨_, rfl, p, _, 1, .int spot, rfl, rfl, sq _ _ _ _ hp, rfl, ?_⟩
    refine ⟨_, rfl, _, _, rfl, rfl, _, rfl, p, _, 1, 1, rfl, rfl, hp, rfl, ?_⟩
    have b1 : But p H (upd H p (.lst [.ref L, .int (spot + 1), .int n, .int rest])) := (But.refl p H).own
    have hL1 := b1 _ _ nl hL
    have hp1 : upd H p (.lst [.ref L, .int (spot + 1), .int n, .int rest]) p = some (.lst [.ref L, .int (spot + 1), .int n, .int rest]) := upd_same
    refine ⟨_, rfl, p, _, 0, .ref L, rfl, rfl, sq _ _ _ _ hp1, rfl, (by show 0 ≤ sizeLine; decide), fun e0 ne0 => ?_⟩
    have s2 := same_new (o := .lst []) ne0
    have b2 := b1.new (o := .lst []) ne0
    have hL2 := s2 _ _ hL1
    have hp2 := s2 _ _ hp1
    refine ⟨_, _, dp_ints (.inl (.inl hL2)), .lst (.inl (.inl upd_same)) .nil, shaped_ints _, rfl, _, rfl, ?_⟩
    cases cells with
    | nil =>
      refine iteF ?_
      refine ⟨_, rfl, _, rfl, p, _, 0, .ref L, rfl, rfl, sq _ _ _ _ hp2, rfl, L, _, rfl, .inl (.inl (.inl hL2)), _, _, rfl, rfl, _, rfl, ?_⟩
      refine ite2 (fun c2 => ?_) (fun c2 => (c2 (decide_eq_true s0)).elim)
      refine ⟨_, rfl, _, _, rfl, rfl, notM (by decide), _, _, rfl, rfl, _, rfl, _, rfl, _, _, rfl, rfl, sp, _, rfl, _, _, rfl, rfl, .inl ⟨by decide, by decide⟩, _, _, rfl, rfl, _, _, rfl, rfl, _, _, rfl, rfl, .inl (in64 _), _, _, rfl, rfl, notM (by decide), ?_⟩
      refine ⟨_, rfl, _, _, rfl, rfl, ⟨by decide, by decide, pow64 _⟩, _, _, rfl, rfl, notM (by decide), ?_⟩
      refine ⟨_, rfl, _, rfl, _, _, rfl, rfl, .inl ⟨by decide, by decide⟩, _, _, rfl, rfl, _, _, rfl, rfl, notM (by decide), _, _, rfl, rfl, ⟨by decide, by decide⟩, _, rfl, _, _, rfl, rfl, notM pos, ?_⟩
      exact q _ _ (mod_in pos).1 (mod_in pos).2 b2 ⟨spot + 1, n, rest, _, hp2, nl, hL2, hc, by omega, by omega⟩
    | cons z zs =>
      refine iteT ?_
      refine ⟨_, rfl, p, _, 0, .ref L, rfl, rfl, sq _ _ _ _ hp2, rfl, _, rfl, _, rfl, p, _, 0, .ref L, rfl, rfl, sq _ _ _ _ hp2, rfl, L, _, rfl, .inl (.inl (.inl hL2)), _, _, rfl, rfl, notM (by show (0 : Int) < (((z :: zs).map V.int).length : Nat); rw [List.length_map]; exact Int.natCast_pos.mpr (Nat.succ_pos _)), ?_⟩
      obtain ⟨i0, i1⟩ := mod_in (i := spot) (m := (((z :: zs).map V.int).length : Nat)) (by rw [List.length_map]; exact Int.natCast_pos.mpr (Nat.succ_pos _))
      have item : ∃ y : Int, atI ((z :: zs).map V.int) (spot.fmod (((z :: zs).map V.int).length : Nat)) = some (.int y) := by
        obtain ⟨x, mem, e⟩ := atI_in i0 i1
        obtain ⟨y, _, ey⟩ := List.mem_map.mp mem
        exact ⟨y, by rw [e, ← ey]⟩
      obtain ⟨y, item⟩ := item
      refine ⟨L, _, _, _, rfl, rfl, .inl (.inl hL2), item, ?_⟩
      refine ⟨_, rfl, _, rfl, p, _, 0, .ref L, rfl, rfl, sq _ _ _ _ hp2, rfl, L, _, rfl, .inl (.inl (.inl hL2)), _, _, rfl, rfl, _, rfl, ?_⟩
      refine ite2 (fun c2 => ?_) (fun c2 => ?_)
      · refine ⟨_, rfl, _, _, rfl, rfl, notM (by decide), _, _, rfl, rfl, _, rfl, _, rfl, _, _, rfl, rfl, sp, _, rfl, _, _, rfl, rfl, .inl ⟨by decide, by decide⟩, _, _, rfl, rfl, _, _, rfl, rfl, _, _, rfl, rfl, .inl (in64 _), _, _, rfl, rfl, notM (by decide), ?_⟩
        refine ⟨_, rfl, _, _, rfl, rfl, ⟨by decide, by decide, pow64 _⟩, _, _, rfl, rfl, notM (by decide), ?_⟩
        refine ⟨_, rfl, _, rfl, _, _, rfl, rfl, .inl ⟨by decide, by decide⟩, _, _, rfl, rfl, _, _, rfl, rfl, notM (by decide), _, _, rfl, rfl, ⟨by decide, by decide⟩, _, rfl, _, _, rfl, rfl, notM pos, ?_⟩
        exact q _ _ (mod_in pos).1 (mod_in pos).2 b2 ⟨spot + 1, n, rest, _, hp2, nl, hL2, hc, by omega, by omega⟩
      · refine ⟨_, rfl, _, _, rfl, rfl, ⟨by decide, by decide, by decide⟩, _, _, rfl, rfl, _, rfl, ?_⟩
        refine ite2 (fun c3 => ?_) (fun c3 => ?_)
        · refine ⟨_, rfl, _, _, rfl, rfl, notM (by decide), _, _, rfl, rfl, _, rfl, _, rfl, _, _, rfl, rfl, sp, _, rfl, _, _, rfl, rfl, .inl ⟨by decide, by decide⟩, _, _, rfl, rfl, _, _, rfl, rfl, _, _, rfl, rfl, .inl (in64 _), _, _, rfl, rfl, notM (by decide), ?_⟩
          refine ⟨_, rfl, _, _, rfl, rfl, ⟨by decide, by decide, pow64 _⟩, _, _, rfl, rfl, notM (by decide), ?_⟩
          refine ⟨_, rfl, _, rfl, _, _, rfl, rfl, .inl ⟨by decide, by decide⟩, _, _, rfl, rfl, _, _, rfl, rfl, notM (by decide), _, _, rfl, rfl, ⟨by decide, by decide⟩, _, rfl, _, _, rfl, rfl, notM pos, ?_⟩
          exact q _ _ (mod_in pos).1 (mod_in pos).2 b2 ⟨spot + 1, n, rest, _, hp2, nl, hL2, hc, by omega, by omega⟩
        · refine ⟨_, rfl, p, _, 2, 2, rfl, rfl, hp2, rfl, ?_⟩
          refine ⟨_, rfl, _, _, rfl, rfl, ⟨by decide, by decide, by decide⟩, _, _, rfl, rfl, _, rfl, p, _, 3, 3, rfl, rfl, upd_same, rfl, ?_⟩
          refine ⟨_, rfl, p, _, 2, _, rfl, rfl, sq _ _ _ _ upd_same, rfl, _, _, rfl, rfl, _, rfl, p, _, 2, 2, rfl, rfl, upd_same, rfl, ?_⟩
          refine ⟨_, rfl, p, _, 3, _, rfl, rfl, sq _ _ _ _ upd_same, rfl, ?_⟩
          refine ⟨_, rfl, _, rfl, _, _, rfl, rfl, wide_div pos small (by decide) (by decide), _, rfl, p, _, 3, 3, rfl, rfl, upd_same, rfl, ?_⟩
          refine ⟨_, rfl, _, rfl, _, _, rfl, rfl, notM pos, ?_⟩
          refine q _ _ (mod_in pos).1 (mod_in pos).2 ((((b2.own).own).own).own) ⟨spot + 1, _, _, _, upd_same, nl, ?_, hc, by omega, by omega⟩
          rw [upd_ne nl, upd_ne nl, upd_ne nl, upd_ne nl]
          exact hL2
  · refine ⟨_, rfl, p, _, 2, _, rfl, rfl, sq _ _ _ _ hp, rfl, _, _, rfl, rfl, _, rfl, p, _, 2, 2, rfl, rfl, hp, rfl, ?_⟩
    refine ⟨_, rfl, p, _, 3, _, rfl, rfl, sq _ _ _ _ upd_same, rfl, ?_⟩
    refine ⟨_, rfl, _, rfl, _, _, rfl, rfl, wide_div pos small (by decide) (by decide), _, rfl, p, _, 3, 3, rfl, rfl, upd_same, rfl, ?_⟩
    refine ⟨_, rfl, _, rfl, _, _, rfl, rfl, notM pos, ?_⟩
    refine q _ _ (mod_in pos).1 (mod_in pos).2 ((((But.refl p H).own).own)) ⟨spot, _, _, _, upd_same, nl, ?_, hc, s0, by omega⟩
    rw [upd_ne nl, upd_ne nl]
    exact hL
end
end Kf
set_option Elab.async false
set_option linter.all false
set_option maxRecDepth 100000
set_option maxHeartbeats 8000000
set_option pp.maxSteps 600
/-! A pick from a list, from a text; a word. -/
namespace Kf
open PySem PySem.Spec PyProof.Rows L2 Sx
abbrev sWord : Stmt := top 68
theorem scWord : FnScope ["dice", "word", "k"] ["dice"] (defScope sWord) := ⟨rfl, rfl, rfl, by decide +kernel, rfl, by decide +kernel, by decide +kernel⟩
section
variable {P : Program} {w : World} {K : PySem.W.Frag} {mg : Str → Option Value} {base : Heap}
def spPick (K : PySem.W.Frag) : Sp := fun vs H Q _ => ∃ (p l L : Addr) (xs : List V) (m : Int), vs = [.ref p, .ref l] ∧ SqL K H l xs ∧ l ≠ p ∧ 0 < xs.length ∧ xs.length ≤ 1000 ∧ m < 2 ^ 50 ∧ DiceAt H p L m ∧
  ∀ x ∈ xs, ∀ H', But p H H' → DiceAt H' p L (m + 1) → Q x H'
theorem seq_but {p l : Addr} {H H' : Hp} {xs : List V} (n : l ≠ p) (b : But p H H') (h : SqL K H l xs) : SqL K H' l xs := by
  rcases h with (h | ⟨o, h⟩) | h
  · exact .inl (.inl (b _ _ n h))
  · exact .inl (.inr ⟨o, b _ _ n h⟩)
  · exact .inr h
theorem ok_pick {f g : Addr} {fd gd : FuncData} {j : Nat} (F : Fun K "_law_pick" "_law_pick" sPick f fd) (G : FnOk P w K mg base CX0 (j + 1) g gd ["dice", "size"] spRoll) (bG : Binds K gd ["dice", "size"] []) (kG : PySem.W.keepIn K (.ref g) = true) (mG : mg "_law_roll" = some (.ref g)) (ml : mg "len" = none) :
    FnOk P w K mg base CX0 (j + 2) f fd ["dice", "some"] (spPick K) := by
  refine F.ok scPick (fun vs H Q E h => ?_) (fun cdv A outer s H vs Q E hr h => ?_)
  · obtain ⟨p, l, L, xs, m, rfl, _⟩ := h
    rfl
  obtain ⟨p, l, L, xs, m, rfl, hs, nl, l0, l1, mm, hD, q⟩ := h
  refine ⟨_, pss_one (ps_ret (pe_ix ix_list (pv 1) (pe_call G hr (by rfl) mG kG bG .nil pass0 (pa_cons (pv 0) (pa_cons (pe_callB call_len_seq (by rfl) ml PySem.boot_len (pa_cons (pv 1) pa_nil)) pa_nil))) (fun _ _ => rfl))), ?_⟩
  refine ⟨_, rfl, _, rfl, _, rfl, l, xs, rfl, .inl hs, p, L, ((xs.length : Nat) : Int), m, rfl, by omega, Nat.lt_of_le_of_lt (by rw [Int.natAbs_natCast]; exact l1) (by decide), mm, hD, fun r H' r0 r1 b hD' => ?_⟩
  obtain ⟨x, mem, e⟩ := atI_in r0 r1
  exact ⟨l, xs, r, x, rfl, rfl, seq_but nl b hs, e, q x mem H' b hD'⟩

def spPickS : Sp := fun vs H Q _ => ∃ (p L : Addr) (z : Str) (m : Int), vs = [.ref p, .str z] ∧ 0 < z.length ∧ z.length ≤ 1000 ∧ m < 2 ^ 50 ∧ DiceAt H p L m ∧
  ∀ c ∈ z.cps.toList, ∀ H', But p H H' → DiceAt H' p L (m + 1) → Q (.str ⟨#[c]⟩) H'
theorem ok_pickS {f g : Addr} {fd gd : FuncData} {j : Nat} (F : Fun K "_law_pick" "_law_pick" sPick f fd) (G : FnOk P w K mg base CX0 (j + 1) g gd ["dice", "size"] spRoll) (bG : Binds K gd ["dice", "size"] []) (kG : PySem.W.keepIn K (.ref g) = true) (mG : mg "_law_roll" = some (.ref g)) (ml : mg "len" = none) :
    FnOk P w K mg base CX0 (j + 2) f fd ["dice", "some"] spPickS := by
  refine F.ok scPick (fun vs H Q E h => ?_) (fun cdv A outer s H vs Q E hr h => ?_)
  · obtain ⟨p, L, z, m, rfl, _⟩ := h
    rfl
  obtain ⟨p, L, z, m, rfl, l0, l1, mm, hD, q⟩ := h
  refine ⟨_, pss_one (ps_ret (pe_ix ix_str (pv 1) (pe_call G hr (by rfl) mG kG bG .nil pass0 (pa_cons (pv 0) (pa_cons (pe_callB call_len_str (by rfl) ml PySem.boot_len (pa_cons (pv 1) pa_nil)) pa_nil))) (fun _ _ => rfl))), ?_⟩
  have line : z.length ≤ sizeLine := Nat.le_trans l1 (by decide)
  refine ⟨_, rfl, _, rfl, _, rfl, z, rfl, line, p, L, ((z.length : Nat) : Int), m, rfl, by omega, Nat.lt_of_le_of_lt (by rw [Int.natAbs_natCast]; exact l1) (by decide), mm, hD, fun r H' r0 r1 b hD' => ?_⟩
  have ln : z.cps.toList.length = z.length := Array.length_toList
  obtain ⟨x, hx, item⟩ := atI_in (xs := z.cps.toList) r0 (by omega)
  exact ⟨z, r, _, rfl, rfl, line, item, q _ hx H' b hD'⟩
/-! ### the dice, with all that the draws want -/
structure Draw (P : Program) (w : World) (K : PySem.W.Frag) (mg : Str → Option Value) (base : Heap) (fr fp : Addr) (dr dp : FuncData) : Prop where
  R : FnOk P w K mg base CX0 1 fr dr ["dice", "size"] spRoll
  bR : Binds K dr ["dice", "size"] []
  kR : PySem.W.keepIn K (.ref fr) = true
  mR : mg "_law_roll" = some (.ref fr)
  Pk : FnOk P w K mg base CX0 2 fp dp ["dice", "some"] (spPick K)
  Ps : FnOk P w K mg base CX0 2 fp dp ["dice", "some"] spPickS
  bP : Binds K dp ["dice", "some"] []
  kP : PySem.W.keepIn K (.ref fp) = true
  mP : mg "_law_pick" = some (.ref fp)
abbrev abc : Str := "abcdefghijklmnopqrstuvwxyz"
/-- a word: one to eight small letters -/
def WordZ (z : Str) : Prop := 1 ≤ z.length ∧ z.length ≤ 8 ∧ ∀ c ∈ z.cps.toList, c ∈ abc.cps.toList
theorem lo62 {r : Int} (h : 0 ≤ r) : -(2 ^ 62) ≤ r := Int.le_trans (by decide) h
theorem hi62 {r : Int} (h : r ≤ 1000) : r < 2 ^ 62 := Int.lt_of_le_of_lt h (by decide)
theorem add_len {x y : Str} : (x ++ y).length = x.length + y.length := Array.size_append
theorem add_tl {x y : Str} : (x ++ y).cps.toList = x.cps.toList ++ y.cps.toList := Array.toList_append
def spWord : Sp := fun vs H Q _ => ∃ (p L : Addr) (m : Int), vs = [.ref p] ∧ m < 2 ^ 45 ∧ DiceAt H p L m ∧ ∀ z H', WordZ z → But p H H' → DiceAt H' p L (m + 10) → Q (.str z) H'
theorem ok_lword {f fr fp : Addr} {fd dr dp : FuncData} (F : Fun K "_law_word" "_law_word" sWord f fd) (D : Draw P w K mg base fr fp dr dp) (zRange : mg "range" = none) : FnOk P w K mg base CX0 3 f fd ["dice"] spWord := by
  refine F.ok scWord (fun vs H Q E h => ?_) (fun cdv A outer s H vs Q E hr h => ?_)
  · obtain ⟨p, L, m, rfl, _⟩ := h
    rfl
  obtain ⟨p, L, m, rfl, mb, hD, q⟩ := h
  have h1 : Room 1 _ := hr.mono (by decide)
  refine ⟨_, (pss_cons (ps_set (i := 1) scWord.nd rfl (.inl rfl) pe_str)
    (pss_cons (ps_for PassesOwn.never rfl (pi_range1 (by rfl) zRange (pa_cons (pe_call D.Pk hr (by rfl) D.mP D.kP D.bP .nil pass0 (pa_cons (pv 0) (pa_cons (pe_lst (pa_cons pe_int (pa_cons pe_int (pa_cons pe_int (pa_cons pe_int (pa_cons (pe_op op_add pe_int (pe_call D.R h1 (by rfl) D.mR D.kR D.bR .nil pass0 (pa_cons (pv 0) (pa_cons pe_int pa_nil)))) pa_nil)))))) pa_nil))) pa_nil)) (pg_name (i := 2) scWord.nd rfl (.inl rfl)) (pss_one (ps_set (i := 1) scWord.nd rfl (.inl rfl) (pe_op op_add_str (pv 1) (pe_call D.Ps hr (by rfl) D.mP D.kP D.bP .nil pass0 (pa_cons (pv 0) (pa_cons pe_str pa_nil)))))))
    (pss_one (ps_ret (pv 1))))), ?_⟩
  refine ⟨_, rfl, _, rfl, p, L, 8, m, rfl, by decide, by decide, by omega, hD, fun r H1 r0 r1 b1 hD1 => ?_⟩
  refine ⟨_, _, rfl, rfl, (by show 5 ≤ sizeLine; decide), fun l nl => ?_⟩
  have s2 := same_new (o := .lst [.int 1, .int 1, .int 2, .int 8, .int (1 + r)]) nl
  have e2 : upd H1 l (.lst [.int 1, .int 1, .int 2, .int 8, .int (1 + r)]) l = _ := upd_same
  have hD2 := hD1.same s2
  have nlp := hD1.ne nl
  generalize upd H1 l (.lst [.int 1, .int 1, .int 2, .int 8, .int (1 + r)]) = H2 at s2 e2 hD2
  have b2 : But p H H2 := b1.trans (but_same s2)
  refine ⟨p, l, L, _, m + 1, rfl, .inl (.inl e2), nlp, (by show 0 < 5; decide), (by show 5 ≤ 1000; decide), by omega, hD2, fun x mem H3 b3 hD3 => ?_⟩
  obtain ⟨k, rfl, k1, k8⟩ : ∃ k : Int, x = .int k ∧ 1 ≤ k ∧ k ≤ 8 := by
    rcases List.mem_cons.mp mem with e | mem
    · exact ⟨1, e, by decide, by decide⟩
    rcases List.mem_cons.mp mem with e | mem
    · exact ⟨1, e, by decide, by decide⟩
    rcases List.mem_cons.mp mem with e | mem
    · exact ⟨2, e, by decide, by decide⟩
    rcases List.mem_cons.mp mem with e | mem
    · exact ⟨8, e, by decide, by decide⟩
    · exact ⟨1 + r, List.mem_singleton.mp mem, by omega, by omega⟩
  have bb := b2.trans b3
  refine ⟨_, rfl, lo62 (by omega), hi62 (by omega), ?_⟩
  refine for_range (lo := 0) (n := k.toNat) (fun i σ H' => ∃ (z : Str) (y2 : Option V), σ = [some (.ref p), some (.str z), y2] ∧ z.length = i ∧ (∀ c ∈ z.cps.toList, c ∈ abc.cps.toList) ∧ But p H H' ∧ DiceAt H' p L (m + 1 + 1 + (i : Int)))
    ⟨"", none, rfl, by decide +kernel, (fun c hc => by cases hc), bb, hD3.more (by omega)⟩ ?_ ?_
  · rintro i σ X hi ⟨z, y2, rfl, lz, az, bX, hX⟩
    refine ⟨_, rfl, _, rfl, p, L, abc, _, rfl, by decide +kernel, by decide +kernel, (by omega), hX, fun c hc Y bY hY => ?_⟩
    have l1 : (⟨#[c]⟩ : Str).length = 1 := rfl
    refine ⟨z, ⟨#[c]⟩, rfl, rfl, Nat.le_trans (show z.length + (⟨#[c]⟩ : Str).length ≤ 100 by omega) (by decide), _, _, rfl, by rw [add_len, lz, l1], fun c2 hc2 => ?_, bX.trans bY, hY.more (by omega)⟩
    rw [add_tl] at hc2
    rcases List.mem_append.mp hc2 with h | h
    · exact az c2 h
    · rw [List.mem_singleton.mp h]
      exact hc
  · rintro σ X ⟨z, y2, rfl, lz, az, bX, hX⟩
    exact ⟨_, rfl, q z X ⟨by omega, by omega, az⟩ bX (hX.more (by omega))⟩
end
end Kf
set_option Elab.async false
set_option linter.all false
set_option maxRecDepth 100000
set_option maxHeartbeats 4000000
/-! all(a test that reads a name of the module, for each sign of a text). -/
namespace Gx
open PySem PySem.Spec PyProof.Rows L2 GxR
/-- the test of a sign, where the module's names stand as mg says -/
def Test (prog : Program) (w : World) (mg : Str → Option Value) (scope : Scope) (x : Str) (elt : Expr) (pb : Nat → Bool) : Prop :=
  ∀ (ce : Env) (B : Around) (EE : Value → Shared → Prop) (n : Nat) (tk : Tok) (z : Shared) (m : Str → Option Value), ce.scope = scope → ce.globals = mainGlobals → z.heap.Ns mainGlobals mg → z.heap.Ns ce.locals m → m x = some (.str ⟨#[n]⟩ tk) →
    wpAny (model prog w) B (eval elt ce) (fun y z2 => y = .bool (pb n) ∧ Keeps z z2) EE z
/-- sign in LETTERS -/
def among (letters : Str) (n : Nat) : Bool := !(Builtin.Str.occurrences letters ⟨#[n]⟩ 0 letters.length 1).isEmpty
theorem test_in {prog : Program} {w : World} {mg : Str → Option Value} {scope : Scope} {x g letters : Str} {tl : Tok} {p1 p2 p3 : Pos} (hk : scope.kind = .function) (hx : scope.names.lookup x = some .local) (hg : scope.names.lookup g = some .globalImplicit)
    (hv : mg g = some (.str letters tl)) (d1 : (x == ("__debug__" : Str)) = false := by decide) (d2 : (g == ("__debug__" : Str)) = false := by decide) : Test prog w mg scope x (.Compare (.Name x p1) [.In] [.Name g p2] p3) (among letters) := by
  intro ce B EE n tk z m es eg ng nl hm
  have kf : ce.scope.kind = .function := by
    rw [es]
    exact hk
  refine wpAny_Compare1 (wpAny_Name (wpAny_loadName_local kf (show ce.scope.names.lookup x = some .local by rw [es]; exact hx) nl hm ?_) d1)
  refine Calls.Name_function_global kf (show ce.scope.names.lookup g = some .globalImplicit by rw [es]; exact hg) (Calls.loadGlobal_global (by rw [eg]; exact ng) hv ?_) d2
  exact PyProof.Rows.in_str ⟨rfl, keeps_refl z⟩
theorem join3 {C G : Value → Heap → Nat → Prop} {M : Prop} (main : (∀ v h t, C v h t → G v h t) → M) (rest : ∀ v h t, C v h t → G v h t) : M := main rest
section
variable {X : Cx} {pins : List (Addr × Obj)} {σ : L2.St} {H : Hp} {s : Shared}
/-- the module's names stand in every heap that keeps what the base had -/
theorem mod_ns {P : Addr} {h : Heap} (I : Inv X pins σ H s) (far : mainGlobals ≠ P) (k : ∀ b u, b ≠ P → s.heap.get? b = some u → h.get? b = some u) : h.Ns mainGlobals X.mg := by
  obtain ⟨o, es, ep, ho, rest⟩ := I.mod.glob.keeps I.bk
  exact ⟨o, es, ep, k _ _ far ho, rest⟩
theorem gen_ready {c P : Addr} {elt iter : Expr} {x : Str} {px gp : Pos} {scope : Scope} {pb : Nat → Bool} {te : TE} {k : Nat} {Z : Value → Shared → Prop} {R : Str → Hp → Prop} (room : Room k X.A) (tab : TabB X.base X.mg c P) (code : X.env.code = .ref c)
    (own : GenS X.env scope x) (src : PE X iter te) (test : Test X.prog X.w X.mg scope x elt pb) (plain : ∀ v, genFold iter X.env v = pure v) (I : Inv X pins σ H s)
    (h : te σ H fun v H1 => ∃ a : Str, v = .str a ∧ TabG H1 P ∧ R a H1) (done : ∀ a H1 g z, R a H1 → Ready X pins σ H1 P a pb g z → Z (.ref g) z) :
    wpAny (model X.prog X.w) X.A (eval (.GeneratorExp elt [⟨.Name x px, iter, [], 0⟩] scope gp) X.env) Z X.xe s := by
  have deep : X.A.depth < recursionLimit := by
    have := room.dp
    omega
  refine wpAny_GeneratorExp_walksQ room.hd own.co (closure_ok own.free) own.cell own.dot own.loc own.kind deep (thn (src.run pins s σ H _ I h) fun xv s1 ⟨v, H1, I1, r1, a, ev, ⟨ps, hP, trip⟩, r⟩ => ?_) plain
  subst ev
  obtain ⟨ta, rfl⟩ := _root_.id r1
  refine wpAny_pyIter_str fun it St W start => ?_
  have tabAt : s1.heap.get? P = some { cls := .none, data := .fields ps } := I1.hok P _ hP
  have ltP := Heap.lt_size tabAt
  have up : ∀ b u, s1.heap.get? b = some u → (s1.heap.push it).get? b = some u := fun b u e => Heap.get?_push_of_some _ e
  have sz : (s1.heap.push it).objs.size = s1.heap.objs.size + 1 := Heap.size_push ..
  have cod : PySem.W.CodeHd (s1.heap.push it) c P := tab.code.keeps fun b u e => up b u (I1.bk b u e)
  have free := I1.nolimit.push it
  obtain ⟨mcs, nsCs, _⟩ := _root_.id I1.nolimit
  have ltCs : cStatics < s1.heap.objs.size := nsCs.lt
  have farCs : cStatics ≠ P := fun e => by
    obtain ⟨o1, es, ep, ho, hd, _⟩ := nsCs
    rw [e, tabAt] at ho
    cases ho
    cases hd
  refine ⟨free, ?_⟩
  -- whatever code object is taken: the table has grown by some, or not
  apply join3 (C := fun _ h3 _ => ∃ qs : Array Value, Heap.ExtBut P (s1.heap.push it) h3 ∧ (s1.heap.push it).objs.size ≤ h3.objs.size ∧ h3.get? P = some { cls := .none, data := .fields (ps ++ qs) } ∧ TriplesOk (ps ++ qs).toList)
  · intro rest
    have at2 := up P _ tabAt
    cases among : codeAmong gp ps.toList with
    | none =>
      refine wpAny_genexprCodeX code (cod.code at2 trip) (cod.tab at2) among fun c2 h3 t3 ext ge lt isc _ tabs _ => ?_
      have trip3 : TriplesOk (ps ++ #[rawInt gp.line, rawInt gp.col, .ref c2]).toList := by
        obtain ⟨_, _, _, _, _, _, _, _, _, _, _, _, _, _, _, _, _, _, _, tr, _⟩ := isc
        exact tr
      generalize Value.ref c2 = cv at *
      exact rest cv h3 t3 ⟨_, ext, Nat.le_trans ge (Nat.le_of_lt lt), tabs.2, trip3⟩
    | some cv =>
      exact wpAny_genexprCode_hit code (cod.code at2 trip) among (rest cv (s1.heap.push it) s1.toks ⟨#[], Heap.ExtBut.refl _ _, Nat.le_refl _, by rw [Array.append_empty]; exact at2, by rw [Array.append_empty]; exact trip⟩)
  · intro cv h3 t3 ⟨qs, ext, big, at3, trip3⟩
    have keep : ∀ b u, b ≠ P → s1.heap.get? b = some u → h3.get? b = some u := fun b u n e => ext b u n (up b u e)
    obtain ⟨bm, ob, b1, b2, b3, b4, b5, b6, b7, b8⟩ := tab.bm
    refine wpAny_builtinsFor (m := X.mg) (by rw [I1.ok.glob]; exact mod_ns I1 tab.gP keep) b1 b2 (keep _ _ b4 (I1.bk _ _ b5)) b6 b7 b8 ?_
    rw [sz] at big
    refine ⟨s1.heap.objs.size, [s1.heap.objs.size], [s1.heap.objs.size], a.cps.size, SignAt a, St, (fun _ => true), (fun i y => ∃ n, a.cps[i]? = some n ∧ y = .bool (pb n)), rfl, W, ?_, ?_, free.extBut ext farCs, ?_, ?_, ?_⟩
    · refine (W X.A room.hd).frame _ _ _ start fun b hb u e => ext b u ?_ e
      rw [List.mem_singleton.mp hb]
      exact Nat.ne_of_gt ltP
    · intro b hb
      rw [List.mem_singleton.mp hb]
      exact big
    · intro hb
      exact absurd (List.mem_singleton.mp hb) (Nat.ne_of_lt ltCs)
    · intro href old
      refine ⟨fun B EE i v z m _ _ nl hm kz => ?_, fun B EE i v z m _ hv _ nl hm kz => ?_⟩
      · simp only [List.forIn_nil]
        exact wpAny_pure ⟨rfl, keeps_refl z⟩
      · obtain ⟨n, tn, hn, rfl⟩ := hv
        have names : z.heap.Ns mainGlobals X.mg := by
          obtain ⟨o, es, ep, ho, others⟩ := mod_ns I1 tab.gP keep
          have lt := Heap.lt_size ho
          refine ⟨o, es, ep, kz _ (List.mem_range.mpr lt) (fun hb => ?_) o (old _ _ ho), others⟩
          obtain ⟨o1, _, _, ho1, _⟩ := I1.mod.glob.keeps I1.bk
          exact absurd (Heap.lt_size ho1) (by rw [List.mem_singleton.mp hb]; exact Nat.lt_irrefl _)
        exact wpAny_mono (test _ B EE n tn z m rfl I1.ok.glob names nl hm) (fun y z2 q => ⟨⟨n, hn, q.1⟩, q.2⟩) fun _ _ e => e
    · intro g h5 t5 gs bare gt sz5 keep5 walk at5
      simp only [GxR.passing_true, List.length_range] at walk
      refine done a H1 g _ r ⟨_, _, _, _, _, walk.in4_1, at5, fun j y z Y EE hy q => ?_, fun z mv => ?_⟩
      · obtain ⟨i, hij, n, hn, rfl⟩ := hy
        obtain ⟨lt, eij⟩ := List.getElem?_eq_some_iff.mp hij
        rw [List.getElem_range] at eij
        subst eij
        have at1 : a.cps.toList[j]? = some n := by
          rw [Array.getElem?_toList]
          exact hn
        have q2 : Y (trF pb a.cps.toList j) z := q
        rw [trF_some at1] at q2
        exact wpAny_truthy_bool q2
      · have away : ∀ b u, s1.heap.get? b = some u → b ∉ [h3.objs.size, s1.heap.objs.size] := fun b u e hb => by
          have lt := Heap.lt_size e
          rcases List.mem_cons.mp hb with z | z
          · rw [z] at lt
            exact absurd (Nat.lt_of_lt_of_le lt (Nat.le_succ _)) (Nat.not_lt_of_le big)
          · rw [List.mem_singleton.mp z] at lt
            exact Nat.lt_irrefl _ lt
        have J := inv_tab (more := qs) (h' := z.heap) (g' := z.gens) (d' := z.drawn) (t' := z.toks) I1 hP (fun b u n e => mv.heap b u (away b u e) (keep5 b u (keep b u n e)))
          (mv.heap P _ (away P _ tabAt) (keep5 P _ at3)) (AllBare.movedS (I1.bare.push bare) mv)
        rw [sh_eta s1 z mv.os] at J
        exact ⟨upd H1 P (.tbl (ps ++ qs)), ⟨⟨ps ++ qs, upd_same, trip3⟩, fun b hb => upd_ne hb⟩, J⟩
theorem pe_allG {c P : Addr} {elt iter : Expr} {x : Str} {px p pos gp : Pos} {scope : Scope} {pb : Nat → Bool} {te : TE} {k : Nat} (room : Room k X.A) (hg : Gl X "all") (hm : X.mg "all" = none) (hb : bootBuiltins "all" = some (.builtin "all"))
    (tab : TabB X.base X.mg c P) (code : X.env.code = .ref c) (own : GenS X.env scope x) (src : PE X iter te) (test : Test X.prog X.w X.mg scope x elt pb) (plain : ∀ v, genFold iter X.env v = pure v)
    (one : starEach [.GeneratorExp elt [⟨.Name x px, iter, [], 0⟩] scope gp] X.env = (false, eval (.GeneratorExp elt [⟨.Name x px, iter, [], 0⟩] scope gp) X.env) :: starEach [] X.env := by rfl) :
    PE X (.Call (.Name "all" p) [.GeneratorExp elt [⟨.Name x px, iter, [], 0⟩] scope gp] [] pos) (tAllS P pb te) := by
  refine ⟨fun pins s σ H Q I h => wpAny_Call_Name_kw (ld_blt I hg hm hb (PyProof.Rows.callWith_builtin1 ?_ one (by rfl)))⟩
  rw [one]
  show wpAny _ _ (spliced ((false, eval (.GeneratorExp elt [⟨.Name x px, iter, [], 0⟩] scope gp) X.env) :: backTo pos (starEach [] X.env))) _ _ s
  refine Calls.spliced_cons (gen_ready (R := fun a H1 => ∀ H2, Tabbed P H1 H2 → Q (.bl (a.cps.toList.all pb)) H2) room tab code own src test plain I h fun a H1 g z r ⟨fp, wr, G, F, Sg, W, begun, truth, inv⟩ => Calls.spliced_nil ?_)
  refine call_all_walkS (W.self 0 _ _ _ begun ⟨g, fp, wr, G, _, F, Sg, _, rfl, W, begun, truth, fun z2 mv => ?_⟩)
  obtain ⟨H2, tb, J⟩ := inv z2 mv
  exact ⟨.bl _, H2, J, rfl, by rw [all_signs a pb]; exact r H2 tb⟩
end
end Gx
set_option Elab.async false
set_option linter.all false
set_option maxRecDepth 100000
set_option maxHeartbeats 8000000
set_option pp.maxSteps 500
/-! in_order: a machine; its reading for any inner_of. -/
namespace Kf
open PySem PySem.Spec PyProof.Rows L2 Sx
theorem tbl_tups {PT : Addr} {H H' : Hp} (h : GxR.TabG H PT) (b : But PT H H') : Tups H H' := fun c xs e => b c _ (fun z => by
  obtain ⟨ps, h1, _⟩ := h
  rw [z, h1] at e
  cases e) e
theorem but_tabbed {PT : Addr} {H H' : Hp} (t : GxR.Tabbed PT H H') : But PT H H' := fun c o n e => by
  rw [t.2 c n]
  exact e
theorem TabG.ne {PT p : Addr} {H : Hp} {o : HO} (h : GxR.TabG H PT) (e : H p = some o) (n : ∀ ps, o ≠ .tbl ps) : p ≠ PT := fun z => by
  obtain ⟨ps, h1, _⟩ := h
  rw [← z, e] at h1
  exact n ps (Option.some.inj h1)
theorem TabG.new {PT p : Addr} {H : Hp} (h : GxR.TabG H PT) (e : H p = none) : PT ≠ p := fun z => by
  obtain ⟨ps, h1, _⟩ := h
  rw [z, e] at h1
  cases h1
theorem TabG.keep {PT p : Addr} {H : Hp} {o : HO} (h : GxR.TabG H PT) (n : PT ≠ p) : GxR.TabG (upd H p o) PT := by
  obtain ⟨ps, h1, h2⟩ := h
  exact ⟨ps, by rw [upd_ne n]; exact h1, h2⟩

/-! ### the machine -/
abbrev Oe := PyData × List Nat × Bool
def kidsE (pl : List Nat) : Nat → List PyData → List Oe
  | _, [] => []
  | i, d :: r => (d, pl ++ [i], false) :: kidsE pl (i + 1) r
def goO (inn : PyData → Option (List PyData)) (mp mw : Nat) : Nat → List Oe → List (PyData × List Nat) → Nat → List (PyData × List Nat) × Option (List Nat)
  | 0, _, _, _ => ([], none)
  | _ + 1, [], rows, _ => (rows, none)
  | m + 1, (d, pl, true) :: st, rows, n => goO inn mp mw m st (rows ++ [(d, pl)]) n
  | m + 1, (d, pl, false) :: st, rows, n => match inn d with
    | none => (rows, some pl)
    | some ds => if mp < n + 1 ∨ mw ≤ pl.length then ([], some []) else goO inn mp mw m (kidsE pl 0 ds ++ (d, pl, true) :: st) rows (n + 1)
def inOrd (inn : PyData → Option (List PyData)) (mp mw : Nat) (d : PyData) : List (PyData × List Nat) × Option (List Nat) := goO inn mp mw (2 * mp + 4) [(d, [], false)] [] 0
def thr : List Oe → Nat
  | [] => 0
  | (_, _, b) :: r => (if b = true then 1 else 0) + thr r
theorem thr_app : ∀ a b : List Oe, thr (a ++ b) = thr a + thr b
  | [], b => (Nat.zero_add _).symm
  | (d, pl, x) :: r, b => by
    show _ + thr (r ++ b) = _ + thr r + thr b
    rw [thr_app r b]
    omega
theorem thr_kids (pl : List Nat) : ∀ (i : Nat) (ds : List PyData), thr (kidsE pl i ds) = 0
  | _, [] => rfl
  | i, d :: r => by
    show (if false = true then 1 else 0) + thr (kidsE pl (i + 1) r) = 0
    rw [thr_kids pl (i + 1) r]
    rfl
theorem kids_len (pl : List Nat) : ∀ (i : Nat) (ds : List PyData), (kidsE pl i ds).length = ds.length
  | _, [] => rfl
  | i, d :: r => congrArg Nat.succ (kids_len pl (i + 1) r)
theorem kids_get (pl : List Nat) : ∀ (i : Nat) (ds : List PyData) (j : Nat), (kidsE pl i ds)[j]? = ds[j]?.map fun d => (d, pl ++ [i + j], false)
  | _, [], _ => by simp [kidsE]
  | i, d :: r, 0 => rfl
  | i, d :: r, j + 1 => by
    show (kidsE pl (i + 1) r)[j]? = r[j]?.map _
    rw [kids_get pl (i + 1) r j, show i + 1 + j = i + (j + 1) by omega]
theorem kids_mem {pl : List Nat} {e : Oe} : ∀ {i : Nat} {ds : List PyData}, e ∈ kidsE pl i ds → e.1 ∈ ds ∧ e.2.1.length = pl.length + 1
  | i, d :: r, h => by
    rcases List.mem_cons.mp h with rfl | h
    · exact ⟨List.mem_cons_self, List.length_append⟩
    · have := kids_mem h
      exact ⟨List.mem_cons_of_mem _ this.1, this.2⟩
/-! ### in the heap -/
def PlAt (K : PySem.W.Frag) (H : Hp) (y : V) (pl : List Nat) : Prop := ∃ a, y = .ref a ∧ SqT K (tups H) a (pl.map fun (n : Nat) => V.int (n : Int))
def RowO (K : PySem.W.Frag) (H0 H : Hp) (e : Oe) (v : V) : Prop := ∃ q x y, v = .ref q ∧ H q = some (.tup [x, y, .bl e.2.2]) ∧ Dp K H0 x e.1 ∧ PlAt K H y e.2.1
def RowP (K : PySem.W.Frag) (H0 H : Hp) (e : PyData × List Nat) (v : V) : Prop := ∃ q x y, v = .ref q ∧ H q = some (.tup [x, y]) ∧ Dp K H0 x e.1 ∧ PlAt K H y e.2
def FaultAt (K : PySem.W.Frag) (H : Hp) (v : V) : Option (List Nat) → Prop
  | none => v = .non
  | some pl => PlAt K H v pl
section
variable {K : PySem.W.Frag} {H0 H H' : Hp}
theorem PlAt.keep {y : V} {pl : List Nat} (h : PlAt K H y pl) (k : Tups H H') : PlAt K H' y pl := by
  obtain ⟨a, e, s⟩ := h
  exact ⟨a, e, sqT_keep k s⟩
theorem RowO.keep (k : Tups H H') (e : Oe) (v : V) (h : RowO K H0 H e v) : RowO K H0 H' e v := by
  obtain ⟨q, x, y, r, hq, hx, hy⟩ := h
  exact ⟨q, x, y, r, k _ _ hq, hx, hy.keep k⟩
theorem RowP.keep (k : Tups H H') (e : PyData × List Nat) (v : V) (h : RowP K H0 H e v) : RowP K H0 H' e v := by
  obtain ⟨q, x, y, r, hq, hx, hy⟩ := h
  exact ⟨q, x, y, r, k _ _ hq, hx, hy.keep k⟩
theorem sqT_of_tups {a : Addr} {xs : List V} (h : SqT K (tups H) a xs) : SqT K H a xs := sqT_up tups_in h
end
/-- is_word's table alone may have grown -/
structure Gen (PT : Addr) (H H' : Hp) : Prop where
  but : But PT H H'
  g : GxR.TabG H' PT
def NoTbl (H H' : Hp) : Prop := ∀ a o, (∀ ps, o ≠ .tbl ps) → H a = some o → H' a = some o
theorem nt_trans {H H1 H2 : Hp} (a : NoTbl H H1) (b : NoTbl H1 H2) : NoTbl H H2 := fun c o n e => b c o n (a c o n e)
theorem nt_same {H H' : Hp} (s : Same H H') : NoTbl H H' := fun c o _ e => s c o e
theorem sqL_nt {K : PySem.W.Frag} {H H' : Hp} {a : Addr} {xs : List V} (b : NoTbl H H') (h : SqL K H a xs) : SqL K H' a xs := by
  rcases h with (h | ⟨o, h⟩) | h
  · exact .inl (.inl (b _ _ (fun ps z => by cases z) h))
  · exact .inl (.inr ⟨o, b _ _ (fun ps z => by cases z) h⟩)
  · exact .inr h
theorem sqT_nt {K : PySem.W.Frag} {H H' : Hp} {a : Addr} {xs : List V} (b : NoTbl H H') (h : SqT K H a xs) : SqT K H' a xs := by
  rcases h with (h | ⟨o, h⟩) | h
  · exact .inl (.inl (b _ _ (fun ps z => by cases z) h))
  · exact .inl (.inr ⟨o, b _ _ (fun ps z => by cases z) h⟩)
  · exact .inr h
mutual
theorem dp_nt {K : PySem.W.Frag} {H H' : Hp} (s : NoTbl H H') : ∀ (d : PyData) (v : V), Dp K H v d → Dp K H' v d
  | .none, _, h => by cases h; exact .non
  | .bool b, _, h => by cases h; exact .bl b
  | .int b, _, h => by cases h; exact .int b
  | .str b, _, h => by cases h; exact .str b
  | .list ds, _, h => by
    cases h with
    | lst h a => exact .lst (sqL_nt s h) (dps_nt s ds _ a)
  | .tuple ds, _, h => by
    cases h with
    | tup h a => exact .tup (sqT_nt s h) (dps_nt s ds _ a)
  | .dict _, _, h => by cases h
theorem dps_nt {K : PySem.W.Frag} {H H' : Hp} (s : NoTbl H H') : ∀ (ds : List PyData) (vs : List V), DpAll K H vs ds → DpAll K H' vs ds
  | [], _, h => by cases h; exact .nil
  | d :: ds, _, h => by
    cases h with
    | cons a b => exact .cons (dp_nt s d _ a) (dps_nt s ds _ b)
end
theorem Gen.refl {PT : Addr} {H : Hp} (g : GxR.TabG H PT) : Gen PT H H := ⟨But.refl _ _, g⟩
theorem Gen.trans {PT : Addr} {H H1 H2 : Hp} (a : Gen PT H H1) (b : Gen PT H1 H2) : Gen PT H H2 := ⟨a.but.trans b.but, b.g⟩
theorem Gen.tups {PT : Addr} {H H' : Hp} (a : Gen PT H H') (g : GxR.TabG H PT) : Tups H H' := tbl_tups g a.but
theorem Gen.lst {PT p : Addr} {H H' : Hp} {xs : List V} (a : Gen PT H H') (g : GxR.TabG H PT) (e : H p = some (.lst xs)) : H' p = some (.lst xs) := a.but _ _ (TabG.ne g e fun ps z => by cases z) e
theorem Gen.nt {PT : Addr} {H H' : Hp} (a : Gen PT H H') (g : GxR.TabG H PT) : NoTbl H H' := fun c o n e => a.but _ _ (TabG.ne g e n) e
theorem Gen.dp {K : PySem.W.Frag} {PT : Addr} {H H' : Hp} (a : Gen PT H H') (g : GxR.TabG H PT) {d : PyData} {v : V} (h : Dp K H v d) : Dp K H' v d := dp_nt (a.nt g) _ _ h
theorem Gen.dps {K : PySem.W.Frag} {PT : Addr} {H H' : Hp} (a : Gen PT H H') (g : GxR.TabG H PT) {ds : List PyData} {vs : List V} (h : DpAll K H vs ds) : DpAll K H' vs ds := dps_nt (a.nt g) _ _ h
theorem Gen.new {PT p : Addr} {H H' : Hp} {o : HO} (a : Gen PT H H') (e : H' p = none) : Gen PT H (upd H' p o) := ⟨a.but.new e, TabG.keep a.g (TabG.new a.g e)⟩
theorem Gen.own {PT p : Addr} {H H' : Hp} {o : HO} {xs : List V} (a : Gen PT H H') (f : H p = none) (e : H' p = some (.lst xs)) : Gen PT H (upd H' p o) := ⟨fun b u n q => by
  rw [upd_ne (ne_of_none q f)]
  exact a.but _ _ n q, TabG.keep a.g (TabG.ne a.g e fun ps z => by cases z).symm⟩
theorem Gen.free {PT p : Addr} {H H' : Hp} (a : Gen PT H H') (g : GxR.TabG H PT) (e : H' p = none) : H p = none := by
  cases h : H p with
  | none => rfl
  | some o =>
    have n : p ≠ PT := fun z => TabG.new a.g e z.symm
    rw [a.but _ _ n h] at e
    cases e
abbrev sInOrder : Stmt := top 15
abbrev inOrderN : List Str := ["thing", "inner_of", "most_pieces", "most_within", "rows", "pieces", "todo", "piece", "place", "is_through", "inner", "at"]
theorem scInOrder : FnScope inOrderN ["thing", "inner_of", "most_pieces", "most_within"] (defScope sInOrder) := ⟨rfl, rfl, rfl, by decide +kernel, rfl, by decide +kernel, by decide +kernel⟩
section
variable {P : Program} {w : World} {K : PySem.W.Frag} {mg : Str → Option Value} {base : Heap}
/-- what the def handed in tells: the parts that are gone into, or None -/
def spInn (K : PySem.W.Frag) (PT : Addr) (Ok : PyData → Prop) (inn : PyData → Option (List PyData)) : Sp := fun vs H Q _ => ∃ (v : V) (d : PyData) (H0 : Hp), vs = [v] ∧ Dp K H0 v d ∧ NoTbl H0 H ∧ GxR.TabG H PT ∧ Ok d ∧
  (inn d = none → ∀ H', Gen PT H H' → Q .non H') ∧ ∀ ds, inn d = some ds → ∀ (l : Addr) (ws : List V) H', Gen PT H H' → H l = none → H' l = some (.lst ws) → DpAll K H0 ws ds → Q (.ref l) H'
/-- what is known of the parts that are gone into -/
structure Inn (Ok : PyData → Prop) (inn : PyData → Option (List PyData)) : Prop where
  few : ∀ {d ds}, inn d = some ds → ds.length ≤ 10
  ok : ∀ {d ds}, Ok d → inn d = some ds → ∀ e ∈ ds, Ok e
def spInOrder (K : PySem.W.Frag) (PT fi : Addr) (Ok : PyData → Prop) (inn : PyData → Option (List PyData)) : Sp := fun vs H Q _ => ∃ (v : V) (d : PyData) (mp mw : Nat) (Hb : Hp), vs = [v, .ref fi, .int (mp : Int), .int (mw : Int)] ∧ NoTbl Hb H ∧ Dp K Hb v d ∧ Ok d ∧ GxR.TabG H PT ∧ mp ≤ 12000 ∧ mw ≤ 250 ∧
  ∀ (p l : Addr) (rs : List V) (fv : V) H', Gen PT H H' → H' p = some (.tup [.ref l, fv]) → H l = none → H' l = some (.lst rs) → All2 (RowP K Hb H') (inOrd inn mp mw d).1 rs → FaultAt K H' fv (inOrd inn mp mw d).2 → Q (.ref p) H'
/-- between two turns -/
structure TurnO (K : PySem.W.Frag) (PT : Addr) (Ok : PyData → Prop) (inn : PyData → Option (List PyData)) (mp mw : Nat) (Hb H H' : Hp) (pr pt : Addr) (R : List (PyData × List Nat) × Option (List Nat)) (m n : Nat) (st : List Oe) (rows : List (PyData × List Nat)) (vr vt : List V) : Prop where
  gen : Gen PT H H'
  lr : H' pr = some (.lst vr)
  lt : H' pt = some (.lst vt)
  rr : All2 (RowP K Hb H') rows vr
  rt : All2 (RowO K Hb H') st.reverse vt
  res : goO inn mp mw m st rows n = R
  fuel : 2 * (mp - n) + thr st + 2 ≤ m
  le : n ≤ mp
  lenS : st.length ≤ 11 * n + 1
  lenR : rows.length + thr st ≤ n
  ok : ∀ e ∈ st, Ok e.1 ∧ e.2.1.length ≤ mw
theorem ok_inorder {f fi PT : Addr} {fd di : FuncData} {Ok : PyData → Prop} {inn : PyData → Option (List PyData)} {k : Nat} (I : Inn Ok inn) (F : Fun K "in_order" "in_order" sInOrder f fd)
    (GI : FnOk P w K mg base CX0 k fi di ["thing"] (spInn K PT Ok inn)) (bI : Binds K di ["thing"] []) (kI : PySem.W.keepIn K (.ref fi) = true) (zLen : mg "len" = none) (zRange : mg "range" = none) :
    FnOk P w K mg base CX0 (k + 1) f fd ["thing", "inner_of", "most_pieces", "most_within"] (spInOrder K PT fi Ok inn) := by
  refine F.ok scInOrder (fun vs H Q E h => ?_) (fun cdv A outer s H vs Q E hr h => ?_)
  · obtain ⟨v, d, mp, mw, Hb, rfl, _⟩ := h
    rfl
  obtain ⟨v, d, mp, mw, Hb, rfl, hb, hd, od, hT, hmp, hmw, q⟩ := h
  have h1 := hr
  refine ⟨_, (pss_cons (ps_set (i := 4) scInOrder.nd rfl (.inl rfl) (pe_lst pa_nil))
    (pss_cons (ps_set (i := 5) scInOrder.nd rfl (.inl rfl) pe_int)
    (pss_cons (ps_set (i := 6) scInOrder.nd rfl (.inl rfl) (pe_lst (pa_cons (pe_tup (pa_cons (pv 0) (pa_cons (pe_tup pa_nil) (pa_cons pe_bl pa_nil)))) pa_nil)))
    (pss_cons (ps_while PassesOwn.never (pt_truth (pv 6) (by intro _; rfl)) (pss_cons (ps_asg (pe_bm0 PySem.F.plainAttrs_list PySem.F.slot_list_pop PySem.F.type_list_pop mt_pop (pv 6)) (pg_tup (by rfl) (pgs_cons (pg_name (i := 7) scInOrder.nd rfl (.inl rfl)) (pgs_cons (pg_name (i := 8) scInOrder.nd rfl (.inl rfl)) (pgs_cons (pg_name (i := 9) scInOrder.nd rfl (.inl rfl)) pgs_nil)))))
    (pss_cons (ps_if (pt_val (pv 9)) (pss_cons (ps_expr (pe_bm PySem.F.plainAttrs_list PySem.F.slot_list_append PySem.F.type_list_append mt_append (pv 4) (pa_cons (pe_tup (pa_cons (pv 7) (pa_cons (pv 8) pa_nil))) pa_nil)))
    (pss_one ps_continue)) pss_nil)
    (pss_cons (ps_set (i := 10) scInOrder.nd rfl (.inl rfl) (pe_callL (i := 1) GI h1 rfl (.inl rfl) kI bI .nil pass0 (pa_cons (pv 7) pa_nil)))
    (pss_cons (ps_if (pt_cmpR op_isN (pv 10) pe_non (nomark _)) (pss_one (ps_ret (pe_tup (pa_cons (pv 4) (pa_cons (pv 8) pa_nil))))) pss_nil)
    (pss_cons (ps_aug (i := 5) scInOrder.nd rfl (.inl rfl) pe_int ip_add)
    (pss_cons (ps_if (PW.pt (pw_or (pt_cmpR op_gt (pv 5) (pv 2) (nomark _)) (pw_or1 (pt_cmpR op_ge (pe_callB call_len_seq (by rfl) zLen PySem.boot_len (pa_cons (pv 8) pa_nil)) (pv 3) (nomark _))))) (pss_one (ps_ret (pe_tup (pa_cons (pe_lst pa_nil) (pa_cons (pe_tup pa_nil) pa_nil))))) pss_nil)
    (pss_cons (ps_expr (pe_bm PySem.F.plainAttrs_list PySem.F.slot_list_append PySem.F.type_list_append mt_append (pv 6) (pa_cons (pe_tup (pa_cons (pv 7) (pa_cons (pv 8) (pa_cons pe_bl pa_nil)))) pa_nil)))
    (pss_one (ps_for PassesOwn.never rfl (pi_range3 (by rfl) zRange (pa_cons (pe_op op_sub (pe_callB call_len_seq (by rfl) zLen PySem.boot_len (pa_cons (pv 10) pa_nil)) pe_int) (pa_cons (pe_un un_neg pe_int) (pa_cons (pe_un un_neg pe_int) pa_nil)))) (pg_name (i := 11) scInOrder.nd rfl (.inl rfl)) (pss_one (ps_expr (pe_bm PySem.F.plainAttrs_list PySem.F.slot_list_append PySem.F.type_list_append mt_append (pv 6) (pa_cons (pe_tup (pa_cons (pe_ix ix_list (pv 10) (pv 11) (fun _ _ => rfl)) (pa_cons (pe_op op_catA (pv 8) (pe_tup (pa_cons (pv 11) pa_nil))) (pa_cons pe_bl pa_nil)))) pa_nil))))))))))))))
    (pss_one (ps_ret (pe_tup (pa_cons (pv 4) (pa_cons pe_non pa_nil))))))))), ?_⟩
  refine ⟨Nat.zero_le _, fun pr nr => ?_⟩
  have s1 := same_new (o := .lst []) nr
  have g1 := (Gen.refl hT).new (o := .lst []) nr
  refine ⟨_, rfl, Nat.zero_le _, fun pe ne => ?_⟩
  have s2 := same_new (o := .tup []) ne
  have g2 := g1.new (o := .tup []) ne
  refine ⟨(by show 3 ≤ sizeLine; decide), fun q0 nq => ?_⟩
  have s3 := same_new (o := .tup [v, .ref pe, .bl false]) nq
  have g3 := g2.new (o := .tup [v, .ref pe, .bl false]) nq
  refine ⟨(by show 1 ≤ sizeLine; decide), fun pt nt => ?_⟩
  have s4 := same_new (o := .lst [.ref q0]) nt
  have g4 := g3.new (o := .lst [.ref q0]) nt
  have lr4 := (s2.trans (s3.trans s4)) _ _ upd_same
  have le4 := (s3.trans s4) _ _ upd_same
  have lq4 := s4 _ _ upd_same
  have lt4 : (upd (upd (upd (upd H pr (.lst [])) pe (.tup [])) q0 (.tup [v, .ref pe, .bl false])) pt (.lst [.ref q0])) pt = some (.lst [.ref q0]) := upd_same
  have ht0 : H pt = none := g3.free hT nt
  have nrt : pr ≠ pt := ne_of_none ((s2.trans s3) _ _ upd_same) nt
  generalize upd (upd (upd (upd H pr (.lst [])) pe (.tup [])) q0 (.tup [v, .ref pe, .bl false])) pt (.lst [.ref q0]) = H4 at g4 lr4 le4 lq4 lt4 ⊢
  clear s1 s2 s3 s4 g1 g2 g3 ne nq nt
  refine ⟨fun m σ H' => ∃ (n : Nat) (st : List Oe) (rows : List (PyData × List Nat)) (vr vt : List V) (y7 y8 y9 y10 y11 : Option V), σ = [some v, some (.ref fi), some (.int (mp : Int)), some (.int (mw : Int)), some (.ref pr), some (.int (n : Int)), some (.ref pt), y7, y8, y9, y10, y11] ∧ TurnO K PT Ok inn mp mw Hb H H' pr pt (inOrd inn mp mw d) m n st rows vr vt,
    ⟨2 * mp + 4, 0, [(d, [], false)], [], [], [.ref q0], none, none, none, none, none, rfl, ⟨g4, lr4, lt4, .nil, .one ⟨q0, v, .ref pe, rfl, lq4, hd, pe, rfl, sqT_tups le4⟩, rfl, by show 2 * (mp - 0) + 0 + 2 ≤ _; omega, Nat.zero_le _, Nat.le_refl _, Nat.le_refl _, fun e he => by rw [List.mem_singleton.mp he]; exact ⟨od, Nat.zero_le _⟩⟩⟩, fun m σ H1 hW => ?_⟩
  obtain ⟨n, st, rows, vr, vt, y7, y8, y9, y10, y11, rfl, W⟩ := hW
  refine ⟨_, rfl, !vt.isEmpty, .inl ⟨vt, .inl (.inl W.lt), rfl⟩, ?_⟩
  have mpos : ∃ m', m = m' + 1 := ⟨m - 1, by have := W.fuel; omega⟩
  obtain ⟨m', rfl⟩ := mpos
  rcases List.eq_nil_or_concat vt with en | ⟨vt0, y, en⟩
  · subst en
    refine iteF ?_
    have es : st = [] := by
      have l := W.rt.len
      rw [List.length_reverse] at l
      exact List.length_eq_zero_iff.mp l
    subst es
    have er := W.res
    refine ⟨_, rfl, (by show 2 ≤ sizeLine; decide), fun p np => ?_⟩
    have sp := same_new (o := .tup [.ref pr, .non]) np
    refine q p pr vr .non _ (W.gen.new np) upd_same nr (sp _ _ W.lr) ?_ ?_
    · rw [← er]
      exact W.rr.mono (RowP.keep (tups_same sp))
    · rw [← er]
      rfl
  rw [List.concat_eq_append] at en
  subst en
  rw [show (!(vt0 ++ [y]).isEmpty) = true by simp]
  refine iteT ?_
  obtain ⟨es0, ⟨d1, pl1, b1⟩, erev, rt0, ⟨q1, x1, z1, rfl, h1, a1, ap1⟩⟩ := W.rt.last
  have est : st = (d1, pl1, b1) :: es0.reverse := by
    have := congrArg List.reverse erev
    rw [List.reverse_reverse, List.reverse_append] at this
    exact this
  subst est
  have bigS : es0.reverse.length + 1 ≤ 11 * n + 1 := W.lenS
  have bigR := W.lenR
  have big0 : vt0.length + 1 = (es0.reverse).length + 1 := by
    have := rt0.len
    rw [List.length_reverse]
    omega
  have nle := W.le
  obtain ⟨od1, pw1⟩ := W.ok _ List.mem_cons_self
  refine ⟨fun σ' H' => ∃ m2, m2 < m' + 1 ∧ ∃ (n : Nat) (st : List Oe) (rows : List (PyData × List Nat)) (vr vt : List V) (y7 y8 y9 y10 y11 : Option V), σ' = [some v, some (.ref fi), some (.int (mp : Int)), some (.int (mw : Int)), some (.ref pr), some (.int (n : Int)), some (.ref pt), y7, y8, y9, y10, y11] ∧ TurnO K PT Ok inn mp mw Hb H H' pr pt (inOrd inn mp mw d) m2 n st rows vr vt,
    fun σ' H' h => h, ?_⟩
  refine ⟨_, rfl, .inl ⟨rfl, _, .inl (.inl W.lt)⟩, pt, _, .ref q1, rfl, rfl, W.lt, by simp, ?_⟩
  rw [List.dropLast_concat]
  have k2 : Tups H1 (upd H1 pt (.lst vt0)) := tups_put fun xs z => by
    rw [W.lt] at z
    cases z
  have g2 : Gen PT H (upd H1 pt (.lst vt0)) := W.gen.own ht0 W.lt
  have lr2 : (upd H1 pt (.lst vt0)) pr = some (.lst vr) := by
    rw [upd_ne nrt]
    exact W.lr
  have lt2 : (upd H1 pt (.lst vt0)) pt = some (.lst vt0) := upd_same
  have rr2 := W.rr.mono (RowP.keep k2)
  have rt2 := rt0.mono (RowO.keep k2)
  have h12 := k2 _ _ h1
  have ap12 := ap1.keep k2
  have er := W.res
  have fu := W.fuel
  generalize upd H1 pt (.lst vt0) = H2 at g2 lr2 lt2 rr2 rt2 h12 ap12 ⊢
  refine ⟨q1, [x1, z1, .bl b1], rfl, .inl (.inl h12), rfl, x1, [z1, .bl b1], rfl, z1, [.bl b1], rfl, .bl b1, [], rfl, rfl, ?_⟩
  cases b1 with
  | true =>
    have er2 : goO inn mp mw m' es0.reverse (rows ++ [(d1, pl1)]) n = inOrd inn mp mw d := er
    have ft : thr ((d1, pl1, true) :: es0.reverse) = 1 + thr es0.reverse := rfl
    refine ⟨_, rfl, true, rfl, iteT ?_⟩
    refine ⟨_, rfl, .inl ⟨rfl, _, .inl (.inl lr2)⟩, _, rfl, _, rfl, (by show 2 ≤ sizeLine; decide), fun q2 nq2 => ?_⟩
    have nrq : pr ≠ q2 := ne_of_none lr2 nq2
    have ntq : pt ≠ q2 := ne_of_none lt2 nq2
    refine ⟨pr, vr, .ref q2, rfl, rfl, (by rw [upd_ne nrq]; exact lr2), few_of' (by have := rr2.len; omega), ?_⟩
    have k3 : Tups H2 (upd (upd H2 q2 (.tup [x1, z1])) pr (.lst (vr ++ [.ref q2]))) := (tups_same (same_new nq2)).trans (tups_put fun xs z => by
      rw [upd_ne nrq, lr2] at z
      cases z)
    refine ⟨m', Nat.lt_succ_self _, n, es0.reverse, rows ++ [(d1, pl1)], vr ++ [.ref q2], vt0, _, _, _, _, _, rfl, ⟨(g2.new nq2).own nr (by rw [upd_ne nrq]; exact lr2), upd_same, ?_, ?_, ?_, er2, by omega, nle, ?_, ?_, fun e he => W.ok e (List.mem_cons_of_mem _ he)⟩⟩
    · rw [upd_ne nrt.symm, upd_ne ntq]
      exact lt2
    · refine (rr2.mono (RowP.keep k3)).app (.one ⟨q2, x1, z1, rfl, ?_, a1, ap12.keep k3⟩)
      rw [upd_ne nrq.symm, upd_same]
    · rw [List.reverse_reverse]
      exact rt2.mono (RowO.keep k3)
    · have : ((d1, pl1, true) :: es0.reverse).length = es0.reverse.length + 1 := rfl
      omega
    · rw [List.length_append]
      show rows.length + 1 + _ ≤ n
      omega
  | false =>
    have ft : thr ((d1, pl1, false) :: es0.reverse) = 0 + thr es0.reverse := rfl
    refine ⟨_, rfl, false, rfl, iteF ?_⟩
    refine ⟨rfl, _, rfl, x1, d1, Hb, rfl, a1, nt_trans hb (g2.nt hT), g2.g, od1, fun en H3 g3 => ?_, fun ds es l ws H3 g3 nl hl dws => ?_⟩
    · refine ⟨_, rfl, rfl, _, rfl, iteT ?_⟩
      have er2 : (rows, some pl1) = inOrd inn mp mw d := by
        rw [← er]
        show _ = (match inn d1 with | none => (rows, some pl1) | some ds => _)
        rw [en]
      refine ⟨_, rfl, _, rfl, (by show 2 ≤ sizeLine; decide), fun p np => ?_⟩
      have sp := same_new (o := .tup [.ref pr, z1]) np
      have k3 := (g3.tups g2.g).trans (tups_same sp)
      refine q p pr vr z1 _ ((g2.trans g3).new np) upd_same nr (sp _ _ (g3.lst g2.g lr2)) ?_ ?_
      · rw [← er2]
        exact rr2.mono (RowP.keep k3)
      · rw [← er2]
        exact ap12.keep k3
    · refine ⟨_, rfl, rfl, _, rfl, ?_⟩
      rw [show decide (V.ref l = V.non) = false from decide_eq_false (fun z => by cases z)]
      refine iteF ?_
      have k3 := g3.tups g2.g
      have lr3 := g3.lst g2.g lr2
      have lt3 := g3.lst g2.g lt2
      have rr3 := rr2.mono (RowP.keep k3)
      have rt3 := rt2.mono (RowO.keep k3)
      have ap13 := ap12.keep k3
      have gg3 := g2.trans g3
      have l0 : H l = none := g2.free hT nl
      have nrl : pr ≠ l := ne_of_none lr2 nl
      have ntl : pt ≠ l := ne_of_none lt2 nl
      have fewd := I.few es
      have lds := dps_len dws
      have er2 : (if mp < n + 1 ∨ mw ≤ pl1.length then ([], some []) else goO inn mp mw m' (kidsE pl1 0 ds ++ (d1, pl1, true) :: es0.reverse) rows (n + 1)) = inOrd inn mp mw d := by
        rw [← er]
        show _ = (match inn d1 with | none => (rows, some pl1) | some ds => _)
        rw [es]
      -- pieces += 1
      refine ⟨_, rfl, _, _, rfl, rfl, ?_⟩
      obtain ⟨ap, eap, sap⟩ := id ap13
      subst eap
      have big : (mp < n + 1 ∨ mw ≤ pl1.length) → ∀ (l2 pe2 p : Addr), H3 l2 = none → (upd H3 l2 (.lst [])) pe2 = none → (upd (upd H3 l2 (.lst [])) pe2 (.tup [])) p = none → Q (.ref p) (upd (upd (upd H3 l2 (.lst [])) pe2 (.tup [])) p (.tup [.ref l2, .ref pe2])) := fun c l2 pe2 p n1 n2 n3 => by
        have t1 := same_new (o := .lst []) n1
        have t2 := same_new (o := .tup []) n2
        have t3 := same_new (o := .tup [.ref l2, .ref pe2]) n3
        rw [if_pos c] at er2
        refine q p l2 [] (.ref pe2) _ (((gg3.new n1).new n2).new n3) upd_same (gg3.free hT n1) ((t2.trans t3) _ _ upd_same) ?_ ?_
        · rw [← er2]
          exact .nil
        · rw [← er2]
          exact ⟨pe2, rfl, sqT_tups (t3 _ _ upd_same)⟩
      refine ⟨_, rfl, _, rfl, _, _, rfl, rfl, _, rfl, ?_⟩
      refine ite2 (fun c1 => ?_) (fun c1 => ?_)
      · have c1' : (mp : Int) < (n : Int) + 1 := of_decide_eq_true c1
        exact iteT ⟨Nat.zero_le _, fun l2 n1 => ⟨Nat.zero_le _, fun pe2 n2 => ⟨(by show 2 ≤ sizeLine; decide), fun p n3 => big (.inl (by omega)) l2 pe2 p n1 n2 n3⟩⟩⟩
      have c1' : ¬ (mp : Int) < (n : Int) + 1 := fun z => c1 (decide_eq_true z)
      refine ⟨_, rfl, ap, _, rfl, .inr (sqT_of_tups sap), _, rfl, _, _, rfl, rfl, _, rfl, ?_⟩
      rw [List.length_map]
      refine ite2 (fun c2 => ?_) (fun c2 => ?_)
      · have c2' : (mw : Int) ≤ (pl1.length : Nat) := of_decide_eq_true c2
        exact ⟨Nat.zero_le _, fun l2 n1 => ⟨Nat.zero_le _, fun pe2 n2 => ⟨(by show 2 ≤ sizeLine; decide), fun p n3 => big (.inr (by omega)) l2 pe2 p n1 n2 n3⟩⟩⟩
      have c2' : ¬ (mw : Int) ≤ (pl1.length : Nat) := fun z => c2 (decide_eq_true z)
      have no : ¬ (mp < n + 1 ∨ mw ≤ pl1.length) := fun z => z.elim (fun z => c1' (by omega)) fun z => c2' (by omega)
      rw [if_neg no] at er2
      -- todo.append((piece, place, True))
      refine ⟨_, rfl, .inl ⟨rfl, _, .inl (.inl lt3)⟩, _, rfl, _, rfl, (by show 3 ≤ sizeLine; decide), fun q2 nq2 => ?_⟩
      have nrq : pr ≠ q2 := ne_of_none lr3 nq2
      have ntq : pt ≠ q2 := ne_of_none lt3 nq2
      have nlq : l ≠ q2 := ne_of_none hl nq2
      have lenT : vt0.length ≤ 11 * n := by omega
      refine ⟨pt, vt0, .ref q2, rfl, rfl, (by rw [upd_ne ntq]; exact lt3), few_of' (by omega), ?_⟩
      have k4 : Tups H3 (upd (upd H3 q2 (.tup [x1, .ref ap, .bl true])) pt (.lst (vt0 ++ [.ref q2]))) := (tups_same (same_new nq2)).trans (tups_put fun xs z => by
        rw [upd_ne ntq, lt3] at z
        cases z)
      have g4 : Gen PT H (upd (upd H3 q2 (.tup [x1, .ref ap, .bl true])) pt (.lst (vt0 ++ [.ref q2]))) := (gg3.new nq2).own ht0 (by rw [upd_ne ntq]; exact lt3)
      have lr4 : (upd (upd H3 q2 (.tup [x1, .ref ap, .bl true])) pt (.lst (vt0 ++ [.ref q2]))) pr = some (.lst vr) := by
        rw [upd_ne nrt, upd_ne nrq]
        exact lr3
      have lt4 : (upd (upd H3 q2 (.tup [x1, .ref ap, .bl true])) pt (.lst (vt0 ++ [.ref q2]))) pt = some (.lst (vt0 ++ [.ref q2])) := upd_same
      have ll4 : (upd (upd H3 q2 (.tup [x1, .ref ap, .bl true])) pt (.lst (vt0 ++ [.ref q2]))) l = some (.lst ws) := by
        rw [upd_ne ntl.symm, upd_ne nlq]
        exact hl
      have hq4 : (upd (upd H3 q2 (.tup [x1, .ref ap, .bl true])) pt (.lst (vt0 ++ [.ref q2]))) q2 = some (.tup [x1, .ref ap, .bl true]) := by
        rw [upd_ne ntq.symm, upd_same]
      have top4 : RowO K Hb _ (d1, pl1, true) (.ref q2) := ⟨q2, x1, .ref ap, rfl, hq4, a1, ap13.keep k4⟩
      have rr4 := rr3.mono (RowP.keep k4)
      have rt4 := (rt3.mono (RowO.keep k4)).app (.one top4)
      have ap4 := ap13.keep k4
      generalize upd (upd H3 q2 (.tup [x1, .ref ap, .bl true])) pt (.lst (vt0 ++ [.ref q2])) = H4 at g4 lr4 lt4 ll4 rr4 rt4 ap4 ⊢
      refine ⟨_, rfl, l, ws, rfl, .inl (.inl (.inl ll4)), _, _, rfl, rfl, ?_⟩
      have rg : RgC ((ws.length : Int) - 1) (-1) (-1) ws.length := by
        have z := RgC.neg (i := (ws.length : Int) - 1) (j := -1) (by omega) (Int.lt_of_le_of_lt (show (ws.length : Int) - 1 ≤ 10 by omega) (by decide)) (by decide) (by decide)
        rw [show ((ws.length : Int) - 1 - -1).toNat = ws.length by omega] at z
        exact z
      refine ⟨_, rfl, _, rfl, _, _, _, ws.length, rfl, rg, ?_⟩
      refine for_rangeC (lo := (ws.length : Int) - 1) (c := -1) (n := ws.length) (fun i σ' H' => ∃ (vt : List V) (y11 : Option V), σ' = [some v, some (.ref fi), some (.int (mp : Int)), some (.int (mw : Int)), some (.ref pr), some (.int ((n : Int) + 1)), some (.ref pt), some x1, some (.ref ap), some (.bl false), some (.ref l), y11] ∧ Gen PT H H' ∧ Tups H4 H' ∧ H' pr = some (.lst vr) ∧ H' pt = some (.lst vt) ∧ H' l = some (.lst ws) ∧ All2 (RowO K Hb H') (es0 ++ [(d1, pl1, true)] ++ (kidsE pl1 0 ds).reverse.take i) vt)
        ⟨_, _, rfl, g4, Tups.refl _, lr4, lt4, ll4, by rw [List.take_zero, List.append_nil]; exact rt4⟩ ?_ ?_
      · rintro i σ' H5 hi ⟨vt, y11, rfl, g5, k5, lr5, lt5, ll5, rt5⟩
        have eat : (ws.length : Int) - 1 + (i : Nat) * (-1) = ((ws.length - 1 - i : Nat) : Int) := by omega
        rw [eat]
        have lt : ws.length - 1 - i < ws.length := by omega
        have lt2 : ws.length - 1 - i < ds.length := by omega
        obtain ⟨dj, hdj, dx⟩ := dps_get dws (List.getElem?_eq_getElem lt)
        have hk : (kidsE pl1 0 ds).reverse[i]? = some (dj, pl1 ++ [ws.length - 1 - i], false) := by
          rw [List.getElem?_reverse (by rw [kids_len]; omega), kids_len, show ds.length - 1 - i = ws.length - 1 - i by omega, kids_get, hdj, Nat.zero_add]
          rfl
        have lv := rt5.len
        rw [List.length_append, List.length_append, List.length_take, List.length_reverse, kids_len, List.length_singleton] at lv
        have le0 : es0.length ≤ 11 * n := by rw [List.length_reverse] at bigS; omega
        have ap5 := ap4.keep k5
        obtain ⟨ap2, eap2, sap5⟩ := ap5
        cases eap2
        refine ⟨_, rfl, .inl ⟨rfl, _, .inl (.inl lt5)⟩, ?_⟩
        refine ⟨_, rfl, _, rfl, l, ws, _, _, rfl, rfl, .inl (.inl ll5), atI_nat (List.getElem?_eq_getElem lt), ?_⟩
        refine ⟨_, rfl, _, rfl, (by show 1 ≤ sizeLine; decide), fun p6 n6 => ?_⟩
        have s6 := same_new (o := .tup [.int ((ws.length - 1 - i : Nat) : Int)]) n6
        have fin : ∀ (pp : Addr) H6, Same H5 H6 → Gen PT H H6 → PlAt K H6 (.ref pp) (pl1 ++ [ws.length - 1 - i]) → ∀ q7, H6 q7 = none → ∃ (vt2 : List V) (y11 : Option V), ([some v, some (.ref fi), some (.int (mp : Int)), some (.int (mw : Int)), some (.ref pr), some (.int ((n : Int) + 1)), some (.ref pt), some x1, some (.ref ap), some (.bl false), some (.ref l), some (.int ((ws.length - 1 - i : Nat) : Int))] : L2.St) = [some v, some (.ref fi), some (.int (mp : Int)), some (.int (mw : Int)), some (.ref pr), some (.int ((n : Int) + 1)), some (.ref pt), some x1, some (.ref ap), some (.bl false), some (.ref l), y11] ∧ Gen PT H (upd (upd H6 q7 (.tup [ws[ws.length - 1 - i], .ref pp, .bl false])) pt (.lst (vt ++ [.ref q7]))) ∧ Tups H4 (upd (upd H6 q7 (.tup [ws[ws.length - 1 - i], .ref pp, .bl false])) pt (.lst (vt ++ [.ref q7]))) ∧ (upd (upd H6 q7 (.tup [ws[ws.length - 1 - i], .ref pp, .bl false])) pt (.lst (vt ++ [.ref q7]))) pr = some (.lst vr) ∧ (upd (upd H6 q7 (.tup [ws[ws.length - 1 - i], .ref pp, .bl false])) pt (.lst (vt ++ [.ref q7]))) pt = some (.lst vt2) ∧ (upd (upd H6 q7 (.tup [ws[ws.length - 1 - i], .ref pp, .bl false])) pt (.lst (vt ++ [.ref q7]))) l = some (.lst ws) ∧ All2 (RowO K Hb (upd (upd H6 q7 (.tup [ws[ws.length - 1 - i], .ref pp, .bl false])) pt (.lst (vt ++ [.ref q7])))) (es0 ++ [(d1, pl1, true)] ++ (kidsE pl1 0 ds).reverse.take (i + 1)) vt2 := by
          intro pp H6 s56 g6 hpp q7 n7
          have lt6 := s56 _ _ lt5
          have nt7 : pt ≠ q7 := ne_of_none lt6 n7
          have k7 : Tups H6 (upd (upd H6 q7 (.tup [ws[ws.length - 1 - i], .ref pp, .bl false])) pt (.lst (vt ++ [.ref q7]))) := (tups_same (same_new n7)).trans (tups_put fun xs z => by
            rw [upd_ne nt7, lt6] at z
            cases z)
          have k57 := (tups_same s56).trans k7
          refine ⟨_, _, rfl, (g6.new n7).own ht0 (by rw [upd_ne nt7]; exact lt6), k5.trans k57, ?_, upd_same, ?_, ?_⟩
          · rw [upd_ne nrt, upd_ne (ne_of_none (s56 _ _ lr5) n7)]
            exact s56 _ _ lr5
          · rw [upd_ne ntl.symm, upd_ne (ne_of_none (s56 _ _ ll5) n7)]
            exact s56 _ _ ll5
          · rw [List.take_add_one, hk, ← List.append_assoc]
            refine (rt5.mono (RowO.keep k57)).app (.one ⟨q7, _, .ref pp, rfl, ?_, dx, hpp.keep k7⟩)
            rw [upd_ne nt7.symm, upd_same]
        have far : vt.length < sizeLine := few_of' (by omega)
        refine ⟨ap, p6, _, [.int ((ws.length - 1 - i : Nat) : Int)], rfl, rfl, sqT_of_tups (sqT_up (tups_le (tups_same s6)) sap5), .inl (.inl upd_same), ?_, fun ez => ?_, fun _ ez => (by cases ez), fun _ _ p8 n8 => ?_⟩
        · rw [List.length_map]
          show pl1.length + 1 ≤ sizeLine
          exact Nat.le_trans (show _ ≤ 1000 by omega) (by decide)
        · have epl : pl1 = [] := List.map_eq_nil_iff.mp ez
          refine ⟨(by show 3 ≤ sizeLine; decide), fun q7 n7 => ?_⟩
          have g6 := g5.new (o := .tup [.int ((ws.length - 1 - i : Nat) : Int)]) n6
          have hpp : PlAt K (upd H5 p6 (.tup [.int ((ws.length - 1 - i : Nat) : Int)])) (.ref p6) (pl1 ++ [ws.length - 1 - i]) := ⟨p6, rfl, by rw [epl]; exact sqT_tups upd_same⟩
          have lt6 := s6 _ _ lt5
          exact ⟨pt, vt, .ref q7, rfl, rfl, (by rw [upd_ne (ne_of_none lt6 n7)]; exact lt6), far, fin p6 _ s6 g6 hpp q7 n7⟩
        · refine ⟨(by show 3 ≤ sizeLine; decide), fun q7 n7 => ?_⟩
          have g6 := (g5.new (o := .tup [.int ((ws.length - 1 - i : Nat) : Int)]) n6).new (o := .tup (pl1.map (fun (n : Nat) => V.int (n : Int)) ++ [.int ((ws.length - 1 - i : Nat) : Int)])) n8
          have s8 := same_put (o := .tup (pl1.map (fun (n : Nat) => V.int (n : Int)) ++ [.int ((ws.length - 1 - i : Nat) : Int)])) s6 n8
          have lt6 := s8 _ _ lt5
          exact ⟨pt, vt, .ref q7, rfl, rfl, (by rw [upd_ne (ne_of_none lt6 n7)]; exact lt6), far, fin p8 _ s8 g6 ⟨p8, rfl, by rw [List.map_append]; exact sqT_tups upd_same⟩ q7 n7⟩
      · rintro σ' H5 ⟨vt, y11, rfl, g5, k5, lr5, lt5, ll5, rt5⟩
        refine ⟨m', Nat.lt_succ_self _, n + 1, kidsE pl1 0 ds ++ (d1, pl1, true) :: es0.reverse, rows, vr, vt, _, _, _, _, _, rfl, ⟨g5, lr5, lt5, rr4.mono (RowP.keep k5), ?_, er2, ?_, by omega, ?_, ?_, ?_⟩⟩
        · have e0 : (kidsE pl1 0 ds).reverse.take ws.length = (kidsE pl1 0 ds).reverse := List.take_of_length_le (by rw [List.length_reverse, kids_len]; omega)
          rw [e0] at rt5
          rw [List.reverse_append, List.reverse_cons, List.reverse_reverse]
          exact rt5
        · rw [thr_app, thr_kids]
          show 2 * (mp - (n + 1)) + (0 + (1 + thr es0.reverse)) + 2 ≤ m'
          omega
        · rw [List.length_append, kids_len]
          show ds.length + (es0.reverse.length + 1) ≤ _
          omega
        · rw [thr_app, thr_kids]
          show rows.length + (0 + (1 + thr es0.reverse)) ≤ n + 1
          omega
        · intro e he
          rcases List.mem_append.mp he with he | he
          · obtain ⟨z1, z2⟩ := kids_mem he
            exact ⟨I.ok od1 es _ z1, by omega⟩
          · rcases List.mem_cons.mp he with rfl | he
            · exact ⟨od1, pw1⟩
            · exact W.ok e (List.mem_cons_of_mem _ he)
end
end Kf
set_option Elab.async false
set_option linter.all false
set_option maxRecDepth 100000
set_option maxHeartbeats 8000000
set_option pp.maxSteps 1200
/-! k20: has_form. -/
namespace Kf
open PySem PySem.Spec PyProof.Rows L2 Sx
abbrev sForm : Stmt := top 11
theorem scForm : FnScope ["piece"] ["piece"] (defScope sForm) := ⟨rfl, rfl, rfl, by decide +kernel, rfl, by decide +kernel, by decide +kernel⟩
def none1 : PyData := .tuple [.str "none"]
def num1 : PyData := .tuple [.str "number"]
/-- whether a piece has the form of a kind -/
def form : PyData → Bool
  | .tuple [x] => [none1, num1].any fun z => PyData.eqv z (.tuple [x])
  | .tuple [.str w, a, b] => (decide (w = "pair") || (decide (w = "from") || decide (w = "either"))) && (decide (w = "either") || !(PyData.eqv a none1 || (PyData.eqv b none1 || false)))
  | _ => false
theorem form_no {x a b : PyData} (h : isS x = false) : form (.tuple [x, a, b]) = false := by
  cases x with
  | str _ => cases h
  | _ => rfl
theorem eqv_str (w z : Str) : PyData.eqv (.str w) (.str z) = decide (z = w) := by
  show (w == z) = _
  by_cases e : z = w
  · subst e
    simp
  · rw [decide_eq_false e]
    exact beq_eq_false_iff_ne.mpr fun y => e y.symm
section
variable {P : Program} {w : World} {K : PySem.W.Frag} {mg : Str → Option Value} {base : Heap}
/-- the module's tuples -/
structure Tx (K : PySem.W.Frag) (mg : Str → Option Value) (NO NU PA : Addr) : Prop where
  mO : mg "NONE" = some (.ref NO)
  mU : mg "NUMBER" = some (.ref NU)
  mP : mg "PAIRED" = some (.ref PA)
  tO : ∀ H, SqT K H NO [.str "none"]
  tU : ∀ H, SqT K H NU [.str "number"]
  tP : ∀ H, SqT K H PA [.str "pair", .str "from", .str "either"]
  zIs : mg "isinstance" = none
  zTuple : mg "tuple" = none
  zLen : mg "len" = none
def spForm (K : PySem.W.Frag) : Sp := fun vs H Q _ => ∃ (v : V) (d : PyData), vs = [v] ∧ Dp K H v d ∧ d.canLay0 = true ∧ d.depth ≤ 120 ∧ ∀ H', Same H H' → Q (.bl (form d)) H'
theorem ok_form {f NO NU PA : Addr} {fd : FuncData} {j : Nat} (F : Fun K "has_form" "has_form" sForm f fd) (T : Tx K mg NO NU PA) : FnOk P w K mg base CX0 (j + 1) f fd ["piece"] (spForm K) := by
  refine F.ok scForm (fun vs H Q E h => ?_) (fun cdv A outer s H vs Q E hr h => ?_)
  · obtain ⟨v, d, rfl, _⟩ := h
    rfl
  obtain ⟨v, d, rfl, hd, lay, dd, q⟩ := h
  have u1 : (A.deeper (envOfC "has_form" (defScope sForm) s.heap.objs.size f cdv)).units + 130 < cLine := by
    have := hr.un
    omega
  refine ⟨_, pss_cons (ps_if (pt_not (pt_val (pe_callB call_isi (by rfl) T.zIs (by decide +kernel) (pa_cons (pv 0) (pa_cons (pe_bltn (v := .ty "tuple") (by rfl) T.zTuple (by decide +kernel) rfl) pa_nil))))) (pss_one (ps_ret pe_bl)) pss_nil)
    (pss_cons (ps_if (pt_cmpR op_eq (pe_callB call_len_seq (by rfl) T.zLen PySem.boot_len (pa_cons (pv 0) pa_nil)) pe_int (nomark _)) (pss_one (ps_ret (pe_cmpR (op_inW u1) (pv 0) (pe_tup (pa_cons (pe_glob (v := .ref NO) (by rfl) T.mO rfl) (pa_cons (pe_glob (v := .ref NU) (by rfl) T.mU rfl) pa_nil))) (by rfl)))) pss_nil)
    (pss_cons (ps_if (PW.pt (pw_or (pt_cmpR op_ne (pe_callB call_len_seq (by rfl) T.zLen PySem.boot_len (pa_cons (pv 0) pa_nil)) pe_int (nomark _)) (pw_or1 (pt_cmpR (op_notInW u1) (pe_ix ix_tup (pv 0) pe_int (fun _ _ => rfl)) (pe_glob (v := .ref PA) (by rfl) T.mP rfl) (by rfl))))) (pss_one (ps_ret pe_bl)) pss_nil)
    (pss_one (ps_ret (pe_or (pe_cmpR (op_eqW u1) (pe_ix ix_tup (pv 0) pe_int (fun _ _ => rfl)) pe_str (nomark _)) (pe_one (pe_cmpR (op_notInW u1) (pe_glob (v := .ref NO) (by rfl) T.mO rfl) (pv 0) (by rfl)))))))), ?_⟩
  refine ⟨_, rfl, _, _, _, _, isTu d, rfl, .ty "tuple", dp_ty hd, kit_tu d, _, rfl, ?_⟩
  have q0 := q H fun _ _ e => e
  cases ht : isTu d with
  | false =>
    have e : form d = false := by
      cases d with
      | tuple _ => cases ht
      | _ => rfl
    rw [e] at q0
    exact iteT q0
  | true =>
    obtain ⟨ds, rfl⟩ : ∃ ds, d = .tuple ds := by
      cases d with
      | tuple ds => exact ⟨ds, rfl⟩
      | _ => cases ht
    cases hd with
    | @tup a xs _ hs ha =>
    have hl := dps_len ha
    refine iteF ⟨_, rfl, a, xs, rfl, .inr hs, rfl, _, rfl, ?_⟩
    have dO : ∀ H', Dp K H' (.ref NO) none1 := fun H' => .tup (T.tO H') (.cons (.str _) .nil)
    have dU : ∀ H', Dp K H' (.ref NU) num1 := fun H' => .tup (T.tU H') (.cons (.str _) .nil)
    cases ha with
    | nil => exact iteF ⟨_, rfl, a, _, rfl, .inr hs, rfl, _, rfl, iteT q0⟩
    | @cons x vs d0 dr hx hr =>
    cases hr with
    | nil =>
      refine iteT ⟨_, rfl, (by show 2 ≤ sizeLine; decide), fun q3 n3 => ?_⟩
      have s3 := same_new (o := .tup [.ref NO, .ref NU]) n3
      refine ⟨.tuple [d0], [none1, num1], .tup (sqT_up s3 hs) (.cons (dp_up s3 _ _ hx) .nil), .tup (.inl (.inl upd_same)) (.cons (dO _) (.cons (dU _) .nil)), lay, (by decide +kernel), Nat.le_trans (Nat.min_le_right _ _) dd, ?_⟩
      exact q _ s3
    | @cons y vs2 d1 dr2 hy hr2 =>
    cases hr2 with
    | nil => exact iteF ⟨_, rfl, a, _, rfl, .inr hs, rfl, _, rfl, iteT (by
        have e : form (.tuple [d0, d1]) = false := by cases d0 <;> rfl
        rw [e] at q0
        exact q0)⟩
    | @cons z vs3 d2 dr3 hz hr3 =>
    cases hr3 with
    | nil =>
      have l3 : (d0.canLay0 && (d1.canLay0 && (d2.canLay0 && true))) = true := lay
      have m3 : max d0.depth (max d1.depth (max d2.depth 0)) + 1 ≤ 120 := dd
      have l0 : d0.canLay0 = true := by
        cases hl0 : d0.canLay0 with
        | true => rfl
        | false => rw [hl0] at l3; exact (Bool.false_ne_true l3).elim
      refine iteF ⟨_, rfl, a, _, rfl, .inr hs, rfl, _, rfl, iteF ?_⟩
      refine ⟨_, rfl, a, _, 0, _, rfl, rfl, hs, head_at _ _, d0, [.str "pair", .str "from", .str "either"], hx, .tup (T.tP H) (.cons (.str _) (.cons (.str _) (.cons (.str _) .nil))), l0, (by decide +kernel), Nat.le_trans (Nat.min_le_right _ _) (by omega), _, rfl, ?_⟩
      cases hS : isS d0 with
      | false =>
        have e : ([PyData.str "pair", .str "from", .str "either"].any fun z => PyData.eqv z d0) = false := by
          cases d0 with
          | str _ => cases hS
          | _ => rfl
        rw [e]
        rw [form_no hS] at q0
        exact iteT q0
      | true =>
        obtain ⟨wd, rfl⟩ : ∃ w, d0 = .str w := by
          cases d0 with
          | str w => exact ⟨w, rfl⟩
          | _ => cases hS
        have e : ([PyData.str "pair", .str "from", .str "either"].any fun z => PyData.eqv z (.str wd)) = (decide (wd = "pair") || (decide (wd = "from") || decide (wd = "either"))) := by
          show (PyData.eqv (.str "pair") (.str wd) || (PyData.eqv (.str "from") (.str wd) || (PyData.eqv (.str "either") (.str wd) || false))) = _
          rw [eqv_str, eqv_str, eqv_str, Bool.or_false]
        rw [e]
        have ef : form (.tuple [.str wd, d1, d2]) = ((decide (wd = "pair") || (decide (wd = "from") || decide (wd = "either"))) && (decide (wd = "either") || !(PyData.eqv d1 none1 || (PyData.eqv d2 none1 || false)))) := rfl
        rw [ef] at q0
        cases hP : (decide (wd = "pair") || (decide (wd = "from") || decide (wd = "either"))) with
        | false =>
          rw [hP] at q0
          exact iteT q0
        | true =>
          rw [hP] at q0
          refine iteF ⟨_, rfl, a, _, 0, _, rfl, rfl, hs, head_at _ _, PyData.str wd, PyData.str "either", hx, .str _, l0, (by decide +kernel), Nat.zero_le _, _, rfl, ?_⟩
          rw [eqv_str, show decide (Str.ofString "either" = wd) = decide (wd = "either") from decide_eq_decide.mpr ⟨fun y => y.symm, fun y => y.symm⟩]
          cases hE : decide (wd = "either") with
          | true =>
            rw [hE] at q0
            exact iteT q0
          | false =>
            rw [hE] at q0
            refine iteF ⟨_, rfl, none1, [.str wd, d1, d2], dO H, .tup hs (.cons hx (.cons hy (.cons hz .nil))), (by decide +kernel), lay, Nat.le_trans (Nat.min_le_right _ _) (by decide), ?_⟩
            exact q0
    | @cons u vs4 d3 dr4 hu hr4 =>
      have e : form (.tuple (d0 :: d1 :: d2 :: d3 :: dr4)) = false := by cases d0 <;> rfl
      rw [e] at q0
      rw [show decide (V.int (((x :: y :: z :: u :: vs4).length : Nat) : Int) = V.int 1) = false from decide_eq_false (fun e2 => by injection e2 with e2; simp only [List.length_cons] at e2; omega)]
      refine iteF ⟨_, rfl, a, _, rfl, .inr hs, rfl, _, rfl, ?_⟩
      rw [show (!decide (V.int (((x :: y :: z :: u :: vs4).length : Nat) : Int) = V.int 3)) = true by
        rw [decide_eq_false (fun e2 => by injection e2 with e2; simp only [List.length_cons] at e2; omega)]
        rfl]
      exact iteT q0
end
end Kf
set_option Elab.async false
set_option linter.all false
set_option maxRecDepth 100000
set_option maxHeartbeats 4000000
set_option pp.maxSteps 1200
/-! k20: what a kind is, of data. -/
namespace Kf
open PySem PySem.Spec PyProof.Rows L2 Sx
def kn : PyData → Bool
  | .tuple [x] => form (.tuple [x])
  | .tuple [w, a, b] => form (.tuple [w, a, b]) && (kn a && kn b)
  | _ => false
mutual
/-- texts and tuples alone -/
def pur : PyData → Bool
  | .str _ => true
  | .tuple ds => purs ds
  | _ => false
def purs : List PyData → Bool
  | [] => true
  | d :: ds => pur d && purs ds
end
mutual
theorem pur_eq : ∀ a b : PyData, pur a = true → PyData.eqv a b = true → a = b
  | .str w, b, _, e => by
    cases b with
    | str z =>
      rw [eqv_str] at e
      rw [of_decide_eq_true e]
    | _ => exact (Bool.false_ne_true e).elim
  | .tuple ds, b, p, e => by
    cases b with
    | tuple es => rw [purs_eq ds es p e]
    | _ => exact (Bool.false_ne_true e).elim
  | .none, _, p, _ => (Bool.false_ne_true p).elim
  | .bool _, _, p, _ => (Bool.false_ne_true p).elim
  | .int _, _, p, _ => (Bool.false_ne_true p).elim
  | .list _, _, p, _ => (Bool.false_ne_true p).elim
  | .dict _, _, p, _ => (Bool.false_ne_true p).elim
theorem purs_eq : ∀ as bs : List PyData, purs as = true → PyData.eqvAll as bs = true → as = bs
  | [], [], _, _ => rfl
  | [], _ :: _, _, e => (Bool.false_ne_true e).elim
  | _ :: _, [], _, e => (Bool.false_ne_true e).elim
  | a :: as, b :: bs, p, e => by
    have p2 : (pur a && purs as) = true := p
    have e2 : (PyData.eqv a b && PyData.eqvAll as bs) = true := e
    rw [Bool.and_eq_true] at p2 e2
    rw [pur_eq a b p2.1 e2.1, purs_eq as bs p2.2 e2.2]
end
theorem form_one {x : PyData} (h : form (.tuple [x]) = true) : ∃ w, x = .str w := by
  cases x with
  | str w => exact ⟨w, rfl⟩
  | _ => exact (Bool.false_ne_true h).elim
theorem form_three {x a b : PyData} (h : form (.tuple [x, a, b]) = true) : ∃ w, x = .str w := by
  cases x with
  | str w => exact ⟨w, rfl⟩
  | _ => exact (Bool.false_ne_true h).elim
theorem kn_pur : ∀ d : PyData, kn d = true → pur d = true
  | .tuple [x], h => by
    have h2 : form (.tuple [x]) = true := by
      rw [kn] at h
      exact h
    obtain ⟨w, rfl⟩ := form_one h2
    rfl
  | .tuple [x, a, b], h => by
    rw [kn, Bool.and_eq_true, Bool.and_eq_true] at h
    obtain ⟨w, rfl⟩ := form_three h.1
    have pa := kn_pur a h.2.1
    have pb := kn_pur b h.2.2
    show (true && (pur a && (pur b && true))) = true
    rw [pa, pb]
    rfl
  | .tuple [], h => by
    simp [kn] at h
  | .tuple [_, _], h => by
    simp [kn] at h
  | .tuple (_ :: _ :: _ :: _ :: _), h => by
    simp [kn] at h
  | .none, h => by simp [kn] at h
  | .bool _, h => by simp [kn] at h
  | .int _, h => by simp [kn] at h
  | .str _, h => by simp [kn] at h
  | .list _, h => by simp [kn] at h
  | .dict _, h => by simp [kn] at h
/-- where the one is a kind, what is like it is one, too -/
theorem kn_like {a b : PyData} : (kn a && (PyData.eqv a b || kn b)) = (kn a && kn b) := by
  cases h : kn a with
  | false => rfl
  | true =>
    cases e : PyData.eqv a b with
    | false => rfl
    | true =>
      rw [← pur_eq a b (kn_pur a h) e, h]
      rfl
theorem kn_form {d : PyData} (h : form d = false) : kn d = false := by
  match d, h with
  | .tuple [x], h => rw [kn]; exact h
  | .tuple [x, a, b], h => rw [kn, h]; rfl
  | .tuple [], _ => simp [kn]
  | .tuple [_, _], _ => simp [kn]
  | .tuple (_ :: _ :: _ :: _ :: _), _ => simp [kn]
  | .none, _ => simp [kn]
  | .bool _, _ => simp [kn]
  | .int _, _ => simp [kn]
  | .str _, _ => simp [kn]
  | .list _, _ => simp [kn]
  | .dict _, _ => simp [kn]
end Kf
set_option Elab.async false
set_option linter.all false
set_option maxRecDepth 100000
set_option maxHeartbeats 8000000
set_option pp.maxSteps 1200
/-! k20: is_kind. -/
namespace Kf
open PySem PySem.Spec PyProof.Rows L2 Sx
abbrev sIsKind : Stmt := top 12
abbrev isN : List Str := ["thing", "todo", "piece", "within", "is_half_through"]
theorem scIsKind : FnScope isN ["thing"] (defScope sIsKind) := ⟨rfl, rfl, rfl, by decide +kernel, rfl, by decide +kernel, by decide +kernel⟩
structure En where
  d : PyData
  n : Nat
  h : Bool
def En.c (e : En) : Bool := if e.h then (match e.d with | .tuple [_, a, b] => PyData.eqv a b || kn b | _ => false) else kn e.d
def En.mu (e : En) : Nat := if e.h then (match e.d with | .tuple [_, _, b] => 2 * psz b + 1 | _ => 1) else 2 * psz e.d
theorem En.mu_pos (e : En) : 1 ≤ e.mu := by
  unfold En.mu
  split
  · split
    · exact Nat.le_add_left _ _
    · exact Nat.le_refl _
  · have := psz_pos e.d
    omega
def sumK (es : List En) : Nat := (es.map En.mu).sum
theorem sumK_app (es fs : List En) : sumK (es ++ fs) = sumK es + sumK fs := by
  unfold sumK
  rw [List.map_append, List.sum_append]
theorem sumK_one (e : En) : sumK [e] = e.mu := by
  unfold sumK
  simp
theorem sumK_len : ∀ es : List En, es.length ≤ sumK es
  | [] => Nat.zero_le _
  | e :: es => by
    have h := sumK_len es
    have p := e.mu_pos
    show es.length + 1 ≤ e.mu + sumK es
    omega
theorem all_snoc {α : Type} {f : α → Bool} {es : List α} {e : α} : (es ++ [e]).all f = (es.all f && f e) := by
  rw [List.all_append]
  simp
def En.fit (e : En) : Prop := e.d.canLay0 = true ∧ e.n + e.d.depth ≤ 101 ∧ (e.h = true → ∃ w a b, e.d = .tuple [w, a, b])
section
variable {P : Program} {w : World} {K : PySem.W.Frag} {mg : Str → Option Value} {base : Heap}
def RowK (K : PySem.W.Frag) (H0 H : Hp) (e : En) (v : V) : Prop := ∃ q x, v = .ref q ∧ H q = some (.tup [x, .int (e.n : Int), .bl e.h]) ∧ Dp K H0 x e.d
theorem RowK.keep {H0 H H' : Hp} (k : Tups H H') (e : En) (v : V) (h : RowK K H0 H e v) : RowK K H0 H' e v := by
  obtain ⟨q, x, e1, e2, a⟩ := h
  exact ⟨q, x, e1, k _ _ e2, a⟩
structure TurnK (K : PySem.W.Frag) (H0 H : Hp) (T : Addr) (R : Bool) (m : Nat) (es : List En) (vt : List V) : Prop where
  sm : Same H0 H
  lt : H T = some (.lst vt)
  rt : All2 (RowK K H0 H) es vt
  ok : ∀ e ∈ es, e.fit
  res : es.all En.c = R
  few : sumK es ≤ 2000000
  m : m = sumK es
def spIsKind (K : PySem.W.Frag) : Sp := fun vs H Q _ => ∃ (v : V) (d : PyData), vs = [v] ∧ Dp K H v d ∧ d.canLay0 = true ∧ d.depth ≤ 100 ∧ psz d ≤ 1000000 ∧ ∀ H', Same H H' → Q (.bl (kn d)) H'
structure PendK (K : PySem.W.Frag) (H0 X : Hp) (pt : Addr) (es : List En) (vt : List V) : Prop where
  sm : Same H0 X
  lt : X pt = some (.lst vt)
  rt : All2 (RowK K H0 X) es vt
theorem PendK.tup {H0 X : Hp} {pt : Addr} {es : List En} {vt : List V} (I : PendK K H0 X pt es vt) {q : Addr} {xs : List V} (nq : X q = none) : PendK K H0 (upd X q (.tup xs)) pt es vt := by
  refine ⟨same_put I.sm nq, ?_, I.rt.mono (RowK.keep (tups_same (same_new nq)))⟩
  rw [upd_ne (ne_of_none I.lt nq)]
  exact I.lt
theorem PendK.push {H0 X : Hp} {pt : Addr} {es : List En} {vt : List V} (I : PendK K H0 X pt es vt) (nf : H0 pt = none) {q : Addr} {x : V} {e : En} (hq : X q = some (.tup [x, .int (e.n : Int), .bl e.h])) (a : Dp K H0 x e.d) :
    PendK K H0 (upd X pt (.lst (vt ++ [.ref q]))) pt (es ++ [e]) (vt ++ [.ref q]) := by
  have k : Tups X (upd X pt (.lst (vt ++ [.ref q]))) := tups_put fun xs z => by
    rw [I.lt] at z
    cases z
  refine ⟨fun b o h => ?_, upd_same, (I.rt.mono (RowK.keep k)).app (.one ⟨q, x, rfl, k _ _ hq, a⟩)⟩
  rw [upd_ne (ne_of_none h nf)]
  exact I.sm _ _ h
theorem form_is {d : PyData} (h : form d = true) : (∃ x, d = .tuple [x]) ∨ ∃ w a b, d = .tuple [w, a, b] := by
  match d, h with
  | .tuple [x], _ => exact .inl ⟨x, rfl⟩
  | .tuple [w, a, b], _ => exact .inr ⟨w, a, b, rfl⟩
  | .tuple [], h => exact (Bool.false_ne_true h).elim
  | .tuple [a, a2], h =>
    have e : form (.tuple [a, a2]) = false := by cases a <;> rfl
    rw [e] at h
    cases h
  | .tuple (a :: b :: c :: d :: e), h =>
    have z : form (.tuple (a :: b :: c :: d :: e)) = false := by cases a <;> rfl
    rw [z] at h
    cases h
  | .none, h => exact (Bool.false_ne_true h).elim
  | .bool _, h => exact (Bool.false_ne_true h).elim
  | .int _, h => exact (Bool.false_ne_true h).elim
  | .str _, h => exact (Bool.false_ne_true h).elim
  | .list _, h => exact (Bool.false_ne_true h).elim
  | .dict _, h => exact (Bool.false_ne_true h).elim
theorem three {H : Hp} {v : V} {w a b : PyData} (h : Dp K H v (.tuple [w, a, b])) : ∃ p xw xa xb, v = .ref p ∧ SqT K H p [xw, xa, xb] ∧ Dp K H xw w ∧ Dp K H xa a ∧ Dp K H xb b := by
  cases h with
  | @tup p xs _ hs ha =>
  cases ha with
  | @cons x vs _ _ hx hr =>
  cases hr with
  | @cons y vs2 _ _ hy hr2 =>
  cases hr2 with
  | @cons z vs3 _ _ hz hr3 =>
  cases hr3
  exact ⟨p, x, y, z, rfl, hs, hx, hy, hz⟩
theorem lay3 {w a b : PyData} (h : (PyData.tuple [w, a, b]).canLay0 = true) : a.canLay0 = true ∧ b.canLay0 = true := by
  have h2 : (w.canLay0 && (a.canLay0 && (b.canLay0 && true))) = true := h
  rw [Bool.and_eq_true, Bool.and_eq_true, Bool.and_eq_true] at h2
  exact ⟨h2.2.1, h2.2.2.1⟩
theorem dep3 {w a b : PyData} : a.depth + 1 ≤ (PyData.tuple [w, a, b]).depth ∧ b.depth + 1 ≤ (PyData.tuple [w, a, b]).depth := by
  have e : (PyData.tuple [w, a, b]).depth = max w.depth (max a.depth (max b.depth 0)) + 1 := rfl
  rw [e]
  omega
theorem dep_or (d : PyData) : 0 ≤ d.depth := Nat.zero_le _
theorem form_flat {d : PyData} (h : d.depth = 0) : form d = false := by
  cases d with
  | tuple ds =>
    have e : (PyData.tuple ds).depth = PyData.depthAll ds + 1 := rfl
    omega
  | _ => rfl
theorem ok_iskind {f g NO NU PA : Addr} {fd gd : FuncData} {tk : Tok} (F : Fun K "is_kind" "is_kind" sIsKind f fd) (T : Tx K mg NO NU PA) (mM : mg "MOST_WITHIN_kinds" = some (.int 100 tk))
    (G : FnOk P w K mg base CX0 1 g gd ["piece"] (spForm K)) (bG : L2.Binds K gd ["piece"] []) (kG : PySem.W.keepIn K (.ref g) = true) (mG : mg "has_form" = some (.ref g)) : FnOk P w K mg base CX0 2 f fd ["thing"] (spIsKind K) := by
  refine F.ok scIsKind (fun vs H Q E h => ?_) (fun cdv A outer s H vs Q E hr h => ?_)
  · obtain ⟨v, d, rfl, _⟩ := h
    rfl
  obtain ⟨v, d, rfl, hd, lay, dd, sz, q⟩ := h
  have h1 : Room 1 _ := hr.mono (by decide)
  have u1 : (A.deeper (envOfC "is_kind" (defScope sIsKind) s.heap.objs.size f cdv)).units + 130 < cLine := by
    have := hr.un
    omega
  refine ⟨_, pss_cons (ps_set (i := 1) scIsKind.nd rfl (.inl rfl) (pe_lst (pa_cons (pe_tup (pa_cons (pv 0) (pa_cons pe_int (pa_cons pe_bl pa_nil)))) pa_nil)))
    (pss_cons (ps_while PassesOwn.never (pt_truth (pv 1) (by intro _; rfl))
      (pss_cons (ps_asg (pe_bm0 PySem.F.plainAttrs_list PySem.F.slot_list_pop PySem.F.type_list_pop mt_pop (pv 1)) (pg_tup (by rfl) (pgs_cons (pg_name (i := 2) scIsKind.nd rfl (.inl rfl)) (pgs_cons (pg_name (i := 3) scIsKind.nd rfl (.inl rfl)) (pgs_cons (pg_name (i := 4) scIsKind.nd rfl (.inl rfl)) pgs_nil)))))
      (pss_one (ps_if (pt_val (pv 4))
        (pss_one (ps_if (pt_cmpR (op_neW u1) (pe_ix ix_tup (pv 2) pe_int (fun _ _ => rfl)) (pe_ix ix_tup (pv 2) pe_int (fun _ _ => rfl)) (nomark _))
          (pss_one (ps_expr (pe_bm PySem.F.plainAttrs_list PySem.F.slot_list_append PySem.F.type_list_append mt_append (pv 1) (pa_cons (pe_tup (pa_cons (pe_ix ix_tup (pv 2) pe_int (fun _ _ => rfl)) (pa_cons (pe_op op_add (pv 3) pe_int) (pa_cons pe_bl pa_nil)))) pa_nil)))) pss_nil))
        (pss_one (ps_if (PW.pt (pw_or (pt_cmpR op_gt (pv 3) (pe_glob (v := .int 100) (by rfl) mM ⟨_, rfl⟩) (nomark _)) (pw_or1 (pt_not (pt_val (pe_call G h1 (by rfl) mG kG bG .nil pass0 (pa_cons (pv 2) pa_nil)))))))
          (pss_one (ps_ret pe_bl))
          (pss_one (ps_if (pt_cmpR op_eq (pe_callB call_len_seq (by rfl) T.zLen PySem.boot_len (pa_cons (pv 2) pa_nil)) pe_int (nomark _))
            (pss_cons (ps_expr (pe_bm PySem.F.plainAttrs_list PySem.F.slot_list_append PySem.F.type_list_append mt_append (pv 1) (pa_cons (pe_tup (pa_cons (pv 2) (pa_cons (pv 3) (pa_cons pe_bl pa_nil)))) pa_nil)))
            (pss_one (ps_expr (pe_bm PySem.F.plainAttrs_list PySem.F.slot_list_append PySem.F.type_list_append mt_append (pv 1) (pa_cons (pe_tup (pa_cons (pe_ix ix_tup (pv 2) pe_int (fun _ _ => rfl)) (pa_cons (pe_op op_add (pv 3) pe_int) (pa_cons pe_bl pa_nil)))) pa_nil))))) pss_nil))))))))
    (pss_one (ps_ret pe_bl))), ?_⟩
  refine ⟨_, rfl, (by show 3 ≤ sizeLine; decide), fun q0 nq => ?_⟩
  refine ⟨(by show 1 ≤ sizeLine; decide), fun pt nt => ?_⟩
  have s1 : Same H (upd H q0 (.tup [v, .int 1, .bl false])) := same_new nq
  have s2 := same_put (o := .lst [.ref q0]) s1 nt
  have fresh : H pt = none := s1.free nt
  have nqt : q0 ≠ pt := fun z => by
    rw [← z, upd_same] at nt
    cases nt
  refine ⟨fun m σ H' => ∃ (es : List En) (vt : List V) (y2 y3 y4 : Option V), σ = [some v, some (.ref pt), y2, y3, y4] ∧ TurnK K H H' pt (kn d) m es vt,
    ⟨_, [⟨d, 1, false⟩], [.ref q0], none, none, none, rfl, ⟨s2, upd_same, .one ⟨q0, v, rfl, ?_, hd⟩, fun e he => by rw [List.mem_singleton.mp he]; exact ⟨lay, (by show 1 + d.depth ≤ 101; omega), fun z => by cases z⟩, (by show (kn d && true) = kn d; rw [Bool.and_true]), (by rw [sumK_one]; show 2 * psz d ≤ 2000000; omega), rfl⟩⟩, fun m σ H1 hI => ?_⟩
  · rw [upd_ne nqt, upd_same]
    rfl
  obtain ⟨es, vt, y2, y3, y4, rfl, W0⟩ := hI
  refine ⟨_, rfl, !vt.isEmpty, .inl ⟨vt, .inl (.inl W0.lt), rfl⟩, ?_⟩
  rcases List.eq_nil_or_concat vt with en | ⟨vt0, y, en⟩
  · subst en
    refine iteF ?_
    have ee : es = [] := List.length_eq_zero_iff.mp W0.rt.len
    subst ee
    have r := q H1 W0.sm
    rw [← W0.res] at r
    exact r
  · rw [List.concat_eq_append] at en
    subst en
    rw [show (!(vt0 ++ [y]).isEmpty) = true by simp]
    refine iteT ?_
    obtain ⟨es1, ⟨d1, n1, b1⟩, rfl, rt0, ⟨q1, x1, rfl, hq1, dp1⟩⟩ := W0.rt.last
    obtain ⟨lay1, dep1, half1⟩ := W0.ok ⟨d1, n1, b1⟩ (List.mem_append.mpr (.inr (List.mem_singleton.mpr rfl)))
    have res := W0.res
    rw [all_snoc] at res
    have few := W0.few
    rw [sumK_app, sumK_one] at few
    have em := W0.m
    rw [sumK_app, sumK_one] at em
    have sp := En.mu_pos ⟨d1, n1, b1⟩
    refine ⟨fun σ' H' => ∃ m', m' < m ∧ ∃ (es : List En) (vt : List V) (y2 y3 y4 : Option V), σ' = [some v, some (.ref pt), y2, y3, y4] ∧ TurnK K H H' pt (kn d) m' es vt,
      fun σ' H' h => h, ?_⟩
    refine ⟨_, rfl, .inl ⟨rfl, _, .inl (.inl W0.lt)⟩, pt, _, .ref q1, rfl, rfl, W0.lt, by simp, ?_⟩
    rw [List.dropLast_concat]
    have k2 : Tups H1 (upd H1 pt (.lst vt0)) := tups_put fun xs z => by
      rw [W0.lt] at z
      cases z
    have S2 : Same H (upd H1 pt (.lst vt0)) := fun a o e => by
      rw [upd_ne (ne_of_none e fresh)]
      exact W0.sm _ _ e
    have lt2 : (upd H1 pt (.lst vt0)) pt = some (.lst vt0) := upd_same
    have hq2 := k2 _ _ hq1
    have rt2 := rt0.mono (RowK.keep k2)
    have okr : ∀ e ∈ es1, e.fit := fun e he => W0.ok e (List.mem_append.mpr (.inl he))
    generalize upd H1 pt (.lst vt0) = H2 at k2 S2 lt2 hq2 rt2
    refine ⟨q1, [x1, .int (n1 : Int), .bl b1], rfl, .inl (.inl hq2), rfl, x1, _, rfl, .int (n1 : Int), _, rfl, .bl b1, [], rfl, rfl, ?_⟩
    have dp2 := dp_up S2 _ _ dp1
    have bnd : vt0.length + 2 ≤ sizeLine := by
      have l1 := rt2.len
      have l2 := sumK_len es1
      exact Nat.le_trans (m := 2000002) (by omega) (by decide)
    have pend : PendK K H H2 pt es1 vt0 := ⟨S2, lt2, rt2⟩
    cases b1 with
    | true =>
      obtain ⟨dw, da, db, ed⟩ := half1 rfl
      have ed' : d1 = .tuple [dw, da, db] := ed
      subst ed'
      obtain ⟨a, xw, xa, xb, rfl, hs, hw, ha, hb⟩ := three dp1
      have hs2 := sqT_up S2 hs
      have mu1 : En.mu ⟨.tuple [dw, da, db], n1, true⟩ = 2 * psz db + 1 := rfl
      have c1 : En.c ⟨.tuple [dw, da, db], n1, true⟩ = (PyData.eqv da db || kn db) := rfl
      rw [mu1] at few em
      rw [c1] at res
      obtain ⟨la, lb⟩ := lay3 lay1
      obtain ⟨ea, eb⟩ := dep3 (w := dw) (a := da) (b := db)
      have dep : n1 + (PyData.tuple [dw, da, db]).depth ≤ 101 := dep1
      refine ⟨_, rfl, _, rfl, ?_⟩
      refine iteT ⟨_, rfl, a, _, 1, _, rfl, rfl, hs2, atI_nat (j := 1) rfl, _, rfl, a, _, 2, _, rfl, rfl, hs2, atI_nat (j := 2) rfl, da, db, dp_up S2 _ _ ha, dp_up S2 _ _ hb, la, lb, by omega, _, rfl, ?_⟩
      cases hE : PyData.eqv da db with
      | true =>
        rw [hE, Bool.true_or, Bool.and_true] at res
        exact iteF ⟨sumK es1, by omega, es1, vt0, _, _, _, rfl, ⟨S2, lt2, rt2, okr, res, by omega, rfl⟩⟩
      | false =>
        rw [hE, Bool.false_or] at res
        refine iteT ?_
        refine ⟨_, rfl, .inl ⟨rfl, _, .inl (.inl lt2)⟩, _, rfl, a, _, 2, _, rfl, rfl, hs2, atI_nat (j := 2) rfl, _, rfl, _, _, rfl, rfl, (by show 3 ≤ sizeLine; decide), fun q3 nq3 => ?_⟩
        have I1 := pend.tup (xs := [xb, .int ((n1 : Int) + 1), .bl false]) nq3
        refine ⟨pt, vt0, .ref q3, rfl, rfl, I1.lt, Nat.lt_of_lt_of_le (by omega) bnd, ?_⟩
        have I2 := I1.push (e := ⟨db, n1 + 1, false⟩) fresh upd_same hb
        refine ⟨sumK (es1 ++ [⟨db, n1 + 1, false⟩]), ?_, _, _, _, _, _, rfl, ⟨I2.sm, I2.lt, I2.rt, fun e he => ?_, ?_, ?_, rfl⟩⟩
        · rw [sumK_app, sumK_one]
          show sumK es1 + 2 * psz db < m
          omega
        · rcases List.mem_append.mp he with he | he
          · exact okr e he
          · rw [List.mem_singleton.mp he]
            exact ⟨lb, (by show n1 + 1 + db.depth ≤ 101; omega), fun z => by cases z⟩
        · rw [all_snoc]
          exact res
        · rw [sumK_app, sumK_one]
          show sumK es1 + 2 * psz db ≤ 2000000
          omega
    | false =>
      have mu1 : En.mu ⟨d1, n1, false⟩ = 2 * psz d1 := rfl
      have c1 : En.c ⟨d1, n1, false⟩ = kn d1 := rfl
      rw [mu1] at few em
      rw [c1] at res
      have dep : n1 + d1.depth ≤ 101 := dep1
      have pd := dep_or d1
      refine ⟨_, rfl, _, rfl, ?_⟩
      refine iteF ⟨_, rfl, _, _, rfl, rfl, _, rfl, ?_⟩
      refine ite2 (fun c => ?_) (fun c => ?_)
      · have z : (n1 : Int) > 100 := of_decide_eq_true c
        have z0 : d1.depth = 0 := by omega
        have r := q H2 S2
        rw [← res, kn_form (form_flat z0), Bool.and_false] at r
        exact iteT r
      refine ⟨_, rfl, x1, d1, rfl, dp2, lay1, by omega, fun H3 s3 => ⟨_, rfl, ?_⟩⟩
      have S3 := S2.trans s3
      have pend3 : PendK K H H3 pt es1 vt0 := ⟨S3, s3 _ _ lt2, rt2.mono (RowK.keep (tups_same s3))⟩
      cases hf : form d1 with
      | false =>
        have r := q H3 S3
        rw [← res, kn_form hf, Bool.and_false] at r
        exact iteT r
      | true =>
        refine iteF ?_
        rcases form_is hf with ⟨x, ex⟩ | ⟨dw, da, db, ex⟩
        · subst ex
          cases dp1 with
          | @tup a xs _ hs ha =>
          cases ha with
          | @cons vx _ _ _ hx hr =>
          cases hr
          rw [show kn (.tuple [x]) = form (.tuple [x]) by rw [kn], hf, Bool.and_true] at res
          refine ⟨_, rfl, a, _, rfl, .inr (sqT_up S3 hs), rfl, _, rfl, iteF ?_⟩
          have p1 := psz_pos (.tuple [x])
          exact ⟨sumK es1, by omega, es1, vt0, _, _, _, rfl, ⟨S3, pend3.lt, pend3.rt, okr, res, by omega, rfl⟩⟩
        · subst ex
          obtain ⟨a, xw, xa, xb, rfl, hs, hw, ha, hb⟩ := three dp1
          have hs3 := sqT_up S3 hs
          obtain ⟨la, lb⟩ := lay3 lay1
          obtain ⟨ea, eb⟩ := dep3 (w := dw) (a := da) (b := db)
          have szs : psz (.tuple [dw, da, db]) = 1 + (psz dw + (psz da + (psz db + 0))) := rfl
          have pw := psz_pos dw
          rw [show kn (.tuple [dw, da, db]) = (form (.tuple [dw, da, db]) && (kn da && kn db)) by rw [kn], hf, Bool.true_and] at res
          refine ⟨_, rfl, a, _, rfl, .inr hs3, rfl, _, rfl, iteT ?_⟩
          refine ⟨_, rfl, .inl ⟨rfl, _, .inl (.inl pend3.lt)⟩, _, rfl, _, rfl, (by show 3 ≤ sizeLine; decide), fun q3 nq3 => ?_⟩
          have I1 := pend3.tup (xs := [.ref a, .int (n1 : Int), .bl true]) nq3
          refine ⟨pt, vt0, .ref q3, rfl, rfl, I1.lt, Nat.lt_of_lt_of_le (by omega) bnd, ?_⟩
          have I2 := I1.push (e := ⟨.tuple [dw, da, db], n1, true⟩) fresh upd_same (by show Dp K H (.ref a) (.tuple [dw, da, db]); exact .tup hs (.cons hw (.cons ha (.cons hb .nil))))
          generalize upd (upd H3 q3 (.tup [.ref a, .int (n1 : Int), .bl true])) pt (.lst (vt0 ++ [.ref q3])) = X2 at I2
          have hs4 := sqT_up I2.sm hs
          refine ⟨_, rfl, .inl ⟨rfl, _, .inl (.inl I2.lt)⟩, _, rfl, a, _, 1, _, rfl, rfl, hs4, atI_nat (j := 1) rfl, _, rfl, _, _, rfl, rfl, (by show 3 ≤ sizeLine; decide), fun q4 nq4 => ?_⟩
          have I3 := I2.tup (xs := [xa, .int ((n1 : Int) + 1), .bl false]) nq4
          refine ⟨pt, _, .ref q4, rfl, rfl, I3.lt, Nat.lt_of_lt_of_le (by rw [List.length_append, List.length_singleton]; omega) bnd, ?_⟩
          have I4 := I3.push (e := ⟨da, n1 + 1, false⟩) fresh upd_same ha
          have m1 : En.mu ⟨.tuple [dw, da, db], n1, true⟩ = 2 * psz db + 1 := rfl
          have m2 : En.mu ⟨da, n1 + 1, false⟩ = 2 * psz da := rfl
          refine ⟨_, ?_, _, _, _, _, _, rfl, ⟨I4.sm, I4.lt, I4.rt, fun e he => ?_, ?_, ?_, rfl⟩⟩
          · rw [sumK_app, sumK_app, sumK_one, sumK_one, m1, m2]
            omega
          · rcases List.mem_append.mp he with he | he
            · rcases List.mem_append.mp he with he | he
              · exact okr e he
              · rw [List.mem_singleton.mp he]
                exact ⟨lay1, dep1, fun _ => ⟨dw, da, db, rfl⟩⟩
            · rw [List.mem_singleton.mp he]
              exact ⟨la, (by show n1 + 1 + da.depth ≤ 101; omega), fun z => by cases z⟩
          · rw [all_snoc, all_snoc]
            show ((es1.all En.c && (PyData.eqv da db || kn db)) && kn da) = kn d
            rw [Bool.and_assoc, Bool.and_comm (PyData.eqv da db || kn db), kn_like]
            exact res
          · rw [sumK_app, sumK_app, sumK_one, sumK_one, m1, m2]
            omega
end
end Kf
set_option Elab.async false
set_option linter.all false
set_option maxRecDepth 100000
set_option maxHeartbeats 4000000
set_option pp.maxSteps 600
/-! is_whole, is_word of anything. -/
namespace Kf
open PySem PySem.Spec PyProof.Rows L2 Sx
abbrev sWhole : Stmt := top 21
abbrev sWordQ : Stmt := top 22
theorem scWhole : FnScope ["thing"] ["thing"] (defScope sWhole) := ⟨rfl, rfl, rfl, by decide +kernel, rfl, by decide +kernel, by decide +kernel⟩
theorem scWordQ : FnScope ["thing"] ["thing"] (defScope sWordQ) := ⟨rfl, rfl, rfl, by decide +kernel, rfl, by decide +kernel, by decide +kernel⟩
def wordD : PyData → Bool
  | .str z => (decide ((1 : Int) ≤ ((z.length : Nat) : Int)) && decide (((z.length : Nat) : Int) ≤ 8)) && z.cps.toList.all (Gx.among abc)
  | _ => false
/-- what the top has -/
structure TxW (mg : Str → Option Value) : Prop where
  letters : ∃ t, mg "LETTERS" = some (.str abc t)
  most : ∃ t, mg "MOST_LETTERS" = some (.int 8 t)
  zIs : mg "isinstance" = none
  zInt : mg "int" = none
  zBool : mg "bool" = none
  zStr : mg "str" = none
  zLen : mg "len" = none
  zAll : mg "all" = none
section
variable {P : Program} {w : World} {K : PySem.W.Frag} {mg : Str → Option Value} {base : Heap}
def wholeD (d : PyData) : Bool := isI d && !isB d
def spWhole (K : PySem.W.Frag) : Sp := fun vs H Q _ => ∃ (v : V) (d : PyData), vs = [v] ∧ Dp K H v d ∧ Q (.bl (wholeD d)) H
theorem ok_whole {f : Addr} {fd : FuncData} {j : Nat} (F : Fun K "is_whole" "is_whole" sWhole f fd) (T : TxW mg) : FnOk P w K mg base CX0 (j + 1) f fd ["thing"] (spWhole K) := by
  refine F.ok scWhole (fun vs H Q E h => ?_) (fun cdv A outer s H vs Q E hr h => ?_)
  · obtain ⟨v, d, rfl, _⟩ := h
    rfl
  obtain ⟨v, d, rfl, hd, q⟩ := h
  refine ⟨_, pss_one (ps_ret (pe_and (pe_callB call_isi (by rfl) T.zIs (by decide +kernel) (pa_cons (pv 0) (pa_cons (pe_bltn (v := .ty "int") (by rfl) T.zInt (by decide +kernel) rfl) pa_nil)))
    (pe_one (pe_not (pe_callB call_isi (by rfl) T.zIs (by decide +kernel) (pa_cons (pv 0) (pa_cons (pe_bltn (v := .ty "bool") (by rfl) T.zBool (by decide +kernel) rfl) pa_nil))))))), ?_⟩
  refine ⟨_, rfl, _, _, _, _, isI d, rfl, .ty "int", dp_ty hd, kit_i d, _, rfl, ?_⟩
  unfold wholeD at q
  cases hi : isI d with
  | false =>
    rw [hi] at q
    exact iteF q
  | true =>
    rw [hi] at q
    refine iteT ⟨_, rfl, _, _, _, _, isB d, rfl, .ty "bool", dp_ty hd, kit_b d, _, rfl, ?_⟩
    exact q
/-! ### is_word -/
def spWordQ (K : PySem.W.Frag) (PT : Addr) : Sp := fun vs H Q _ => ∃ (v : V) (d : PyData), vs = [v] ∧ Dp K H v d ∧ ats d = true ∧ GxR.TabG H PT ∧ ∀ H', GxR.Tabbed PT H H' → Q (.bl (wordD d)) H'
theorem genS {env : Env} {sc : Scope} {x : Str} (h1 : sc.kind = .function) (h2 : sc.isCoroutine = false) (h3 : sc.names.all (fun y => decide (y.2 ≠ .cell) && decide (y.2 ≠ .free)) = true) (h4 : sc.names.lookup (".0" : Str) = some NameKind.local) (h5 : sc.names.lookup x = some .local) : GxR.GenS env sc x := by
  have all := List.all_eq_true.mp h3
  refine ⟨h1, h2, fun y hy => ?_, h4, h5, fun y hy e => ?_⟩
  · have q := all y hy
    rw [Bool.and_eq_true, decide_eq_true_eq, decide_eq_true_eq] at q
    exact q.1
  · have q := all y hy
    rw [Bool.and_eq_true, decide_eq_true_eq, decide_eq_true_eq] at q
    exact absurd e q.2
theorem tabbed_refl {PT : Addr} {H : Hp} (h : GxR.TabG H PT) : GxR.Tabbed PT H H := ⟨h, fun _ _ => rfl⟩
theorem str_len {z : Str} (h : ats (.str z) = true) : z.length ≤ 10 := by
  have h2 : (z.cps.all (· < 0x110000) && decide (z.length ≤ 10)) = true := h
  rw [Bool.and_eq_true] at h2
  exact of_decide_eq_true h2.2
theorem ok_word {f c PT : Addr} {oc kV dc pm ct : Value} {od an : Option Addr} {osl : Array (Option Value)} {j : Nat}
    (lk : K.lookup f = some ⟨oc, od, .func (PySem.W.fnOf "is_word" "is_word" (defArgs sWordQ) (defBody sWordQ) (defScope sWordQ) .none kV dc pm an (.ref c) ct), osl⟩) (hcd : PySem.W.codeIn K (.ref c) "is_word" = true) (T : TxW mg) (tab : GxR.TabB base mg c PT) :
    FnOk P w K mg base CX0 (j + 2) f (PySem.W.fnOf "is_word" "is_word" (defArgs sWordQ) (defBody sWordQ) (defScope sWordQ) .none kV dc pm an (.ref c) ct) ["thing"] (spWordQ K PT) := by
  obtain ⟨tl, mLt⟩ := T.letters
  obtain ⟨tm, mM⟩ := T.most
  refine fn_of lk hcd scWordQ (fun vs H Q E h => ?_) fun A outer s H vs Q E hr h => ?_
  · obtain ⟨v, d, rfl, _⟩ := h
    rfl
  obtain ⟨v, d, rfl, hd, at_, hT, q⟩ := h
  refine ⟨_, pss_cons (ps_if (PW.pt (pw_or (pt_not (pt_val (pe_callB call_isi (by rfl) T.zIs (by decide +kernel) (pa_cons (pv 0) (pa_cons (pe_bltn (v := .ty "str") (by rfl) T.zStr (by decide +kernel) rfl) pa_nil)))))
      (pw_or1 (pt_not (pt_chain op_le op_le pe_int (pe_callB call_len_str (by rfl) T.zLen PySem.boot_len (pa_cons (pv 0) pa_nil)) (pe_glob (v := .int 8) (by rfl) mM ⟨_, rfl⟩)))))) (pss_one (ps_ret pe_bl)) pss_nil)
    (pss_one (ps_ret (Gx.pe_allG hr (by rfl) T.zAll (by decide +kernel) tab rfl (genS rfl rfl (by decide +kernel) (by decide +kernel) (by decide +kernel)) (pv 0) (Gx.test_in rfl (by decide +kernel) (by decide +kernel) mLt) (fun _ => rfl)))), ?_⟩
  refine ⟨_, rfl, _, _, _, _, isS d, rfl, .ty "str", dp_ty hd, kit_s d, _, rfl, ?_⟩
  have q0 := q H (tabbed_refl hT)
  cases hs : isS d with
  | false =>
    have e : wordD d = false := by
      cases d with
      | str _ => cases hs
      | _ => rfl
    rw [e] at q0
    exact iteT q0
  | true =>
    obtain ⟨z, rfl⟩ : ∃ z, d = .str z := by
      cases d with
      | str z => exact ⟨z, rfl⟩
      | _ => cases hs
    cases hd
    refine iteF ?_
    have ln := str_len at_
    refine ⟨_, rfl, _, rfl, Nat.le_trans ln (by decide), _, _, rfl, rfl, _, rfl, ?_⟩
    have ew : wordD (.str z) = ((decide ((1 : Int) ≤ ((z.length : Nat) : Int)) && decide (((z.length : Nat) : Int) ≤ 8)) && z.cps.toList.all (Gx.among abc)) := rfl
    rw [ew] at q0 q
    cases h1 : decide ((1 : Int) ≤ ((z.length : Nat) : Int)) with
    | false =>
      rw [h1] at q0
      exact iteF ⟨_, rfl, iteT q0⟩
    | true =>
      rw [h1] at q0 q
      refine iteT ⟨_, _, rfl, rfl, _, rfl, ?_⟩
      cases h2 : decide (((z.length : Nat) : Int) ≤ 8) with
      | false =>
        rw [h2] at q0
        exact iteT q0
      | true =>
        rw [h2] at q
        exact iteF ⟨_, rfl, _, rfl, hT, fun H2 tb => q H2 tb⟩
end
end Kf
set_option Elab.async false
set_option linter.all false
set_option maxRecDepth 100000
set_option maxHeartbeats 4000000
set_option pp.maxSteps 500
/-! is_part, programs_of, inner_of. -/
namespace Kf
open PySem PySem.Spec PyProof.Rows L2 Sx RZ
theorem lc_zipT {K : PySem.W.Frag} {a b : Addr} {xs ys : List V} {g : TG} {tt : TT} {te : TE} {vs : List Nat} {σ : L2.St} {H1 : Hp} {D : Addr} {Qd : Hp → Prop} (hl : xs.length = ys.length) (Pv : Nat → Hp → Prop) (h0 : Pv 0 (upd H1 D (.lst []))) (hq : ∀ i H, Pv i H → SqT K H a xs ∧ SqT K H b ys)
    (hs : ∀ i x y T H, xs[i]? = some x → ys[i]? = some y → Pv i H → H T = none → g (.ref T) (wipe σ vs) (upd H T (.tup [x, y])) fun σ2 H2 => wipe σ2 vs = wipe σ vs ∧ tt σ2 H2 fun b H3 =>
      if b = true then te σ2 H3 fun y H4 => ∃ acc, H4 D = some (.lst acc) ∧ acc.length < sizeLine ∧ Pv (i + 1) (upd H4 D (.lst (acc ++ [y]))) else Pv (i + 1) H3) (hd : ∀ H, Pv xs.length H → Qd H) :
    ∃ W : Nat → Nat → Hp → Prop, (∃ m, W 0 m (upd H1 D (.lst []))) ∧ ∀ i m H, W i m H →
      ((ItzT K a b).stop i H ∧ Qd H) ∨ ((ItzT K a b).go i H ∧ ∃ Nx : Hp → Prop, (∀ H', Nx H' → ∃ m', m' < m ∧ W (i + 1) m' H') ∧ ∀ x H', (ItzT K a b).yld i H x H' → g x (wipe σ vs) H' fun σ2 H2 => wipe σ2 vs = wipe σ vs ∧ tt σ2 H2 fun b H3 =>
        if b = true then te σ2 H3 fun y H4 => ∃ acc, H4 D = some (.lst acc) ∧ acc.length < sizeLine ∧ Nx (upd H4 D (.lst (acc ++ [y]))) else Nx H3) := by
  refine ⟨fun i m H => m = xs.length - i ∧ i ≤ xs.length ∧ Pv i H, ⟨xs.length, by simp, Nat.zero_le _, h0⟩, ?_⟩
  rintro i m H ⟨rfl, hi, p⟩
  obtain ⟨q1, q2⟩ := hq i H p
  by_cases lt : i < xs.length
  · have lt2 : i < ys.length := by omega
    refine .inr ⟨⟨xs, ys, xs[i], ys[i], q1, q2, List.getElem?_eq_getElem lt, List.getElem?_eq_getElem lt2⟩, Pv (i + 1), fun H' p' => ⟨xs.length - (i + 1), by omega, rfl, lt, p'⟩, fun x H' y => ?_⟩
    obtain ⟨T, x1, y1, rfl, nT, rfl, e1, e2⟩ := y
    exact hs i x1 y1 T H (e1 xs q1) (e2 ys q2) p nT
  · exact .inl ⟨⟨xs, ys, q1, q2, .inl (by omega)⟩, hd H (by rw [show xs.length = i by omega]; exact p)⟩
def tabP : List (Str × List Str) := [("nothing", []), ("num", ["number"]), ("name", ["name"]), ("next", ["program"]), ("plus", ["program", "program"]), ("times", ["program", "program"]), ("known", ["label", "kind"]), ("lets", ["label", "kind", "program"]), ("for", ["name", "program"]), ("call", ["program", "program"]), ("pair", ["program", "program"]), ("first", ["program"]), ("second", ["program"]), ("parts", ["program", "name", "label", "program"]), ("this", ["program", "kind"]), ("that", ["kind", "program"]), ("cases", ["program", "label", "program", "label", "program"]), ("climb", ["program", "name", "label", "program", "program"])]
def numPart : PyData → Bool
  | .int i => decide ((0 : Int) ≤ i) && decide (i < 10 ^ 60)
  | _ => false
def partD (what : Str) (d : PyData) : Bool := if what = "program" then true else if what = "kind" then kn d else if what = "number" then numPart d else wordD d
def progs (ds : List PyData) (ws : List Str) : List PyData := ((ds.zip ws).filter fun (p : PyData × Str) => decide (p.2 = ("program" : Str))).map (·.1)
def innP : PyData → Option (List PyData)
  | .tuple (.str w :: ds) => match tabP.lookup w with
    | some ws => if ds.length = ws.length ∧ (ds.zip ws).all (fun p => partD p.2 p.1) = true then some (progs ds ws) else none
    | none => none
  | _ => none
/-- what is known of anything that is gone into -/
structure Okd (d : PyData) : Prop where
  ats : ats d = true
  deep : d.depth ≤ 100
  sz : psz d ≤ 1000000
theorem Okd.part {w : PyData} {ds : List PyData} {d : PyData} (h : Okd (.tuple (w :: ds))) (m : d ∈ ds) : Okd d := by
  have a := h.ats
  have b := h.deep
  have c := h.sz
  have a2 : (Kf.ats w && atss ds) = true := a
  rw [Bool.and_eq_true] at a2
  rw [dep_tup] at b
  rw [psz_tup] at c
  have c2 : 1 + (psz w + pszs ds) ≤ 1000000 := c
  have z := pszs_mem m
  have y := dep_mem (List.mem_cons_of_mem w m)
  exact ⟨atss_mem a2.2 m, by omega, by omega⟩
theorem tab_few : ∀ e ∈ tabP, e.2.length ≤ 5 := by decide +kernel
theorem lookup_mem {α β : Type} [BEq α] [LawfulBEq α] {l : List (α × β)} {a : α} {b : β} (h : l.lookup a = some b) : (a, b) ∈ l := by
  induction l with
  | nil => cases h
  | cons p r ih =>
    obtain ⟨c, d⟩ := p
    rw [List.lookup_cons] at h
    cases e : a == c with
    | true =>
      rw [e] at h
      cases h
      rw [eq_of_beq e]
      exact List.mem_cons_self
    | false =>
      rw [e] at h
      exact List.mem_cons_of_mem _ (ih h)
theorem inn_is {d : PyData} {es : List PyData} (h : innP d = some es) : ∃ w ds ws, d = .tuple (.str w :: ds) ∧ tabP.lookup w = some ws ∧ ds.length = ws.length ∧ (ds.zip ws).all (fun p => partD p.2 p.1) = true ∧ es = progs ds ws := by
  match d, h with
  | .tuple (.str w :: ds), h =>
    change (match tabP.lookup w with | some ws => if ds.length = ws.length ∧ (ds.zip ws).all (fun p => partD p.2 p.1) = true then some (progs ds ws) else none | none => none) = some es at h
    cases hl : tabP.lookup w with
    | none =>
      rw [hl] at h
      cases h
    | some ws =>
      rw [hl] at h
      dsimp only at h
      by_cases c : ds.length = ws.length ∧ (ds.zip ws).all (fun p => partD p.2 p.1) = true
      · rw [if_pos c] at h
        cases h
        exact ⟨w, ds, ws, rfl, hl, c.1, c.2, rfl⟩
      · rw [if_neg c] at h
        cases h
theorem progs_mem {ds : List PyData} {ws : List Str} {d : PyData} (h : d ∈ progs ds ws) : d ∈ ds := by
  obtain ⟨p, hp, rfl⟩ := List.mem_map.mp h
  exact (List.of_mem_zip (List.mem_filter.mp hp).1).1
theorem progs_len (ds : List PyData) (ws : List Str) : (progs ds ws).length ≤ ws.length := by
  unfold progs
  rw [List.length_map]
  refine Nat.le_trans (List.length_filter_le _ _) ?_
  rw [List.length_zip]
  exact Nat.min_le_right _ _
theorem innI : Inn Okd innP := ⟨fun {d ds} h => by
  obtain ⟨w, ps, ws, _, hl, _, _, rfl⟩ := inn_is h
  have := progs_len ps ws
  have := tab_few _ (lookup_mem hl)
  dsimp only at this
  omega, fun {d ds} o h e he => by
  obtain ⟨w, ps, ws, rfl, hl, _, _, rfl⟩ := inn_is h
  exact o.part (progs_mem he)⟩
abbrev sPart : Stmt := top 27
abbrev partN : List Str := ["part", "what"]
theorem scPart : FnScope partN ["part", "what"] (defScope sPart) := ⟨rfl, rfl, rfl, by decide +kernel, rfl, by decide +kernel, by decide +kernel⟩
abbrev sInner : Stmt := top 29
abbrev innerN : List Str := ["thing", "part", "what"]
theorem scInner : FnScope innerN ["thing"] (defScope sInner) := ⟨rfl, rfl, rfl, by decide +kernel, rfl, by decide +kernel, by decide +kernel⟩
abbrev sProgs : Stmt := top 28
abbrev progsN : List Str := ["program", "part", "what"]
theorem scProgs : FnScope progsN ["program"] (defScope sProgs) := ⟨rfl, rfl, rfl, by decide +kernel, rfl, by decide +kernel, by decide +kernel⟩
/-- the module's dict -/
structure Tp (K : PySem.W.Frag) (w : World) (mg : Str → Option Value) (PV : Addr) : Prop where
  mP : mg "PARTS" = some (.ref PV)
  dict : ∃ es n, KDict K w PV es n
  form : ∀ wd ws, tabP.lookup wd = some ws → ∃ fa, PySem.W.nsIn K PV wd = some (some (.ref fa)) ∧ ∀ H, SqT K H fa (ws.map V.str)
  none_ : ∀ wd, tabP.lookup wd = none → PySem.W.nsIn K PV wd = some none
  great : ∃ t, mg "TOO_GREAT" = some (.int (10 ^ 60) t)
  zIs : mg "isinstance" = none
  zTuple : mg "tuple" = none
  zStr : mg "str" = none
  zLen : mg "len" = none
  zZip : mg "zip" = none
theorem Gen.same {PT : Addr} {H H' : Hp} (g : GxR.TabG H PT) (s : Same H H') : Gen PT H H' := ⟨fun b o _ e => s b o e, by
  obtain ⟨ps, h1, h2⟩ := g
  exact ⟨ps, s _ _ h1, h2⟩⟩
section
variable {P : Program} {w : World} {K : PySem.W.Frag} {mg : Str → Option Value} {base : Heap} {PV PT : Addr}
def spPart (K : PySem.W.Frag) (PT : Addr) : Sp := fun vs H Q _ => ∃ (v : V) (d : PyData) (what : Str), vs = [v, .str what] ∧ Dp K H v d ∧ Okd d ∧ GxR.TabG H PT ∧ ∀ H', Gen PT H H' → Q (.bl (partD what d)) H'
theorem ok_part {f fk fw fd_ : Addr} {fd dk dw dd : FuncData} (F : Fun K "is_part" "is_part" sPart f fd) (T : Tp K w mg PV)
    (GK : FnOk P w K mg base CX0 2 fk dk ["thing"] (spIsKind K)) (bK : Binds K dk ["thing"] []) (kK : PySem.W.keepIn K (.ref fk) = true) (mK : mg "is_kind" = some (.ref fk))
    (GW : FnOk P w K mg base CX0 1 fw dw ["thing"] (spWhole K)) (bW : Binds K dw ["thing"] []) (kW : PySem.W.keepIn K (.ref fw) = true) (mW : mg "is_whole" = some (.ref fw))
    (GD : FnOk P w K mg base CX0 2 fd_ dd ["thing"] (spWordQ K PT)) (bD : Binds K dd ["thing"] []) (kD : PySem.W.keepIn K (.ref fd_) = true) (mD : mg "is_word" = some (.ref fd_)) :
    FnOk P w K mg base CX0 3 f fd ["part", "what"] (spPart K PT) := by
  obtain ⟨tg, mG⟩ := T.great
  refine F.ok scPart (fun vs H Q E h => ?_) (fun cdv A outer s H vs Q E hr h => ?_)
  · obtain ⟨v, d, what, rfl, _⟩ := h
    rfl
  obtain ⟨v, d, what, rfl, hd, od, hT, q⟩ := h
  have h1 : Room 1 _ := hr.mono (by decide)
  have h2 : Room 2 _ := hr.mono (by decide)
  refine ⟨_, (pss_cons (ps_if (pt_cmpR op_eq (pv 1) pe_str (nomark _)) (pss_one (ps_ret pe_bl)) pss_nil)
    (pss_cons (ps_if (pt_cmpR op_eq (pv 1) pe_str (nomark _)) (pss_one (ps_ret (pe_call GK hr (by rfl) mK kK bK .nil pass0 (pa_cons (pv 0) pa_nil)))) pss_nil)
    (pss_cons (ps_if (pt_cmpR op_eq (pv 1) pe_str (nomark _)) (pss_one (ps_ret (pe_and (pe_call GW h1 (by rfl) mW kW bW .nil pass0 (pa_cons (pv 0) pa_nil)) (pe_one (pe_chain op_le op_lt pe_int (pv 0) (pe_glob (v := .int (10 ^ 60)) (by rfl) mG ⟨_, rfl⟩)))))) pss_nil)
    (pss_one (ps_ret (pe_call GD h2 (by rfl) mD kD bD .nil pass0 (pa_cons (pv 0) pa_nil))))))), ?_⟩
  have q0 := q H (Gen.refl hT)
  unfold partD at q q0
  refine ⟨_, rfl, rfl, _, rfl, eqS (fun e => ?_) (fun n1 => ?_)⟩
  · rw [if_pos e] at q0
    exact q0
  rw [if_neg n1] at q q0
  refine ⟨_, rfl, rfl, _, rfl, eqS (fun e => ?_) (fun n2 => ?_)⟩
  · rw [if_pos e] at q
    exact ⟨_, rfl, v, d, rfl, hd, (fit d od.ats).lay, od.deep, od.sz, fun H' s => q H' (Gen.same hT s)⟩
  rw [if_neg n2] at q q0
  refine ⟨_, rfl, rfl, _, rfl, eqS (fun e => ?_) (fun n3 => ?_)⟩
  · refine ⟨_, rfl, v, d, rfl, hd, _, rfl, ?_⟩
    rw [if_pos e] at q0
    cases d with
    | int i =>
      cases hd
      refine iteT ⟨_, rfl, _, _, rfl, rfl, _, rfl, ?_⟩
      have q0 : Q (.bl (decide ((0 : Int) ≤ i) && decide (i < 10 ^ 60))) H := by
        exact q0
      cases c : decide ((0 : Int) ≤ i) with
      | false =>
        rw [c] at q0
        exact iteF q0
      | true =>
        rw [c] at q0
        exact iteT ⟨_, _, rfl, rfl, q0⟩
    | bool b => exact iteF q0
    | none => exact iteF q0
    | str z => exact iteF q0
    | list ds => exact iteF q0
    | tuple ds => exact iteF q0
    | dict ds => cases hd
  rw [if_neg n3] at q
  refine ⟨_, rfl, v, d, rfl, hd, od.ats, hT, fun H' tb => q H' ⟨but_tabbed tb, tb.1⟩⟩
/-! ### programs_of -/
def spProgs (K : PySem.W.Frag) : Sp := fun vs H Q _ => ∃ (v : V) (H0 : Hp) (w : Str) (ds : List PyData) (ws : List Str), vs = [v] ∧ Dp K H0 v (.tuple (.str w :: ds)) ∧ Dp K H v (.tuple (.str w :: ds)) ∧ (∀ a xs, SqT K H0 a xs → SqT K H a xs) ∧ tabP.lookup w = some ws ∧ ds.length = ws.length ∧
  ∀ (p : Addr) (H' : Hp) (us : List V), Same H H' → H p = none → H' p = some (.lst us) → DpAll K H0 us (progs ds ws) → Q (.ref p) H'
def keepP (ds : List PyData) (ws : List Str) (i : Nat) : List PyData := (((ds.zip ws).take i).filter fun (p : PyData × Str) => decide (p.2 = ("program" : Str))).map (·.1)
theorem keepP_next {ds : List PyData} {ws : List Str} {i : Nat} {d : PyData} {k : Str} (ht : ds[i]? = some d) (hk : ws[i]? = some k) : keepP ds ws (i + 1) = keepP ds ws i ++ (if k = "program" then [d] else []) := by
  have hz : (ds.zip ws)[i]? = some (d, k) := List.getElem?_zip_eq_some.mpr ⟨ht, hk⟩
  unfold keepP
  rw [List.take_add_one, hz]
  by_cases c : k = "program"
  · simp [c]
  · simp [c]
theorem ok_progs {f : Addr} {fd : FuncData} {j : Nat} (F : Fun K "programs_of" "programs_of" sProgs f fd) (T : Tp K w mg PV) : FnOk P w K mg base CX0 (j + 1) f fd ["program"] (spProgs K) := by
  obtain ⟨es, n, D⟩ := T.dict
  refine F.ok scProgs (fun vs H Q E h => ?_) (fun cdv A outer s H vs Q E hr h => ?_)
  · obtain ⟨v, H0, wd, ds, ws, rfl, _⟩ := h
    rfl
  obtain ⟨v, H0, wd, ds, ws, rfl, hd0, hd, up, hl, hlen, q⟩ := h
  refine ⟨_, pss_one (ps_ret (pe_lc (own := [("part", 1), ("what", 2)]) (g := gTup K 2 (gCons (gName 1) (gCons (gName 2) gNil))) (tt := _) rfl scProgs.nd
    (pi_zipA (by rfl) T.zZip (pa_cons (pe_slice sl_tup (pv 0) (po_some pe_int) po_none) (pa_cons (pe_ix ix_kdict (pe_glob (v := .ref PV) (by rfl) T.mP rfl) (pe_ix ix_tup (pv 0) pe_int (fun _ _ => rfl)) (fun _ _ => rfl)) pa_nil)))
    (blkOk_by (N := progsN) (sc := defScope sProgs) (by decide +kernel)) (fun _ _ _ _ _ => pg_tup (by rfl) (pgs_cons (pg_name (i := 1) scProgs.nd rfl (Or.inl rfl)) (pgs_cons (pg_name (i := 2) scProgs.nd rfl (Or.inl rfl)) pgs_nil)))
    (fun _ _ _ _ _ => pts_one (pt_cmpR op_eq (pv 2) pe_str (nomark _))) (fun _ _ _ _ _ => pv 1))), ?_⟩
  cases hd0 with
  | @tup p0 xs0 _ hs0 ha0 =>
  cases ha0 with
  | @cons x0 us0 _ _ hx0 hr0 =>
  cases hx0
  have hs := up _ _ hs0
  obtain ⟨fa, n1, sa⟩ := T.form _ _ hl
  have lenU : us0.length = (ws.map V.str).length := by
    rw [List.length_map, dps_len hr0, hlen]
  refine ⟨_, rfl, 1, rfl, p0, _, rfl, hs, cut_not _ _, fun c nc => ?_⟩
  rw [cut_one]
  have s1 : Same H (upd H c (.tup us0)) := same_new nc
  refine ⟨_, rfl, p0, _, 0, _, rfl, rfl, sqT_up s1 hs, head_at _ _, PV, _, .ref fa, rfl, rfl, ⟨es, n, _, D.at_, D.lit, n1, rfl⟩, ?_⟩
  refine ⟨c, fa, us0, ws.map V.str, rfl, .inr ⟨.inl (.inl upd_same), sa _, fun D2 nD => ?_⟩⟩
  generalize hHc : upd H c (.tup us0) = Hc at s1 nD
  have hc : Hc c = some (.tup us0) := by rw [← hHc, upd_same]
  have few := tab_few _ (lookup_mem hl)
  refine lc_zipT (K := K) (xs := us0) (ys := ws.map V.str) lenU (fun i H' => ∃ acc : List V, H' D2 = some (.lst acc) ∧ Same Hc H' ∧ DpAll K H0 acc (keepP ds ws i))
    ⟨[], upd_same, same_new nD, .nil⟩ (fun i H' ⟨_, _, sm, _⟩ => ⟨.inl (.inl (sm _ _ hc)), sa _⟩) ?_ ?_
  · rintro i x y T2 H' hx hy ⟨acc, hD, sm, al⟩ nT
    obtain ⟨dk, hdk, hax⟩ := dps_get hr0 hx
    rw [List.getElem?_map] at hy
    obtain ⟨kk, hkk, rfl⟩ := Option.map_eq_some_iff.mp hy
    have sT : Same H' (upd H' T2 (.tup [x, .str kk])) := same_new nT
    refine ⟨T2, [x, .str kk], rfl, .inl (.inl upd_same), rfl, x, [.str kk], rfl, .str kk, [], rfl, rfl, rfl, ?_⟩
    refine ⟨_, rfl, rfl, _, rfl, ?_⟩
    have nx := keepP_next hdk hkk
    refine eqS (fun e => ?_) (fun ne => ?_)
    · rw [if_pos e] at nx
      have la := dps_len al
      have lk : (keepP ds ws i).length ≤ ws.length := by
        unfold keepP
        rw [List.length_map]
        refine Nat.le_trans (List.length_filter_le _ _) (Nat.le_trans (List.length_take_le' _ _) ?_)
        rw [List.length_zip]
        exact Nat.min_le_right _ _
      refine ⟨_, rfl, acc, sT _ _ hD, few_of' (by dsimp only at few; omega), acc ++ [x], upd_same, same_own (sm.trans sT) nD, ?_⟩
      rw [nx]
      exact dps_app al (.cons hax .nil)
    · rw [if_neg ne, List.append_nil] at nx
      refine ⟨acc, sT _ _ hD, sm.trans sT, ?_⟩
      rw [nx]
      exact al
  · rintro H' ⟨acc, hD, sm, al⟩
    have e : keepP ds ws us0.length = progs ds ws := by
      unfold keepP progs
      rw [List.take_of_length_le]
      rw [List.length_zip, dps_len hr0]
      exact Nat.min_le_left _ _
    rw [e] at al
    exact q D2 H' acc (s1.trans sm) (s1.free nD) hD al
theorem ok_inner {f fp fo : Addr} {fd dp do_ : FuncData} (F : Fun K "inner_of" "inner_of" sInner f fd) (T : Tp K w mg PV)
    (GP : FnOk P w K mg base CX0 3 fp dp ["part", "what"] (spPart K PT)) (bP : Binds K dp ["part", "what"] []) (kP : PySem.W.keepIn K (.ref fp) = true) (mP2 : mg "is_part" = some (.ref fp))
    (GO : FnOk P w K mg base CX0 1 fo do_ ["program"] (spProgs K)) (bO : Binds K do_ ["program"] []) (kO : PySem.W.keepIn K (.ref fo) = true) (mO : mg "programs_of" = some (.ref fo)) :
    FnOk P w K mg base CX0 4 f fd ["thing"] (spInn K PT Okd innP) := by
  obtain ⟨es, n, D⟩ := T.dict
  refine F.ok scInner (fun vs H Q E h => ?_) (fun cdv A outer s H vs Q E hr h => ?_)
  · obtain ⟨v, d, H0, rfl, _⟩ := h
    rfl
  obtain ⟨v, d, H0, rfl, hd0, g0, t0, od, qn, qs⟩ := h
  have h1 : Room 1 _ := hr.mono (by decide)
  have hd := dp_nt g0 _ _ hd0
  have hT := t0
  refine ⟨_, (pss_cons (ps_if (PW.pt (pw_or (pt_not (pt_val (pe_callB call_isi (by rfl) T.zIs (by decide +kernel) (pa_cons (pv 0) (pa_cons (pe_bltn (v := .ty "tuple") (by rfl) T.zTuple (by decide +kernel) rfl) pa_nil))))) (pw_or (pt_cmpR op_eq (pe_callB call_len_seq (by rfl) T.zLen PySem.boot_len (pa_cons (pv 0) pa_nil)) pe_int (nomark _)) (pw_or1 (pt_not (pt_val (pe_callB call_isi (by rfl) T.zIs (by decide +kernel) (pa_cons (pe_ix ix_tup (pv 0) pe_int (fun _ _ => rfl)) (pa_cons (pe_bltn (v := .ty "str") (by rfl) T.zStr (by decide +kernel) rfl) pa_nil))))))))) (pss_one (ps_ret pe_non)) pss_nil)
    (pss_cons (ps_if (PW.pt (pw_or (pt_cmpR (op_notIn_kd D) (pe_ix ix_tup (pv 0) pe_int (fun _ _ => rfl)) (pe_glob (v := .ref PV) (by rfl) T.mP rfl) (by rfl)) (pw_or1 (pt_cmpR op_ne (pe_callB call_len_seq (by rfl) T.zLen PySem.boot_len (pa_cons (pv 0) pa_nil)) (pe_op op_add (pe_callB call_len_seq (by rfl) T.zLen PySem.boot_len (pa_cons (pe_ix ix_kdict (pe_glob (v := .ref PV) (by rfl) T.mP rfl) (pe_ix ix_tup (pv 0) pe_int (fun _ _ => rfl)) (fun _ _ => rfl)) pa_nil)) pe_int) (nomark _))))) (pss_one (ps_ret pe_non)) pss_nil)
    (pss_cons (ps_for PassesOwn.never rfl (pi_zipA (by rfl) T.zZip (pa_cons (pe_slice sl_tup (pv 0) (po_some pe_int) po_none) (pa_cons (pe_ix ix_kdict (pe_glob (v := .ref PV) (by rfl) T.mP rfl) (pe_ix ix_tup (pv 0) pe_int (fun _ _ => rfl)) (fun _ _ => rfl)) pa_nil))) (pg_tup (by rfl) (pgs_cons (pg_name (i := 1) scInner.nd rfl (.inl rfl)) (pgs_cons (pg_name (i := 2) scInner.nd rfl (.inl rfl)) pgs_nil))) (pss_one (ps_if (pt_not (pt_val (pe_call GP hr (by rfl) mP2 kP bP .nil pass0 (pa_cons (pv 1) (pa_cons (pv 2) pa_nil))))) (pss_one (ps_ret pe_non)) pss_nil)))
    (pss_one (ps_ret (pe_call GO h1 (by rfl) mO kO bO .nil pass0 (pa_cons (pv 0) pa_nil))))))), ?_⟩
  refine ⟨_, rfl, _, _, _, _, isTu d, rfl, .ty "tuple", dp_ty hd, kit_tu d, _, rfl, ?_⟩
  cases ht : isTu d with
  | false =>
    have e : innP d = none := by
      cases d with
      | tuple _ => cases ht
      | _ => rfl
    exact iteT (qn e H (Gen.refl hT))
  | true =>
    obtain ⟨ds, rfl⟩ : ∃ ds, d = .tuple ds := by
      cases d with
      | tuple ds => exact ⟨ds, rfl⟩
      | _ => cases ht
    cases hd0 with
    | @tup p xs _ hs0 ha0 =>
    have hs : SqT K H p xs := sqT_nt g0 hs0
    have ha := dps_nt g0 _ _ ha0
    refine iteF ⟨_, rfl, p, xs, rfl, .inr hs, rfl, _, rfl, ?_⟩
    cases ha0 with
    | nil => exact iteT (qn rfl H (Gen.refl hT))
    | @cons x us a dr hx0 hr0 =>
    cases ha with
    | cons hx hr_ =>
    rw [show decide (V.int (((x :: us).length : Nat) : Int) = V.int 0) = false from decide_eq_false (fun z => by injection z with z; rw [List.length_cons] at z; omega)]
    refine iteF ⟨_, rfl, p, _, 0, _, rfl, rfl, hs, head_at _ _, _, _, _, _, isS a, rfl, .ty "str", dp_ty hx, kit_s a, _, rfl, ?_⟩
    cases hS : isS a with
    | false =>
      have e : innP (.tuple (a :: dr)) = none := by
        cases a with
        | str _ => cases hS
        | _ => rfl
      exact iteT (qn e H (Gen.refl hT))
    | true =>
      obtain ⟨wd, rfl⟩ : ∃ w, a = .str w := by
        cases a with
        | str w => exact ⟨w, rfl⟩
        | _ => cases hS
      cases hx0
      have ef : innP (.tuple (.str wd :: dr)) = (match tabP.lookup wd with
        | some ws => if dr.length = ws.length ∧ (dr.zip ws).all (fun p => partD p.2 p.1) = true then some (progs dr ws) else none
        | none => none) := rfl
      refine iteF ?_
      cases hl : tabP.lookup wd with
      | none =>
        rw [hl] at ef
        refine ⟨_, rfl, p, _, 0, _, rfl, rfl, hs, head_at _ _, _, _, rfl, rfl, T.none_ _ hl, _, rfl, ?_⟩
        exact iteT (qn ef H (Gen.refl hT))
      | some ws =>
        rw [hl] at ef
        have ef : innP (.tuple (.str wd :: dr)) = (if dr.length = ws.length ∧ (dr.zip ws).all (fun p => partD p.2 p.1) = true then some (progs dr ws) else none) := ef
        obtain ⟨fa, e1, e2⟩ := T.form wd ws hl
        refine ⟨_, rfl, p, _, 0, _, rfl, rfl, hs, head_at _ _, _, _, rfl, rfl, e1, _, rfl, ?_⟩
        refine iteF ?_
        refine ⟨_, rfl, p, _, rfl, .inr hs, _, rfl, p, _, 0, _, rfl, rfl, hs, head_at _ _, PV, _, .ref fa, rfl, rfl, ⟨es, n, _, D.at_, D.lit, e1, rfl⟩, fa, _, rfl, .inr (e2 H), _, _, rfl, rfl, rfl, ?_⟩
        have lu := dps_len hr0
        have el : decide (V.int (((V.str wd :: us).length : Nat) : Int) = V.int (((ws.map V.str).length : Nat) + 1)) = decide (dr.length = ws.length) := by
          rw [List.length_cons, List.length_map, lu]
          refine decide_eq_decide.mpr ⟨fun z => ?_, fun z => ?_⟩
          · injection z with z
            omega
          · rw [z]
            rfl
        refine ⟨_, rfl, ?_⟩
        show if (!decide (V.int (((V.str wd :: us).length : Nat) : Int) = V.int (((ws.map V.str).length : Nat) + 1))) = true then _ else _
        rw [el]
        by_cases hlen : dr.length = ws.length
        · rw [decide_eq_true hlen]
          refine iteF ?_
          have lenU : us.length = (ws.map V.str).length := by rw [List.length_map, lu, hlen]
          refine ⟨_, rfl, 1, rfl, p, _, rfl, hs, cut_not _ _, fun c nc => ?_⟩
          rw [cut_one]
          have s1 : Same H (upd H c (.tup us)) := same_new nc
          refine ⟨_, rfl, p, _, 0, _, rfl, rfl, sqT_up s1 hs, head_at _ _, PV, _, .ref fa, rfl, rfl, ⟨es, n, _, D.at_, D.lit, e1, rfl⟩, ?_⟩
          refine ⟨c, fa, us, ws.map V.str, rfl, .inr ⟨.inl (.inl upd_same), e2 _, ?_⟩⟩
          have nPc : c ≠ PT := (TabG.new hT nc).symm
          refine for_zipT (K := K) (xs := us) (ys := ws.map V.str) lenU (fun i σ' H' => ∃ y1 y2 : Option V, σ' = [some (.ref p), y1, y2] ∧ Gen PT H H' ∧ H' c = some (.tup us) ∧ ((dr.zip ws).take i).all (fun p => partD p.2 p.1) = true)
            ⟨_, _, rfl, (Gen.refl hT).new nc, upd_same, rfl⟩ (fun i σ' H' ⟨_, _, _, _, hc, _⟩ => ⟨.inl (.inl hc), e2 _⟩) ?_ ?_
          · rintro i x yv T0 σ' H' hxi hyi ⟨y1, y2, rfl, gg, hc, al⟩ nT
            obtain ⟨dk, hdk, hax⟩ := dps_get hr_ hxi
            rw [List.getElem?_map] at hyi
            obtain ⟨kk, hkk, rfl⟩ := Option.map_eq_some_iff.mp hyi
            have g2 := gg.new (o := .tup [x, .str kk]) nT
            have hc2 := (same_new (o := .tup [x, .str kk]) nT) _ _ hc
            have mz : (dr.zip ws)[i]? = some (dk, kk) := List.getElem?_zip_eq_some.mpr ⟨hdk, hkk⟩
            refine ⟨T0, [x, .str kk], rfl, .inl (.inl upd_same), rfl, x, [.str kk], rfl, .str kk, [], rfl, rfl, ?_⟩
            refine ⟨_, rfl, _, rfl, x, dk, kk, rfl, g2.dp hT hax, od.part (List.mem_of_getElem? hdk), g2.g, fun H3 g3 => ?_⟩
            have gf := g2.trans g3
            have hc3 : H3 c = some (.tup us) := g3.but _ _ nPc hc2
            refine ⟨_, rfl, ?_⟩
            cases hp : partD kk dk with
            | false =>
              refine iteT (qn ?_ H3 gf)
              rw [ef, if_neg]
              intro z
              have z2 := List.all_eq_true.mp z.2 _ (List.mem_of_getElem? mz)
              dsimp only at z2
              rw [hp] at z2
              cases z2
            | true =>
              refine iteF ⟨_, _, rfl, gf, hc3, ?_⟩
              rw [List.take_add_one, mz, List.all_append, al]
              show (true && (partD kk dk && true)) = true
              rw [hp]
              rfl
          · rintro σ' H' ⟨y1, y2, rfl, gg, hc, al⟩
            have e0 : (dr.zip ws).take us.length = dr.zip ws := List.take_of_length_le (by rw [List.length_zip, lu]; exact Nat.min_le_left _ _)
            rw [e0] at al
            refine ⟨_, rfl, .ref p, H0, wd, dr, ws, rfl, .tup hs0 (.cons (.str wd) hr0), gg.dp hT (.tup hs (.cons (.str wd) hr_)), fun a2 xs2 h2 => sqT_nt (gg.nt hT) (sqT_nt g0 h2), hl, hlen, fun l H2 us2 s2 nl hl2 dal => ?_⟩
            refine qs _ ?_ l us2 H2 (gg.trans (Gen.same gg.g s2)) (gg.free hT nl) hl2 dal
            rw [ef, if_pos ⟨hlen, al⟩]
        · rw [decide_eq_false hlen]
          refine iteT (qn ?_ H (Gen.refl hT))
          rw [ef, if_neg (fun z => hlen z.1)]
end
end Kf
set_option Elab.async false
set_option linter.all false
set_option maxRecDepth 100000
set_option maxHeartbeats 4000000
set_option pp.maxSteps 600
/-! Kinds, programs, how they are judged: the mathematics. -/
namespace Kf
open PySem PySem.Spec PyProof.Rows L2 Sx
inductive Kd where
  | none
  | number
  | pair (a b : Kd)
  | frm (a b : Kd)
  | either (a b : Kd)
  deriving DecidableEq
def Kd.eqb : Kd → Kd → Bool
  | .none, .none => true
  | .number, .number => true
  | .pair a b, .pair c d => a.eqb c && b.eqb d
  | .frm a b, .frm c d => a.eqb c && b.eqb d
  | .either a b, .either c d => a.eqb c && b.eqb d
  | _, _ => false
theorem Kd.eqb_iff : ∀ a b : Kd, a.eqb b = true ↔ a = b
  | .none, b => by cases b <;> simp [Kd.eqb]
  | .number, b => by cases b <;> simp [Kd.eqb]
  | .pair a b, c => by
    cases c with
    | pair c d => simp [Kd.eqb, Kd.eqb_iff a c, Kd.eqb_iff b d]
    | _ => simp [Kd.eqb]
  | .frm a b, c => by
    cases c with
    | frm c d => simp [Kd.eqb, Kd.eqb_iff a c, Kd.eqb_iff b d]
    | _ => simp [Kd.eqb]
  | .either a b, c => by
    cases c with
    | either c d => simp [Kd.eqb, Kd.eqb_iff a c, Kd.eqb_iff b d]
    | _ => simp [Kd.eqb]
theorem Kd.eqb_refl (a : Kd) : a.eqb a = true := (Kd.eqb_iff a a).mpr rfl
theorem Kd.eqb_ne {a b : Kd} (h : a ≠ b) : a.eqb b = false := by
  cases e : a.eqb b with
  | true => exact absurd ((Kd.eqb_iff a b).mp e) h
  | false => rfl
def kdD : Kd → PyData
  | .none => .tuple [.str "none"]
  | .number => .tuple [.str "number"]
  | .pair a b => .tuple [.str "pair", kdD a, kdD b]
  | .frm a b => .tuple [.str "from", kdD a, kdD b]
  | .either a b => .tuple [.str "either", kdD a, kdD b]
def Kd.deep : Kd → Nat
  | .none => 1
  | .number => 1
  | .pair a b => max a.deep b.deep + 1
  | .frm a b => max a.deep b.deep + 1
  | .either a b => max a.deep b.deep + 1
def Kd.size : Kd → Nat
  | .none => 1
  | .number => 1
  | .pair a b => a.size + b.size + 1
  | .frm a b => a.size + b.size + 1
  | .either a b => a.size + b.size + 1
/-- no none but in an either -/
def Kd.Ok : Kd → Prop
  | .none => True
  | .number => True
  | .pair a b => a.Ok ∧ b.Ok ∧ a ≠ .none ∧ b ≠ .none
  | .frm a b => a.Ok ∧ b.Ok ∧ a ≠ .none ∧ b ≠ .none
  | .either a b => a.Ok ∧ b.Ok
theorem kd_depth : ∀ k : Kd, (kdD k).depth = k.deep
  | .none => rfl
  | .number => rfl
  | .pair a b => by
    show max 0 (max (kdD a).depth (max (kdD b).depth 0)) + 1 = max a.deep b.deep + 1
    rw [kd_depth a, kd_depth b]
    omega
  | .frm a b => by
    show max 0 (max (kdD a).depth (max (kdD b).depth 0)) + 1 = max a.deep b.deep + 1
    rw [kd_depth a, kd_depth b]
    omega
  | .either a b => by
    show max 0 (max (kdD a).depth (max (kdD b).depth 0)) + 1 = max a.deep b.deep + 1
    rw [kd_depth a, kd_depth b]
    omega
theorem kd_lay : ∀ k : Kd, (kdD k).canLay0 = true
  | .none => by decide +kernel
  | .number => by decide +kernel
  | .pair a b => by
    show ((PyData.str "pair").canLay0 && ((kdD a).canLay0 && ((kdD b).canLay0 && true))) = true
    rw [kd_lay a, kd_lay b]
    decide +kernel
  | .frm a b => by
    show ((PyData.str "from").canLay0 && ((kdD a).canLay0 && ((kdD b).canLay0 && true))) = true
    rw [kd_lay a, kd_lay b]
    decide +kernel
  | .either a b => by
    show ((PyData.str "either").canLay0 && ((kdD a).canLay0 && ((kdD b).canLay0 && true))) = true
    rw [kd_lay a, kd_lay b]
    decide +kernel
theorem kd_ats : ∀ k : Kd, ats (kdD k) = true
  | .none => by decide +kernel
  | .number => by decide +kernel
  | .pair a b => by
    show (ats (.str "pair") && (ats (kdD a) && (ats (kdD b) && true))) = true
    rw [kd_ats a, kd_ats b]
    decide +kernel
  | .frm a b => by
    show (ats (.str "from") && (ats (kdD a) && (ats (kdD b) && true))) = true
    rw [kd_ats a, kd_ats b]
    decide +kernel
  | .either a b => by
    show (ats (.str "either") && (ats (kdD a) && (ats (kdD b) && true))) = true
    rw [kd_ats a, kd_ats b]
    decide +kernel
theorem kd_psz : ∀ k : Kd, psz (kdD k) ≤ 3 * k.size
  | .none => by decide
  | .number => by decide
  | .pair a b => by
    have x := kd_psz a
    have y := kd_psz b
    show 1 + (1 + (psz (kdD a) + (psz (kdD b) + 0))) ≤ 3 * (a.size + b.size + 1)
    omega
  | .frm a b => by
    have x := kd_psz a
    have y := kd_psz b
    show 1 + (1 + (psz (kdD a) + (psz (kdD b) + 0))) ≤ 3 * (a.size + b.size + 1)
    omega
  | .either a b => by
    have x := kd_psz a
    have y := kd_psz b
    show 1 + (1 + (psz (kdD a) + (psz (kdD b) + 0))) ≤ 3 * (a.size + b.size + 1)
    omega
theorem s_eqv (a b : Str) : PyData.eqv (.str a) (.str b) = decide (a = b) := by
  show (a == b) = decide (a = b)
  by_cases e : a = b
  · rw [e, decide_eq_true rfl]
    exact beq_self_eq_true b
  · rw [decide_eq_false e]
    exact beq_eq_false_iff_ne.mpr e
theorem kd_far {u v : Str} {a b c d : PyData} (h : ¬ u = v) : PyData.eqv (.tuple [.str u, a, b]) (.tuple [.str v, c, d]) = false := by
  show (PyData.eqv (.str u) (.str v) && (PyData.eqv a c && (PyData.eqv b d && true))) = false
  rw [s_eqv, decide_eq_false h]
  rfl
/-- == of kinds -/
theorem kd_eqv : ∀ a b : Kd, PyData.eqv (kdD a) (kdD b) = a.eqb b
  | .none, .none => by decide +kernel
  | .none, .number => by decide +kernel
  | .number, .none => by decide +kernel
  | .number, .number => by decide +kernel
  | .none, .pair _ _ => rfl
  | .none, .frm _ _ => rfl
  | .none, .either _ _ => rfl
  | .number, .pair _ _ => rfl
  | .number, .frm _ _ => rfl
  | .number, .either _ _ => rfl
  | .pair _ _, .none => rfl
  | .pair _ _, .number => rfl
  | .frm _ _, .none => rfl
  | .frm _ _, .number => rfl
  | .either _ _, .none => rfl
  | .either _ _, .number => rfl
  | .pair a b, .pair c d => by
    show (PyData.eqv (.str "pair") (.str "pair") && (PyData.eqv (kdD a) (kdD c) && (PyData.eqv (kdD b) (kdD d) && true))) = (a.eqb c && b.eqb d)
    rw [kd_eqv a c, kd_eqv b d, s_eqv, decide_eq_true rfl, Bool.true_and, Bool.and_true]
  | .frm a b, .frm c d => by
    show (PyData.eqv (.str "from") (.str "from") && (PyData.eqv (kdD a) (kdD c) && (PyData.eqv (kdD b) (kdD d) && true))) = (a.eqb c && b.eqb d)
    rw [kd_eqv a c, kd_eqv b d, s_eqv, decide_eq_true rfl, Bool.true_and, Bool.and_true]
  | .either a b, .either c d => by
    show (PyData.eqv (.str "either") (.str "either") && (PyData.eqv (kdD a) (kdD c) && (PyData.eqv (kdD b) (kdD d) && true))) = (a.eqb c && b.eqb d)
    rw [kd_eqv a c, kd_eqv b d, s_eqv, decide_eq_true rfl, Bool.true_and, Bool.and_true]
  | .pair a b, .frm c d => kd_far (by decide +kernel)
  | .pair a b, .either c d => kd_far (by decide +kernel)
  | .frm a b, .pair c d => kd_far (by decide +kernel)
  | .frm a b, .either c d => kd_far (by decide +kernel)
  | .either a b, .pair c d => kd_far (by decide +kernel)
  | .either a b, .frm c d => kd_far (by decide +kernel)

theorem kd_eq (a b : Kd) : PyData.eqv (kdD a) (kdD b) = decide (a = b) := by
  rw [kd_eqv]
  by_cases e : a = b
  · rw [e, Kd.eqb_refl, decide_eq_true rfl]
  · rw [Kd.eqb_ne e, decide_eq_false e]
end Kf
set_option Elab.async false
set_option linter.all false
set_option maxRecDepth 100000
set_option maxHeartbeats 4000000
set_option pp.maxSteps 500
/-! What each word's kind is, by the kinds of its programs. -/
namespace Kf
open PySem PySem.Spec PyProof.Rows L2 Sx RZ
abbrev sMade : Stmt := top 30
abbrev madeN : List Str := ["kind", "other"]
theorem scMade : FnScope madeN ["kind", "other"] (defScope sMade) := ⟨rfl, rfl, rfl, by decide +kernel, rfl, by decide +kernel, by decide +kernel⟩
abbrev sKNothing : Stmt := top 31
abbrev kNothingN : List Str := ["_", "kinds"]
theorem scKNothing : FnScope kNothingN ["_", "kinds"] (defScope sKNothing) := ⟨rfl, rfl, rfl, by decide +kernel, rfl, by decide +kernel, by decide +kernel⟩
abbrev sKNumber : Stmt := top 32
abbrev kNumberN : List Str := ["_", "kinds", "kind"]
theorem scKNumber : FnScope kNumberN ["_", "kinds"] (defScope sKNumber) := ⟨rfl, rfl, rfl, by decide +kernel, rfl, by decide +kernel, by decide +kernel⟩
abbrev sKKnown : Stmt := top 33
abbrev kKnownN : List Str := ["piece", "_"]
theorem scKKnown : FnScope kKnownN ["piece", "_"] (defScope sKKnown) := ⟨rfl, rfl, rfl, by decide +kernel, rfl, by decide +kernel, by decide +kernel⟩
abbrev sKLets : Stmt := top 34
abbrev kLetsN : List Str := ["piece", "kinds"]
theorem scKLets : FnScope kLetsN ["piece", "kinds"] (defScope sKLets) := ⟨rfl, rfl, rfl, by decide +kernel, rfl, by decide +kernel, by decide +kernel⟩
abbrev sKFor : Stmt := top 35
abbrev kForN : List Str := ["_", "kinds"]
theorem scKFor : FnScope kForN ["_", "kinds"] (defScope sKFor) := ⟨rfl, rfl, rfl, by decide +kernel, rfl, by decide +kernel, by decide +kernel⟩
abbrev sKCall : Stmt := top 36
abbrev kCallN : List Str := ["_", "kinds", "rule", "first"]
theorem scKCall : FnScope kCallN ["_", "kinds"] (defScope sKCall) := ⟨rfl, rfl, rfl, by decide +kernel, rfl, by decide +kernel, by decide +kernel⟩
abbrev sKPair : Stmt := top 37
abbrev kPairN : List Str := ["_", "kinds"]
theorem scKPair : FnScope kPairN ["_", "kinds"] (defScope sKPair) := ⟨rfl, rfl, rfl, by decide +kernel, rfl, by decide +kernel, by decide +kernel⟩
abbrev sKFirst : Stmt := top 38
abbrev kFirstN : List Str := ["_", "kinds"]
theorem scKFirst : FnScope kFirstN ["_", "kinds"] (defScope sKFirst) := ⟨rfl, rfl, rfl, by decide +kernel, rfl, by decide +kernel, by decide +kernel⟩
abbrev sKSecond : Stmt := top 39
abbrev kSecondN : List Str := ["_", "kinds"]
theorem scKSecond : FnScope kSecondN ["_", "kinds"] (defScope sKSecond) := ⟨rfl, rfl, rfl, by decide +kernel, rfl, by decide +kernel, by decide +kernel⟩
abbrev sKParts : Stmt := top 40
abbrev kPartsN : List Str := ["_", "kinds"]
theorem scKParts : FnScope kPartsN ["_", "kinds"] (defScope sKParts) := ⟨rfl, rfl, rfl, by decide +kernel, rfl, by decide +kernel, by decide +kernel⟩
abbrev sKThis : Stmt := top 41
abbrev kThisN : List Str := ["piece", "kinds"]
theorem scKThis : FnScope kThisN ["piece", "kinds"] (defScope sKThis) := ⟨rfl, rfl, rfl, by decide +kernel, rfl, by decide +kernel, by decide +kernel⟩
abbrev sKThat : Stmt := top 42
abbrev kThatN : List Str := ["piece", "kinds"]
theorem scKThat : FnScope kThatN ["piece", "kinds"] (defScope sKThat) := ⟨rfl, rfl, rfl, by decide +kernel, rfl, by decide +kernel, by decide +kernel⟩
abbrev sKCases : Stmt := top 43
abbrev kCasesN : List Str := ["_", "kinds"]
theorem scKCases : FnScope kCasesN ["_", "kinds"] (defScope sKCases) := ⟨rfl, rfl, rfl, by decide +kernel, rfl, by decide +kernel, by decide +kernel⟩
abbrev sKClimb : Stmt := top 44
abbrev kClimbN : List Str := ["_", "kinds", "start", "turn", "number"]
theorem scKClimb : FnScope kClimbN ["_", "kinds"] (defScope sKClimb) := ⟨rfl, rfl, rfl, by decide +kernel, rfl, by decide +kernel, by decide +kernel⟩
def rInL (K : PySem.W.Frag) : R2 := fun x y H Q => ∃ d ds, Dp K H x d ∧ Dp K H y (.list ds) ∧ d.canLay0 = true ∧ PyData.canLayAll0 ds = true ∧ min (PyData.depthAll ds) d.depth ≤ 120 ∧ Q (.bl (ds.any fun z => PyData.eqv z d)) H
theorem op_inL {X : Cx} (hu : X.A.units + 130 < cLine) : OpR X (compareOp .In) (rInL X.K) := by
  intro pins s σ H x y v u Q I rx ry h
  obtain ⟨d, ds, hd, he, sd, se, z0, q⟩ := h
  obtain ⟨as, r1⟩ := Dp.reads I d x v hd rx
  obtain ⟨bs, r2⟩ := Dp.reads I (.list ds) y u he ry
  exact SeqAt.in_list_reads r2 r1 se sd (by omega) ⟨.bl _, H, I, rfl, q⟩
/-- a kind at v -/
structure KAt (K : PySem.W.Frag) (H : Hp) (v : V) (k : Kd) : Prop where
  at_ : Dt K H v (kdD k)
  deep : k.deep ≤ 110
theorem KAt.keep {K : PySem.W.Frag} {H H' : Hp} {v : V} {k : Kd} (h : KAt K H v k) (s : Tups H H') : KAt K H' v k := ⟨h.at_.keep s, h.deep⟩
theorem KAt.dp {K : PySem.W.Frag} {H : Hp} {v : V} {k : Kd} (h : KAt K H v k) : Dp K H v (kdD k) := h.at_.dp
/-- what a def of kinds tells -/
def ResK (K : PySem.W.Frag) (H : Hp) (v : V) : Option Kd → Prop
  | none => v = .non
  | some k => Dt K H v (kdD k)
theorem lay2 (a b : Kd) : PyData.canLayAll0 [kdD a, kdD b] = true := by
  show ((kdD a).canLay0 && ((kdD b).canLay0 && true)) = true
  rw [kd_lay, kd_lay]
  rfl
theorem any2 (a b : Kd) : ([kdD a, kdD b].any fun z => PyData.eqv z (kdD .none)) = decide (a = .none ∨ b = .none) := by
  show (PyData.eqv (kdD a) (kdD .none) || (PyData.eqv (kdD b) (kdD .none) || false)) = _
  rw [kd_eq, kd_eq, Bool.or_false, ← Bool.decide_or]
def Kd.word : Kd → Str
  | .none => "none"
  | .number => "number"
  | .pair _ _ => "pair"
  | .frm _ _ => "from"
  | .either _ _ => "either"
def Kd.subs : Kd → List Kd
  | .none => []
  | .number => []
  | .pair a b => [a, b]
  | .frm a b => [a, b]
  | .either a b => [a, b]
def madeK (a b : Kd) : Option Kd := if a = .none ∨ b = .none then none else some (.frm a b)
def pairK (a b : Kd) : Option Kd := if a = .none ∨ b = .none then none else some (.pair a b)
section
variable {P : Program} {w : World} {K : PySem.W.Frag} {mg : Str → Option Value} {base : Heap} {NO NU PA : Addr}
theorem kat_no {H : Hp} (T : Tx K mg NO NU PA) : KAt K H (.ref NO) .none := ⟨.tup (T.tO _) (.cons (.str _) .nil), by decide⟩
theorem kat_nu {H : Hp} (T : Tx K mg NO NU PA) : KAt K H (.ref NU) .number := ⟨.tup (T.tU _) (.cons (.str _) .nil), by decide⟩
theorem two_at {H : Hp} {w : Str} {a b : Kd} {v : V} (h : Dt K H v (.tuple [.str w, kdD a, kdD b])) (d : max a.deep b.deep + 1 ≤ 110) : ∃ p us, v = .ref p ∧ SqT K H p (.str w :: us) ∧ All2 (KAt K H) us [a, b] := by
  obtain ⟨p, xs, rfl, hs, hx⟩ := h.view
  cases hx with
  | cons h1 hx =>
    cases h1
    cases hx with
    | cons h2 hx =>
      cases hx with
      | cons h3 hx =>
        cases hx
        exact ⟨p, _, rfl, hs, .cons ⟨h2, by omega⟩ (.cons ⟨h3, by omega⟩ .nil)⟩
theorem one_at {H : Hp} {w : Str} {v : V} (h : Dt K H v (.tuple [.str w])) : ∃ p us, v = .ref p ∧ SqT K H p (.str w :: us) ∧ All2 (KAt K H) us [] := by
  obtain ⟨p, xs, rfl, hs, hx⟩ := h.view
  cases hx with
  | cons h1 hx =>
    cases h1
    cases hx
    exact ⟨p, _, rfl, hs, .nil⟩
theorem KAt.view {H : Hp} {v : V} : ∀ {k : Kd}, KAt K H v k → ∃ p us, v = .ref p ∧ SqT K H p (.str k.word :: us) ∧ All2 (KAt K H) us k.subs
  | .none, h => one_at h.at_
  | .number, h => one_at h.at_
  | .pair a b, h => two_at h.at_ h.deep
  | .frm a b, h => two_at h.at_ h.deep
  | .either a b, h => two_at h.at_ h.deep
theorem w_pair : (PyData.str "pair").canLay0 = true := by decide +kernel
theorem w_from : (PyData.str "from").canLay0 = true := by decide +kernel
theorem w_either : (PyData.str "either").canLay0 = true := by decide +kernel
theorem word_lay : ∀ k : Kd, (PyData.str k.word).canLay0 = true
  | .none => by decide +kernel
  | .number => by decide +kernel
  | .pair _ _ => w_pair
  | .frm _ _ => w_from
  | .either _ _ => w_either
theorem is_pair {k : Kd} (h : k.word = "pair") : ∃ a b, k = .pair a b := by
  cases k with
  | pair a b => exact ⟨a, b, rfl⟩
  | none => exact absurd h (show ¬ ("none" : Str) = "pair" by decide +kernel)
  | number => exact absurd h (show ¬ ("number" : Str) = "pair" by decide +kernel)
  | frm a b => exact absurd h (show ¬ ("from" : Str) = "pair" by decide +kernel)
  | either a b => exact absurd h (show ¬ ("either" : Str) = "pair" by decide +kernel)
theorem is_frm {k : Kd} (h : k.word = "from") : ∃ a b, k = .frm a b := by
  cases k with
  | frm a b => exact ⟨a, b, rfl⟩
  | none => exact absurd h (show ¬ ("none" : Str) = "from" by decide +kernel)
  | number => exact absurd h (show ¬ ("number" : Str) = "from" by decide +kernel)
  | pair a b => exact absurd h (show ¬ ("pair" : Str) = "from" by decide +kernel)
  | either a b => exact absurd h (show ¬ ("either" : Str) = "from" by decide +kernel)
theorem is_either {k : Kd} (h : k.word = "either") : ∃ a b, k = .either a b := by
  cases k with
  | either a b => exact ⟨a, b, rfl⟩
  | none => exact absurd h (show ¬ ("none" : Str) = "either" by decide +kernel)
  | number => exact absurd h (show ¬ ("number" : Str) = "either" by decide +kernel)
  | pair a b => exact absurd h (show ¬ ("pair" : Str) = "either" by decide +kernel)
  | frm a b => exact absurd h (show ¬ ("from" : Str) = "either" by decide +kernel)
def callK : Kd → Kd → Option Kd
  | .frm a b, c => if a = c then some b else none
  | _, _ => none
def firstK : Kd → Option Kd
  | .pair a _ => some a
  | _ => none
def secondK : Kd → Option Kd
  | .pair _ b => some b
  | _ => none
def partsK : Kd → Kd → Option Kd
  | .pair a _, c => if a = .number then some c else none
  | _, _ => none
def casesK : Kd → Kd → Kd → Option Kd
  | .either _ _, c, d => if c = d then some c else none
  | _, _, _ => none
def climbK (a b c : Kd) : Option Kd := if a = b ∧ a ≠ .none ∧ c = .number then some a else none
def numK (ks : List Kd) : Option Kd := if ks.all (fun k => decide (k = .number)) = true then some .number else none
theorem no_frm {k c : Kd} (h : k.word ≠ "from") : callK k c = none := by
  cases k with
  | frm a b => exact absurd rfl h
  | _ => rfl
theorem no_pair1 {k : Kd} (h : k.word ≠ "pair") : firstK k = none := by
  cases k with
  | pair a b => exact absurd rfl h
  | _ => rfl
theorem no_pair2 {k : Kd} (h : k.word ≠ "pair") : secondK k = none := by
  cases k with
  | pair a b => exact absurd rfl h
  | _ => rfl
theorem no_pair3 {k c : Kd} (h : k.word ≠ "pair") : partsK k c = none := by
  cases k with
  | pair a b => exact absurd rfl h
  | _ => rfl
theorem no_either {k c d : Kd} (h : k.word ≠ "either") : casesK k c d = none := by
  cases k with
  | either a b => exact absurd rfl h
  | _ => rfl
def spMade (K : PySem.W.Frag) : Sp := fun vs H Q _ => ∃ (x y : V) (a b : Kd), vs = [x, y] ∧ KAt K H x a ∧ KAt K H y b ∧ ∀ v H', Same H H' → ResK K H' v (madeK a b) → Q v H'
theorem ok_made {f : Addr} {fd : FuncData} {j : Nat} (F : Fun K "made_from" "made_from" sMade f fd) (T : Tx K mg NO NU PA) : FnOk P w K mg base CX0 (j + 1) f fd ["kind", "other"] (spMade K) := by
  refine F.ok scMade (fun vs H Q E h => ?_) (fun cdv A outer s H vs Q E hr h => ?_)
  · obtain ⟨x, y, a, b, rfl, _⟩ := h
    rfl
  obtain ⟨x, y, a, b, rfl, ha, hb, q⟩ := h
  have u1 : (A.deeper (envOfC "made_from" (defScope sMade) s.heap.objs.size f cdv)).units + 130 < cLine := by
    have := hr.un
    omega
  refine ⟨_, (pss_one (ps_ret (pe_ifExp (pt_cmpR (op_inW u1) (pe_glob (v := .ref NO) (by rfl) T.mO rfl) (pe_tup (pa_cons (pv 0) (pa_cons (pv 1) pa_nil))) (by rfl)) pe_non (pe_tup (pa_cons pe_str (pa_cons (pv 0) (pa_cons (pv 1) pa_nil))))))), ?_⟩
  refine ⟨_, rfl, _, rfl, (by show 2 ≤ sizeLine; decide), fun p np => ?_⟩
  have s1 := same_new (o := .tup [x, y]) np
  refine ⟨kdD .none, [kdD a, kdD b], (kat_no T).dp, .tup (.inl (.inl upd_same)) (.cons (ha.keep (tups_same s1)).dp (.cons (hb.keep (tups_same s1)).dp .nil)), kd_lay _, lay2 a b, Nat.le_trans (Nat.min_le_right _ _) (by decide), _, rfl, ?_⟩
  rw [any2]
  by_cases c : a = .none ∨ b = .none
  · rw [decide_eq_true c]
    refine iteT (q _ _ s1 ?_)
    rw [show madeK a b = none from if_pos c]
    rfl
  · rw [decide_eq_false c]
    refine iteF ⟨_, rfl, _, rfl, (by show 3 ≤ sizeLine; decide), fun p2 np2 => ?_⟩
    have s2 := same_put (o := .tup [.str "from", x, y]) s1 np2
    refine q _ _ s2 ?_
    rw [show madeK a b = some (.frm a b) from if_neg c]
    exact dt_tup upd_same (.cons (.str _) (.cons (ha.keep (tups_same s2)).at_ (.cons (hb.keep (tups_same s2)).at_ .nil)))
theorem all2_get {α β : Type} {F : α → β → Prop} : ∀ {xs : List α} {ys : List β} {i : Nat} {x : α}, All2 F xs ys → xs[i]? = some x → ∃ y, ys[i]? = some y ∧ F x y
  | _, _, 0, _, .cons r _, h => by cases h; exact ⟨_, rfl, r⟩
  | _, _, i + 1, _, .cons _ t, h => all2_get (i := i) t h
def spNothing (K : PySem.W.Frag) : Sp := fun vs H Q _ => ∃ (x y : V), vs = [x, y] ∧ ∀ v, ResK K H v (some .none) → Q v H
theorem ok_knothing {f : Addr} {fd : FuncData} {j : Nat} (F : Fun K "kind_nothing" "kind_nothing" sKNothing f fd) (T : Tx K mg NO NU PA) : FnOk P w K mg base CX0 (j + 1) f fd ["_", "kinds"] (spNothing K) := by
  refine F.ok scKNothing (fun vs H Q E h => ?_) (fun cdv A outer s H vs Q E hr h => ?_)
  · obtain ⟨x, y, rfl, _⟩ := h
    rfl
  obtain ⟨x, y, rfl, q⟩ := h
  refine ⟨_, (pss_one (ps_ret (pe_glob (v := .ref NO) (by rfl) T.mO rfl))), ?_⟩
  exact q _ (kat_no T).at_
def spKnown (K : PySem.W.Frag) : Sp := fun vs H Q _ => ∃ (p : Addr) (y w z x : V) (k : Kd), vs = [.ref p, y] ∧ SqT K H p [w, z, x] ∧ KAt K H x k ∧ ∀ v, ResK K H v (some k) → Q v H
theorem ok_kknown {f : Addr} {fd : FuncData} {j : Nat} (F : Fun K "kind_known" "kind_known" sKKnown f fd) : FnOk P w K mg base CX0 (j + 1) f fd ["piece", "_"] (spKnown K) := by
  refine F.ok scKKnown (fun vs H Q E h => ?_) (fun cdv A outer s H vs Q E hr h => ?_)
  · obtain ⟨p, y, w, z, x, k, rfl, _⟩ := h
    rfl
  obtain ⟨p, y, w, z, x, k, rfl, hs, hk, q⟩ := h
  refine ⟨_, (pss_one (ps_ret (pe_ix ix_tup (pv 0) pe_int (fun _ _ => rfl)))), ?_⟩
  exact ⟨_, rfl, p, _, 2, x, rfl, rfl, hs, atI_nat (j := 2) rfl, q _ hk.at_⟩
def spLets (K : PySem.W.Frag) : Sp := fun vs H Q _ => ∃ (p l : Addr) (w z x y u : V) (a b : Kd), vs = [.ref p, .ref l] ∧ SqT K H p [w, z, x, y] ∧ KAt K H x a ∧ H l = some (.lst [u]) ∧ KAt K H u b ∧ ∀ v H', Same H H' → ResK K H' v (madeK a b) → Q v H'
theorem ok_klets {f : Addr} {fd : FuncData} {gm : Addr} {dm : FuncData} (F : Fun K "kind_lets" "kind_lets" sKLets f fd) (GM : FnOk P w K mg base CX0 1 gm dm ["kind", "other"] (spMade K)) (bM : Binds K dm ["kind", "other"] []) (kM : PySem.W.keepIn K (.ref gm) = true) (mM : mg "made_from" = some (.ref gm)) : FnOk P w K mg base CX0 2 f fd ["piece", "kinds"] (spLets K) := by
  refine F.ok scKLets (fun vs H Q E h => ?_) (fun cdv A outer s H vs Q E hr h => ?_)
  · obtain ⟨p, l, wv, z, x, y, u, a, b, rfl, _⟩ := h
    rfl
  obtain ⟨p, l, wv, z, x, y, u, a, b, rfl, hs, ha, hl, hb, q⟩ := h
  refine ⟨_, (pss_one (ps_ret (pe_call GM hr (by rfl) mM kM bM .nil pass0 (pa_cons (pe_ix ix_tup (pv 0) pe_int (fun _ _ => rfl)) (pa_cons (pe_ix ix_list (pv 1) pe_int (fun _ _ => rfl)) pa_nil))))), ?_⟩
  exact ⟨_, rfl, p, _, 2, x, rfl, rfl, hs, atI_nat (j := 2) rfl, _, rfl, l, _, 0, u, rfl, rfl, .inl (.inl hl), atI_nat (j := 0) rfl, x, u, a, b, rfl, ha, hb, q⟩
def spForK (K : PySem.W.Frag) : Sp := fun vs H Q _ => ∃ (l : Addr) (x u : V) (b : Kd), vs = [x, .ref l] ∧ H l = some (.lst [u]) ∧ KAt K H u b ∧ ∀ v H', Same H H' → ResK K H' v (madeK .number b) → Q v H'
theorem ok_kfor {f : Addr} {fd : FuncData} {gm : Addr} {dm : FuncData} (F : Fun K "kind_for" "kind_for" sKFor f fd) (T : Tx K mg NO NU PA) (GM : FnOk P w K mg base CX0 1 gm dm ["kind", "other"] (spMade K)) (bM : Binds K dm ["kind", "other"] []) (kM : PySem.W.keepIn K (.ref gm) = true) (mM : mg "made_from" = some (.ref gm)) : FnOk P w K mg base CX0 2 f fd ["_", "kinds"] (spForK K) := by
  refine F.ok scKFor (fun vs H Q E h => ?_) (fun cdv A outer s H vs Q E hr h => ?_)
  · obtain ⟨l, x, u, b, rfl, _⟩ := h
    rfl
  obtain ⟨l, x, u, b, rfl, hl, hb, q⟩ := h
  refine ⟨_, (pss_one (ps_ret (pe_call GM hr (by rfl) mM kM bM .nil pass0 (pa_cons (pe_glob (v := .ref NU) (by rfl) T.mU rfl) (pa_cons (pe_ix ix_list (pv 1) pe_int (fun _ _ => rfl)) pa_nil))))), ?_⟩
  exact ⟨_, rfl, l, _, 0, u, rfl, rfl, .inl (.inl hl), atI_nat (j := 0) rfl, .ref NU, u, .number, b, rfl, kat_nu T, hb, q⟩
def spThis (K : PySem.W.Frag) : Sp := fun vs H Q _ => ∃ (p l : Addr) (w z x u : V) (a b : Kd), vs = [.ref p, .ref l] ∧ SqT K H p [w, z, x] ∧ KAt K H x a ∧ H l = some (.lst [u]) ∧ KAt K H u b ∧ ∀ v H', Same H H' → ResK K H' v (some (.either b a)) → Q v H'
theorem ok_kthis {f : Addr} {fd : FuncData} {j : Nat} (F : Fun K "kind_this" "kind_this" sKThis f fd) : FnOk P w K mg base CX0 (j + 1) f fd ["piece", "kinds"] (spThis K) := by
  refine F.ok scKThis (fun vs H Q E h => ?_) (fun cdv A outer s H vs Q E hr h => ?_)
  · obtain ⟨p, l, wv, z, x, u, a, b, rfl, _⟩ := h
    rfl
  obtain ⟨p, l, wv, z, x, u, a, b, rfl, hs, ha, hl, hb, q⟩ := h
  refine ⟨_, (pss_one (ps_ret (pe_tup (pa_cons pe_str (pa_cons (pe_ix ix_list (pv 1) pe_int (fun _ _ => rfl)) (pa_cons (pe_ix ix_tup (pv 0) pe_int (fun _ _ => rfl)) pa_nil)))))), ?_⟩
  refine ⟨_, rfl, l, _, 0, u, rfl, rfl, .inl (.inl hl), atI_nat (j := 0) rfl, _, rfl, p, _, 2, x, rfl, rfl, hs, atI_nat (j := 2) rfl, (by show 3 ≤ sizeLine; decide), fun p2 np2 => ?_⟩
  have s2 := same_new (o := .tup [.str "either", u, x]) np2
  exact q _ _ s2 (dt_tup upd_same (.cons (.str _) (.cons (hb.keep (tups_same s2)).at_ (.cons (ha.keep (tups_same s2)).at_ .nil))))
def spThat (K : PySem.W.Frag) : Sp := fun vs H Q _ => ∃ (p l : Addr) (w z x u : V) (a b : Kd), vs = [.ref p, .ref l] ∧ SqT K H p [w, x, z] ∧ KAt K H x a ∧ H l = some (.lst [u]) ∧ KAt K H u b ∧ ∀ v H', Same H H' → ResK K H' v (some (.either a b)) → Q v H'
theorem ok_kthat {f : Addr} {fd : FuncData} {j : Nat} (F : Fun K "kind_that" "kind_that" sKThat f fd) : FnOk P w K mg base CX0 (j + 1) f fd ["piece", "kinds"] (spThat K) := by
  refine F.ok scKThat (fun vs H Q E h => ?_) (fun cdv A outer s H vs Q E hr h => ?_)
  · obtain ⟨p, l, wv, z, x, u, a, b, rfl, _⟩ := h
    rfl
  obtain ⟨p, l, wv, z, x, u, a, b, rfl, hs, ha, hl, hb, q⟩ := h
  refine ⟨_, (pss_one (ps_ret (pe_tup (pa_cons pe_str (pa_cons (pe_ix ix_tup (pv 0) pe_int (fun _ _ => rfl)) (pa_cons (pe_ix ix_list (pv 1) pe_int (fun _ _ => rfl)) pa_nil)))))), ?_⟩
  refine ⟨_, rfl, p, _, 1, x, rfl, rfl, hs, atI_nat (j := 1) rfl, _, rfl, l, _, 0, u, rfl, rfl, .inl (.inl hl), atI_nat (j := 0) rfl, (by show 3 ≤ sizeLine; decide), fun p2 np2 => ?_⟩
  have s2 := same_new (o := .tup [.str "either", x, u]) np2
  exact q _ _ s2 (dt_tup upd_same (.cons (.str _) (.cons (ha.keep (tups_same s2)).at_ (.cons (hb.keep (tups_same s2)).at_ .nil))))
def spTwoK (K : PySem.W.Frag) (φ : Kd → Kd → Option Kd) : Sp := fun vs H Q _ => ∃ (l : Addr) (x u1 u2 : V) (a b : Kd), vs = [x, .ref l] ∧ H l = some (.lst [u1, u2]) ∧ KAt K H u1 a ∧ KAt K H u2 b ∧ ∀ v H', Same H H' → ResK K H' v (φ a b) → Q v H'
theorem ok_kpair {f : Addr} {fd : FuncData} {j : Nat} (F : Fun K "kind_pair" "kind_pair" sKPair f fd) (T : Tx K mg NO NU PA) : FnOk P w K mg base CX0 (j + 1) f fd ["_", "kinds"] (spTwoK K pairK) := by
  refine F.ok scKPair (fun vs H Q E h => ?_) (fun cdv A outer s H vs Q E hr h => ?_)
  · obtain ⟨l, x, v1, v2, a, b, rfl, _⟩ := h
    rfl
  obtain ⟨l, x, v1, v2, a, b, rfl, hl, ha, hb, q⟩ := h
  have u1 : (A.deeper (envOfC "kind_pair" (defScope sKPair) s.heap.objs.size f cdv)).units + 130 < cLine := by
    have := hr.un
    omega
  refine ⟨_, (pss_one (ps_ret (pe_ifExp (pt_cmpR (op_inL u1) (pe_glob (v := .ref NO) (by rfl) T.mO rfl) (pv 1) (by rfl)) pe_non (pe_tup (pa_cons pe_str (pa_cons (pe_ix ix_list (pv 1) pe_int (fun _ _ => rfl)) (pa_cons (pe_ix ix_list (pv 1) pe_int (fun _ _ => rfl)) pa_nil))))))), ?_⟩
  refine ⟨_, rfl, kdD .none, [kdD a, kdD b], (kat_no T).dp, .lst (.inl (.inl hl)) (.cons ha.dp (.cons hb.dp .nil)), kd_lay _, lay2 a b, Nat.le_trans (Nat.min_le_right _ _) (by decide), _, rfl, ?_⟩
  rw [any2]
  by_cases c : a = .none ∨ b = .none
  · rw [decide_eq_true c]
    refine iteT (q _ H (Same.refl H) ?_)
    rw [show pairK a b = none from if_pos c]
    rfl
  · rw [decide_eq_false c]
    refine iteF ⟨_, rfl, l, _, 0, v1, rfl, rfl, .inl (.inl hl), atI_nat (j := 0) rfl, _, rfl, l, _, 1, v2, rfl, rfl, .inl (.inl hl), atI_nat (j := 1) rfl, (by show 3 ≤ sizeLine; decide), fun p2 np2 => ?_⟩
    have s2 := same_new (o := .tup [.str "pair", v1, v2]) np2
    refine q _ _ s2 ?_
    rw [show pairK a b = some (.pair a b) from if_neg c]
    exact dt_tup upd_same (.cons (.str _) (.cons (ha.keep (tups_same s2)).at_ (.cons (hb.keep (tups_same s2)).at_ .nil)))
def spOneK (K : PySem.W.Frag) (φ : Kd → Option Kd) : Sp := fun vs H Q _ => ∃ (l : Addr) (x u : V) (a : Kd), vs = [x, .ref l] ∧ H l = some (.lst [u]) ∧ KAt K H u a ∧ ∀ v, ResK K H v (φ a) → Q v H
theorem ok_kfirst {f : Addr} {fd : FuncData} {j : Nat} (F : Fun K "kind_first" "kind_first" sKFirst f fd) : FnOk P w K mg base CX0 (j + 1) f fd ["_", "kinds"] (spOneK K firstK) := by
  refine F.ok scKFirst (fun vs H Q E h => ?_) (fun cdv A outer s H vs Q E hr h => ?_)
  · obtain ⟨l, x, u, a, rfl, _⟩ := h
    rfl
  obtain ⟨l, x, u, a, rfl, hl, ha, q⟩ := h
  have u1 : (A.deeper (envOfC "kind_first" (defScope sKFirst) s.heap.objs.size f cdv)).units + 130 < cLine := by
    have := hr.un
    omega
  refine ⟨_, (pss_one (ps_ret (pe_ifExp (pt_cmpR (op_eqW u1) (pe_ix ix_tup (pe_ix ix_list (pv 1) pe_int (fun _ _ => rfl)) pe_int (fun _ _ => rfl)) pe_str (nomark _)) (pe_ix ix_tup (pe_ix ix_list (pv 1) pe_int (fun _ _ => rfl)) pe_int (fun _ _ => rfl)) pe_non))), ?_⟩
  obtain ⟨p, us, rfl, hs, hu⟩ := ha.view
  refine ⟨_, rfl, l, _, 0, _, rfl, rfl, .inl (.inl hl), atI_nat (j := 0) rfl, p, _, 0, _, rfl, rfl, hs, head_at _ _, .str a.word, .str "pair", .str _, .str _, word_lay a, w_pair, Nat.zero_le _, _, rfl, ?_⟩
  rw [s_eqv]
  by_cases c : a.word = "pair"
  · obtain ⟨c1, c2, rfl⟩ := is_pair c
    rw [decide_eq_true c]
    cases hu with
    | @cons x1 _ _ _ h1 hu =>
    cases hu with
    | @cons x2 _ _ _ h2 hu =>
    cases hu
    exact iteT ⟨_, rfl, l, _, 0, _, rfl, rfl, .inl (.inl hl), atI_nat (j := 0) rfl, p, _, 1, _, rfl, rfl, hs, atI_nat (j := 1) rfl, q _ h1.at_⟩
  · rw [decide_eq_false c]
    refine iteF (q _ ?_)
    rw [no_pair1 c]
    rfl
theorem ok_ksecond {f : Addr} {fd : FuncData} {j : Nat} (F : Fun K "kind_second" "kind_second" sKSecond f fd) : FnOk P w K mg base CX0 (j + 1) f fd ["_", "kinds"] (spOneK K secondK) := by
  refine F.ok scKSecond (fun vs H Q E h => ?_) (fun cdv A outer s H vs Q E hr h => ?_)
  · obtain ⟨l, x, u, a, rfl, _⟩ := h
    rfl
  obtain ⟨l, x, u, a, rfl, hl, ha, q⟩ := h
  have u1 : (A.deeper (envOfC "kind_second" (defScope sKSecond) s.heap.objs.size f cdv)).units + 130 < cLine := by
    have := hr.un
    omega
  refine ⟨_, (pss_one (ps_ret (pe_ifExp (pt_cmpR (op_eqW u1) (pe_ix ix_tup (pe_ix ix_list (pv 1) pe_int (fun _ _ => rfl)) pe_int (fun _ _ => rfl)) pe_str (nomark _)) (pe_ix ix_tup (pe_ix ix_list (pv 1) pe_int (fun _ _ => rfl)) pe_int (fun _ _ => rfl)) pe_non))), ?_⟩
  obtain ⟨p, us, rfl, hs, hu⟩ := ha.view
  refine ⟨_, rfl, l, _, 0, _, rfl, rfl, .inl (.inl hl), atI_nat (j := 0) rfl, p, _, 0, _, rfl, rfl, hs, head_at _ _, .str a.word, .str "pair", .str _, .str _, word_lay a, w_pair, Nat.zero_le _, _, rfl, ?_⟩
  rw [s_eqv]
  by_cases c : a.word = "pair"
  · obtain ⟨c1, c2, rfl⟩ := is_pair c
    rw [decide_eq_true c]
    cases hu with
    | @cons x1 _ _ _ h1 hu =>
    cases hu with
    | @cons x2 _ _ _ h2 hu =>
    cases hu
    exact iteT ⟨_, rfl, l, _, 0, _, rfl, rfl, .inl (.inl hl), atI_nat (j := 0) rfl, p, _, 2, _, rfl, rfl, hs, atI_nat (j := 2) rfl, q _ h2.at_⟩
  · rw [decide_eq_false c]
    refine iteF (q _ ?_)
    rw [no_pair2 c]
    rfl
theorem ok_kparts {f : Addr} {fd : FuncData} {j : Nat} (F : Fun K "kind_parts" "kind_parts" sKParts f fd) (T : Tx K mg NO NU PA) : FnOk P w K mg base CX0 (j + 1) f fd ["_", "kinds"] (spTwoK K partsK) := by
  refine F.ok scKParts (fun vs H Q E h => ?_) (fun cdv A outer s H vs Q E hr h => ?_)
  · obtain ⟨l, x, v1, v2, a, b, rfl, _⟩ := h
    rfl
  obtain ⟨l, x, v1, v2, a, b, rfl, hl, ha, hb, q⟩ := h
  have u1 : (A.deeper (envOfC "kind_parts" (defScope sKParts) s.heap.objs.size f cdv)).units + 130 < cLine := by
    have := hr.un
    omega
  refine ⟨_, (pss_one (ps_ret (pe_ifExp (PW.pt (pw_and (pt_cmpR (op_eqW u1) (pe_ix ix_tup (pe_ix ix_list (pv 1) pe_int (fun _ _ => rfl)) pe_int (fun _ _ => rfl)) pe_str (nomark _)) (pw_and1 (pt_cmpR (op_eqW u1) (pe_ix ix_tup (pe_ix ix_list (pv 1) pe_int (fun _ _ => rfl)) pe_int (fun _ _ => rfl)) (pe_glob (v := .ref NU) (by rfl) T.mU rfl) (nomark _))))) (pe_ix ix_list (pv 1) pe_int (fun _ _ => rfl)) pe_non))), ?_⟩
  obtain ⟨p, us, rfl, hs, hu⟩ := ha.view
  refine ⟨_, rfl, l, _, 0, _, rfl, rfl, .inl (.inl hl), atI_nat (j := 0) rfl, p, _, 0, _, rfl, rfl, hs, head_at _ _, .str a.word, .str "pair", .str _, .str _, word_lay a, w_pair, Nat.zero_le _, _, rfl, ?_⟩
  rw [s_eqv]
  by_cases c : a.word = "pair"
  · obtain ⟨c1, c2, rfl⟩ := is_pair c
    rw [decide_eq_true c]
    cases hu with
    | @cons x1 _ _ _ g1 hu =>
    cases hu with
    | @cons x2 _ _ _ g2 hu =>
    cases hu
    refine iteT ⟨_, rfl, l, _, 0, _, rfl, rfl, .inl (.inl hl), atI_nat (j := 0) rfl, p, _, 1, _, rfl, rfl, hs, atI_nat (j := 1) rfl, kdD c1, kdD .number, g1.dp, (kat_nu T).dp, kd_lay _, kd_lay _, by rw [kd_depth]; have := g1.deep; omega, _, rfl, ?_⟩
    rw [kd_eq]
    have e : partsK (.pair c1 c2) b = if c1 = .number then some b else none := rfl
    rw [e] at q
    by_cases d : c1 = .number
    · rw [decide_eq_true d]
      rw [if_pos d] at q
      exact iteT ⟨_, rfl, l, _, 1, _, rfl, rfl, .inl (.inl hl), atI_nat (j := 1) rfl, q _ H (Same.refl H) hb.at_⟩
    · rw [decide_eq_false d]
      rw [if_neg d] at q
      exact iteF (q _ H (Same.refl H) rfl)
  · rw [decide_eq_false c]
    refine iteF (iteF (q _ H (Same.refl H) ?_))
    rw [no_pair3 c]
    rfl
def spThreeK (K : PySem.W.Frag) (φ : Kd → Kd → Kd → Option Kd) : Sp := fun vs H Q _ => ∃ (l : Addr) (x v1 v2 v3 : V) (a b c : Kd), vs = [x, .ref l] ∧ H l = some (.lst [v1, v2, v3]) ∧ KAt K H v1 a ∧ KAt K H v2 b ∧ KAt K H v3 c ∧ ∀ v, ResK K H v (φ a b c) → Q v H
theorem ok_kcases {f : Addr} {fd : FuncData} {j : Nat} (F : Fun K "kind_cases" "kind_cases" sKCases f fd) : FnOk P w K mg base CX0 (j + 1) f fd ["_", "kinds"] (spThreeK K casesK) := by
  refine F.ok scKCases (fun vs H Q E h => ?_) (fun cdv A outer s H vs Q E hr h => ?_)
  · obtain ⟨l, x, v1, v2, v3, a, b, c3, rfl, _⟩ := h
    rfl
  obtain ⟨l, x, v1, v2, v3, a, b, c3, rfl, hl, ha, hb, hc, q⟩ := h
  have u1 : (A.deeper (envOfC "kind_cases" (defScope sKCases) s.heap.objs.size f cdv)).units + 130 < cLine := by
    have := hr.un
    omega
  refine ⟨_, (pss_one (ps_ret (pe_ifExp (PW.pt (pw_and (pt_cmpR (op_eqW u1) (pe_ix ix_tup (pe_ix ix_list (pv 1) pe_int (fun _ _ => rfl)) pe_int (fun _ _ => rfl)) pe_str (nomark _)) (pw_and1 (pt_cmpR (op_eqW u1) (pe_ix ix_list (pv 1) pe_int (fun _ _ => rfl)) (pe_ix ix_list (pv 1) pe_int (fun _ _ => rfl)) (nomark _))))) (pe_ix ix_list (pv 1) pe_int (fun _ _ => rfl)) pe_non))), ?_⟩
  obtain ⟨p, us, rfl, hs, hu⟩ := ha.view
  refine ⟨_, rfl, l, _, 0, _, rfl, rfl, .inl (.inl hl), atI_nat (j := 0) rfl, p, _, 0, _, rfl, rfl, hs, head_at _ _, .str a.word, .str "either", .str _, .str _, word_lay a, w_either, Nat.zero_le _, _, rfl, ?_⟩
  rw [s_eqv]
  by_cases c : a.word = "either"
  · obtain ⟨c1, c2, rfl⟩ := is_either c
    rw [decide_eq_true c]
    refine iteT ⟨_, rfl, l, _, 1, _, rfl, rfl, .inl (.inl hl), atI_nat (j := 1) rfl, _, rfl, l, _, 2, _, rfl, rfl, .inl (.inl hl), atI_nat (j := 2) rfl, kdD b, kdD c3, hb.dp, hc.dp, kd_lay _, kd_lay _, by rw [kd_depth]; have := hb.deep; omega, _, rfl, ?_⟩
    rw [kd_eq]
    have e : casesK (.either c1 c2) b c3 = if b = c3 then some b else none := rfl
    rw [e] at q
    by_cases d : b = c3
    · rw [decide_eq_true d]
      rw [if_pos d] at q
      exact iteT ⟨_, rfl, l, _, 1, _, rfl, rfl, .inl (.inl hl), atI_nat (j := 1) rfl, q _ hb.at_⟩
    · rw [decide_eq_false d]
      rw [if_neg d] at q
      exact iteF (q _ rfl)
  · rw [decide_eq_false c]
    refine iteF (iteF (q _ ?_))
    rw [no_either c]
    rfl
theorem ok_kcall {f : Addr} {fd : FuncData} {j : Nat} (F : Fun K "kind_call" "kind_call" sKCall f fd) : FnOk P w K mg base CX0 (j + 1) f fd ["_", "kinds"] (spTwoK K callK) := by
  refine F.ok scKCall (fun vs H Q E h => ?_) (fun cdv A outer s H vs Q E hr h => ?_)
  · obtain ⟨l, x, v1, v2, a, b, rfl, _⟩ := h
    rfl
  obtain ⟨l, x, v1, v2, a, b, rfl, hl, ha, hb, q⟩ := h
  have u1 : (A.deeper (envOfC "kind_call" (defScope sKCall) s.heap.objs.size f cdv)).units + 130 < cLine := by
    have := hr.un
    omega
  refine ⟨_, (pss_cons (ps_asg (pv 1) (pg_unl (by rfl) (pgs_cons (pg_name (i := 2) scKCall.nd rfl (.inl rfl)) (pgs_cons (pg_name (i := 3) scKCall.nd rfl (.inl rfl)) pgs_nil))))
    (pss_one (ps_ret (pe_ifExp (PW.pt (pw_and (pt_cmpR (op_eqW u1) (pe_ix ix_tup (pv 2) pe_int (fun _ _ => rfl)) pe_str (nomark _)) (pw_and1 (pt_cmpR (op_eqW u1) (pe_ix ix_tup (pv 2) pe_int (fun _ _ => rfl)) (pv 3) (nomark _))))) (pe_ix ix_tup (pv 2) pe_int (fun _ _ => rfl)) pe_non)))), ?_⟩
  obtain ⟨p, us, rfl, hs, hu⟩ := ha.view
  refine ⟨_, rfl, l, _, rfl, .inl (.inl hl), rfl, _, _, rfl, _, [], rfl, rfl, ?_⟩
  refine ⟨_, rfl, p, _, 0, _, rfl, rfl, hs, head_at _ _, .str a.word, .str "from", .str _, .str _, word_lay a, w_from, Nat.zero_le _, _, rfl, ?_⟩
  rw [s_eqv]
  by_cases c : a.word = "from"
  · obtain ⟨c1, c2, rfl⟩ := is_frm c
    rw [decide_eq_true c]
    cases hu with
    | @cons x1 _ _ _ g1 hu =>
    cases hu with
    | @cons x2 _ _ _ g2 hu =>
    cases hu
    refine iteT ⟨_, rfl, p, _, 1, _, rfl, rfl, hs, atI_nat (j := 1) rfl, _, rfl, kdD c1, kdD b, g1.dp, hb.dp, kd_lay _, kd_lay _, by rw [kd_depth]; have := g1.deep; omega, _, rfl, ?_⟩
    rw [kd_eq]
    have e : callK (.frm c1 c2) b = if c1 = b then some c2 else none := rfl
    rw [e] at q
    by_cases d : c1 = b
    · rw [decide_eq_true d]
      rw [if_pos d] at q
      exact iteT ⟨_, rfl, p, _, 2, _, rfl, rfl, hs, atI_nat (j := 2) rfl, q _ H (Same.refl H) g2.at_⟩
    · rw [decide_eq_false d]
      rw [if_neg d] at q
      exact iteF (q _ H (Same.refl H) rfl)
  · rw [decide_eq_false c]
    refine iteF (iteF (q _ H (Same.refl H) ?_))
    rw [no_frm c]
    rfl
theorem ok_kclimb {f : Addr} {fd : FuncData} {j : Nat} (F : Fun K "kind_climb" "kind_climb" sKClimb f fd) (T : Tx K mg NO NU PA) : FnOk P w K mg base CX0 (j + 1) f fd ["_", "kinds"] (spThreeK K climbK) := by
  refine F.ok scKClimb (fun vs H Q E h => ?_) (fun cdv A outer s H vs Q E hr h => ?_)
  · obtain ⟨l, x, v1, v2, v3, a, b, c3, rfl, _⟩ := h
    rfl
  obtain ⟨l, x, v1, v2, v3, a, b, c3, rfl, hl, ha, hb, hc, q⟩ := h
  have u1 : (A.deeper (envOfC "kind_climb" (defScope sKClimb) s.heap.objs.size f cdv)).units + 130 < cLine := by
    have := hr.un
    omega
  refine ⟨_, (pss_cons (ps_asg (pv 1) (pg_unl (by rfl) (pgs_cons (pg_name (i := 2) scKClimb.nd rfl (.inl rfl)) (pgs_cons (pg_name (i := 3) scKClimb.nd rfl (.inl rfl)) (pgs_cons (pg_name (i := 4) scKClimb.nd rfl (.inl rfl)) pgs_nil)))))
    (pss_one (ps_ret (pe_ifExp (PW.pt (pw_and (pt_cmpR (op_eqW u1) (pv 2) (pv 3) (nomark _)) (pw_and (pt_cmpR (op_neW u1) (pv 2) (pe_glob (v := .ref NO) (by rfl) T.mO rfl) (nomark _)) (pw_and1 (pt_cmpR (op_eqW u1) (pv 4) (pe_glob (v := .ref NU) (by rfl) T.mU rfl) (nomark _)))))) (pv 2) pe_non)))), ?_⟩
  refine ⟨_, rfl, l, _, rfl, .inl (.inl hl), rfl, _, _, rfl, _, _, rfl, _, [], rfl, rfl, ?_⟩
  have da := ha.deep
  have dc := hc.deep
  unfold climbK at q
  refine ⟨_, rfl, _, rfl, kdD a, kdD b, ha.dp, hb.dp, kd_lay _, kd_lay _, by rw [kd_depth]; omega, _, rfl, ?_⟩
  rw [kd_eq]
  by_cases c1 : a = b
  · rw [decide_eq_true c1]
    refine iteT ⟨_, rfl, kdD a, kdD .none, ha.dp, (kat_no T).dp, kd_lay _, kd_lay _, by rw [kd_depth]; omega, _, rfl, ?_⟩
    rw [kd_eq]
    by_cases c2 : a = .none
    · rw [decide_eq_true c2]
      rw [if_neg (fun z => z.2.1 c2)] at q
      exact iteF (iteF (q _ rfl))
    · rw [decide_eq_false c2]
      refine iteT ⟨_, rfl, kdD c3, kdD .number, hc.dp, (kat_nu T).dp, kd_lay _, kd_lay _, by rw [kd_depth]; omega, _, rfl, ?_⟩
      rw [kd_eq]
      by_cases d : c3 = .number
      · rw [decide_eq_true d]
        rw [if_pos ⟨c1, c2, d⟩] at q
        exact iteT ⟨_, rfl, q _ ha.at_⟩
      · rw [decide_eq_false d]
        rw [if_neg (fun z => d z.2.2)] at q
        exact iteF (q _ rfl)
  · rw [decide_eq_false c1]
    rw [if_neg (fun z => c1 z.1)] at q
    exact iteF (iteF (q _ rfl))
def spNumK (K : PySem.W.Frag) : Sp := fun vs H Q _ => ∃ (l : Addr) (x : V) (us : List V) (ks : List Kd), vs = [x, .ref l] ∧ H l = some (.lst us) ∧ All2 (KAt K H) us ks ∧ ks.length ≤ 3 ∧ ∀ v H', Same H H' → ResK K H' v (numK ks) → Q v H'
theorem ok_knum {f : Addr} {fd : FuncData} {j : Nat} (F : Fun K "kind_number" "kind_number" sKNumber f fd) (T : Tx K mg NO NU PA) (zAll : mg "all" = none) : FnOk P w K mg base CX0 (j + 1) f fd ["_", "kinds"] (spNumK K) := by
  refine F.ok scKNumber (fun vs H Q E h => ?_) (fun cdv A outer s H vs Q E hr h => ?_)
  · obtain ⟨l, x, us, ks, rfl, _⟩ := h
    rfl
  obtain ⟨l, x, us, ks, rfl, hl, hk, few, q⟩ := h
  have u1 : (A.deeper (envOfC "kind_number" (defScope sKNumber) s.heap.objs.size f cdv)).units + 130 < cLine := by
    have := hr.un
    omega
  refine ⟨_, (pss_one (ps_ret (pe_ifExp (pt_val (pe_callB (cr_all rfl) (by rfl) zAll (by decide +kernel) (pa_cons (pe_lc (own := [("kind", 2)]) (g := gName 2) (tt := tYes) (by rfl) scKNumber.nd (pi_list (pv 1)) (blkOk_by (N := kNumberN) (sc := defScope sKNumber) (by decide +kernel)) (fun _ _ _ _ _ => pg_name (i := 2) scKNumber.nd rfl (Or.inl rfl)) (fun _ _ _ _ _ => pts_nil) (fun _ _ _ _ _ => (pe_cmpR (r := rEqW K) (op_eqW u1) (pv 2) (pe_glob (v := .ref NU) (by rfl) T.mU rfl) (nomark _)))) pa_nil))) (pe_glob (v := .ref NU) (by rfl) T.mU rfl) pe_non))), ?_⟩
  refine ⟨_, rfl, l, rfl, ⟨_, .inl (.inl hl)⟩, fun D nD => ?_⟩
  have s1 : Same H (upd H D (.lst [])) := same_new nD
  refine lc_list (K := K) (a := l) (xs := us) (fun i H' => H' D = some (.lst ((ks.take i).map fun k => V.bl (decide (k = .number)))) ∧ Same H H') ⟨upd_same, s1⟩ (fun i H' _ ⟨_, sm⟩ => .inl (.inl (sm _ _ hl))) ?_ ?_
  · rintro i x1 H' hx ⟨hD, sm⟩
    obtain ⟨k1, hk1, ka⟩ := all2_get hk hx
    have ka := ka.keep (tups_same sm)
    refine ⟨rfl, _, rfl, kdD k1, kdD .number, ka.dp, (kat_nu T).dp, kd_lay _, kd_lay _, by rw [kd_depth]; have := ka.deep; omega, ?_⟩
    rw [kd_eq]
    refine ⟨_, hD, few_of' (by rw [List.length_map, List.length_take]; omega), ?_, same_own sm nD⟩
    rw [upd_same, List.take_add_one, hk1, List.map_append]
    rfl
  · rintro H' ⟨hD, sm⟩
    rw [List.take_of_length_le (Nat.le_of_eq hk.len.symm)] at hD
    refine ⟨D, ks.map fun k => decide (k = .number), rfl, .inl (.inl (by rw [hD, List.map_map]; rfl)), _, rfl, ?_⟩
    have e : (ks.map fun k => decide (k = .number)).all id = ks.all fun k => decide (k = .number) := by
      rw [List.all_map]
      rfl
    rw [e]
    unfold numK at q
    by_cases c : (ks.all fun k => decide (k = .number)) = true
    · rw [if_pos c] at q
      rw [c]
      exact iteT (q _ H' sm (kat_nu T).at_)
    · rw [if_neg c] at q
      rw [Bool.eq_false_iff.mpr c]
      exact iteF (q _ H' sm rfl)
end
end Kf
set_option Elab.async false
set_option linter.all false
set_option maxRecDepth 100000
set_option maxHeartbeats 3900000
/-! A lambda with parameters and captured names, handed as the second of two to a def, called there. Its frame is begun as that of a def within a def. -/
namespace LmY
open PySem PySem.Spec PyProof.Rows L2 LamX NdefX
/-- the lambda as a def within the def of X, whose code object is k -/
abbrev lamF (X : Cx) (ar : Arguments) (sc : Scope) (k : Addr) : NF := ⟨"<lambda>", X.env.qual ++ "<lambda>", ar, [], sc, cloFrom X.env.cells sc.names [], k⟩
/-- where its body runs: its names are N -/
abbrev lamX (X : Cx) (N : List Str) (ar : Arguments) (sc : Scope) (fo k : Addr) (A : Around) (outer : List Env) (sh : Shared) (hp : Hp) : Cx := ncx L2.CX0 X.prog X.w X.K X.mg X.base N (lamF X ar sc k) fo A outer sh hp L2.E0
/-- where the def runs that got it, entered from X's frame -/
abbrev gotX (X : Cx) (Ng : List Str) (x : Str) (sg : Scope) (g : Addr) (cg : Value) (sh : Shared) (hp : Hp) : Cx := (cxOf L2.CX0 X.prog X.w X.K X.mg X.base Ng x sg g cg X.A X.stack sh hp L2.E0).nox
/-- cells that no def of the text writes hold what they held -/
theorem cells_stay {cl : List (Str × Addr)} {fr : List Str} {ws : List (Option V)} {g g2 : Heap} {hp hp2 : Hp} {fs : List Addr} (un : Un fs [] hp hp2 g g2) (cs : CellsAt cl fr ws g hp) : CellsAt cl fr ws g2 hp2 := by
  have still : ∀ a, hp a = none → ∀ val, g.IsCell a val → g2.IsCell a val := fun a off val ⟨ob, at1, dat⟩ => by
    obtain ⟨_, at2⟩ := un.any at1 off List.not_mem_nil
    exact ⟨_, at2, dat⟩
  refine ⟨cs.len, fun nm a e => ?_, cs.inj, fun j nm e => ?_⟩
  · obtain ⟨off, val, cell⟩ := cs.all nm a e
    obtain ⟨ob, at1, _⟩ := id cell
    exact ⟨un.free a ob at1 off List.not_mem_nil, val, still a off val cell⟩
  · obtain ⟨a, e1, has⟩ := cs.has j nm e
    refine ⟨a, e1, fun z ez => ?_⟩
    obtain ⟨u, rz, cell⟩ := has z ez
    exact ⟨u, rz, still a (cs.all nm a e1).1 _ cell⟩
section
variable {X : Cx} {pins : List (Addr × Obj)} {σ : L2.St} {H : Hp} {s : Shared}
/-- a call that ends without an exception, told to its caller -/
theorem land {fo : Addr} {us : List Value} {Q : VK} (I : Inv X pins σ H s) (run : codeAny (model X.prog X.w) X.A (.call (.ref fo) ⟨us, []⟩) (CR L2.CX0 X.stack X.prog X.w H s Q L2.E0) s) :
    wpAny (model X.prog X.w) X.A (call (.ref fo) us) (EP X pins σ Q) X.xe s :=
  wpAny_call (codeAny_mono run fun res s2 told => match res, told with
    | .ok (.ret _), told => I.after told
    | .ok .next, told => told.elim
    | .ok .brk, told => told.elim
    | .ok .cont, told => told.elim
    | .error _, told => (show False from told).elim)
/-- x(e, ..), in the def that got the lambda as x -/
theorem pe_lact {N ps fr Ng : List Str} {js : List Nat} {qg : Str} {sg : Scope} {g fo k : Addr} {cg pm ctv : Value} {ar : Arguments} {body : Expr} {sc : Scope} {m i : Nat} {a : Str} {tb : TE} {p1 p2 : Pos} {e : Expr} {es : List Expr} {t : TA}
    (I : Inv X pins σ H s) (S : NScope N ps fr sc) (cp : Caps X (cloFrom X.env.cells sc.names []) fr js)
    (at_ : s.heap.get? fo = some (PySem.W.kla_obj "<lambda>" (X.env.qual ++ "<lambda>") ar body sc (cloFrom X.env.cells sc.names []) pm k ctv)) (off : H fo = none) (noF : fo ∉ frs X.stack)
    (bind : ∀ us : List Value, us.length = ps.length → bindArgs (PySem.W.kla_fn "<lambda>" (X.env.qual ++ "<lambda>") ar body sc (cloFrom X.env.cells sc.names []) pm (.ref k) ctv) ⟨us, []⟩ = pure (ps.zip us))
    (room : Room (m + 1) (X.A.deeper (envOfC qg sg s.heap.objs.size g cg)))
    (inner : ∀ (A : Around) (outer : List Env) (sh : Shared) (hp : Hp), Room m (A.deeper (envF (lamF X ar sc k) fo sh.heap.objs.size)) → PE (lamX X N ar sc fo k A outer sh hp) body tb)
    (hN : Ng[i]? = some a) (hv : Vis sg a) (pa : PA (gotX X Ng qg sg g cg s H) (e :: es) t)
    (h1 : (a == ("__debug__" : Str)) = false := by decide) (h2 : (a == ("__classdict__" : Str)) = false := by decide)
    (h3 : starEach (e :: es) (envOfC qg sg s.heap.objs.size g cg) = (false, eval e (envOfC qg sg s.heap.objs.size g cg)) :: starEach es (envOfC qg sg s.heap.objs.size g cg) := by rfl)
    (h4 : (backTo p2 (starEach es (envOfC qg sg s.heap.objs.size g cg))).any (·.1) = false := by rfl) :
    PE (gotX X Ng qg sg g cg s H) (.Call (.Name a p1) (e :: es) [] p2)
      (fun σZ HZ Q => σZ[i]? = some (some (.ref fo)) ∧ t σZ HZ fun vs H1 => vs.length = ps.length ∧ H1 k = some (CodeO k (X.env.qual ++ "<lambda>")) ∧ tb (startF N vs (js.map (slotAt σ))) H1 Q) := by
  refine ⟨fun pinsZ sZ σZ HZ Q IZ ⟨slot, rest⟩ => ?_⟩
  have same : ∀ {pn : List (Addr × Obj)} {τ : L2.St} {hp : Hp} {sh : Shared}, Inv (gotX X Ng qg sg g cg s H) pn τ hp sh → sh.heap.get? fo = some (PySem.W.kla_obj "<lambda>" (X.env.qual ++ "<lambda>") ar body sc (cloFrom X.env.cells sc.names []) pm k ctv) :=
    fun J => J.base.keep fo _ at_ off noF List.not_mem_nil
  have name := (pe_var (X := gotX X Ng qg sg g cg s H) (pos := p1) (i := i) hN hv h1 h2).run pinsZ sZ σZ HZ (fun val hp => val = .ref fo ∧ hp = HZ) IZ ⟨.ref fo, slot, rfl, rfl⟩
  refine wpAny_Call_Name_kw (thn name fun val s1 ⟨_, _, I1, rel, ev, eh⟩ => ?_)
  subst ev eh
  cases (show val = Value.ref fo from rel)
  refine PySem.W.callWith_F (first := []) ⟨_, _, _, _, same I1⟩ (thn (pa.run p2 pinsZ s1 σZ _ _ I1 rest) fun us s2 ⟨vs, H2, I2, rv, len, code, ht⟩ => ⟨⟨_, _, _, _, same I2⟩, land (us := us) I2 ?_⟩) h3 h4
  obtain ⟨⟨oc, fields, tq, o1, o2, o3⟩, _, _⟩ := I2.hok k _ code
  refine PySem.W.kla_callFunE room.depth (same I2) rfl S.co S.gen rfl ⟨k, oc, fields, tq, rfl, o1, o2, o3⟩ ?_
  rw [bind us (rv.length.symm.trans len)]
  refine wpAny_pure (wpAny_newFunctionEnv (fun y hy => S.nocell y hy) (fun y hy => S.par y.1 (List.of_mem_zip hy).1) (fun g1 ns1 more => ⟨I2.nolimit.fresh _ more, ?_⟩) S.kind)
  have grown : ∀ b ob, s2.heap.get? b = some ob → g1.get? b = some ob := fun b ob eb => more.extBut b ob (Nat.ne_of_lt (Heap.lt_size eb)) (Heap.get?_push_of_some _ eb)
  have J := inv_startN (CX := L2.CX0) (E := L2.E0) (tk := s2.toks + (ps.zip us).length) (F := lamF X ar sc k) (f := fo) S room.hd I2.env0 len rv (cells_stay I2.base (cells_of I cp)) ns1 grown
  refine PySem.W.kla_codeExpr (wpAny_mono ((inner _ _ s2 H2 (room.deeper _)).run [] _ _ H2 Q J ht) (fun _ s3 ⟨w3, H3, J3, r3, q3⟩ => ?_) fun _ _ bad => bad)
  exact ⟨w3, H3, J3.os, J3.bare, J3.base, J3.hok, r3, q3⟩
end
/-- what the def that got the lambda makes of its calls: TT -/
def Gives2 (X : Cx) (Ng : List Str) (x : Str) (sg : Scope) (g : Addr) (cg : Value) (bg : List Stmt) (a : Str) (q : Str) (ps : List Str) (m : Nat) (TT : (List V → Hp → VK → Prop) → V → Hp → VK → Prop) : Prop :=
  ∀ (fo k : Addr) (s : Shared) (H : Hp) (v : V) (Q : VK) (tl : List V → Hp → VK → Prop),
    (∀ (p1 p2 : Pos) (e : Expr) (es : List Expr) (t : TA), PA (gotX X Ng x sg g cg s H) (e :: es) t →
      starEach (e :: es) (envOfC x sg s.heap.objs.size g cg) = (false, eval e (envOfC x sg s.heap.objs.size g cg)) :: starEach es (envOfC x sg s.heap.objs.size g cg) → (backTo p2 (starEach es (envOfC x sg s.heap.objs.size g cg))).any (·.1) = false →
      PE (gotX X Ng x sg g cg s H) (.Call (.Name a p1) (e :: es) [] p2) (fun σZ HZ Q => σZ[1]? = some (some (.ref fo)) ∧ t σZ HZ fun vs H1 => vs.length = ps.length ∧ H1 k = some (CodeO k q) ∧ tl vs H1 Q)) →
    Room (m + 1) (X.A.deeper (envOfC x sg s.heap.objs.size g cg)) → H k = some (CodeO k q) → TT tl v H Q →
    ∃ t, PSs (gotX X Ng x sg g cg s H) bg t ∧ t { nx := fun _ H' => Q .non H', rt := Q } (L2.start Ng [v, .ref fo]) H
def tLam2 (T : List (Addr × Str)) (N : List Str) (js : List Nat) (TT : (List V → Hp → VK → Prop) → V → Hp → VK → Prop) (te : TE) (t : TE) : TE := fun σ H Q => te σ H fun v H0 => Tabs T H0 ∧ ∀ H1, ExtN H0 H1 → Tabs T H1 → TT (fun vs H' Q' => t (startF N vs (js.map (slotAt σ))) H' Q') v H1 Q
section
variable {X : Cx}
/-- x(e, lambda ..: body) -/
theorem pe_lamcall2 {T : List (Addr × Str)} {TT : (List V → Hp → VK → Prop) → V → Hp → VK → Prop} {x a0 a : Str} {g c tab : Addr} {m : Nat} {pg : Arguments} {bg : List Stmt} {sg : Scope} {dV kV doc pm cdv ct oc : Value} {an od : Option Addr} {osl : Array (Option Value)} {N Ng ps fr : List Str} {js : List Nat}
    {ar : Arguments} {body e : Expr} {sc : Scope} {te t : TE} {p0 p1 p2 : Pos} (gx : Gl X x) (mx : X.mg x = some (.ref g)) (kx : PySem.W.keepIn X.K (.ref g) = true)
    (look : X.K.lookup g = some ⟨oc, od, .func (PySem.W.fnOf x x pg bg sg dV kV doc pm an cdv ct), osl⟩) (code : PySem.W.codeIn X.K cdv x = true) (bx : L2.Binds X.K (PySem.W.fnOf x x pg bg sg dV kV doc pm an cdv ct) [a0, a] []) (Sg : FnScope Ng [a0, a] sg) (second : Ng[1]? = some a) (seen : Vis sg a)
    (gives : Gives2 X Ng x sg g cdv bg a (X.env.qual ++ "<lambda>") ps m TT) (pe : PE X e te)
    (own : TabB X.base X.mg c tab) (mine : X.env.code = .ref c) (inT : (tab, X.env.qual ++ "<lambda>") ∈ T) (sole : ∀ p ∈ T, p.1 = tab → p.2 = X.env.qual ++ "<lambda>") (room : Room (m + 2) X.A)
    (S : NScope N ps fr sc) (held : ndefB X.env.scope sc fr = true) (slots : js.map (fun j => X.N[j]?) = fr.map some) (plain : defaultsOf ar X.env = ([], []))
    (bind : ∀ (q : Str) (cl : List (Str × Addr)) (pm cv ctv : Value) (us : List Value), us.length = ps.length → bindArgs (PySem.W.kla_fn "<lambda>" q ar body sc cl pm cv ctv) ⟨us, []⟩ = pure (ps.zip us))
    (inner : ∀ (A : Around) (outer : List Env) (sh : Shared) (hp : Hp) (fo k : Addr), Room m (A.deeper (envF (lamF X ar sc k) fo sh.heap.objs.size)) → PE (lamX X N ar sc fo k A outer sh hp) body t)
    (h0 : (x == ("__debug__" : Str)) = false := by decide) (h1 : (a == ("__debug__" : Str)) = false := by decide) (h2 : (a == ("__classdict__" : Str)) = false := by decide)
    (h3 : starEach (e :: [.Lambda ar body sc p1]) X.env = (false, eval e X.env) :: starEach [.Lambda ar body sc p1] X.env := by rfl) :
    PE X (.Call (.Name x p0) [e, .Lambda ar body sc p1] [] p2) (tLam2 T N js TT te t) := by
  refine ⟨fun pins s σ H Q I reading => wpAny_Call_Name_kw (ld_glob I gx mx (PySem.W.callWith_K (h₀ := X.base) I.ok.mod.kin kx ?_ h3 (by rfl)) h0)⟩
  rw [h3]
  show wpAny _ _ (spliced ((false, eval e X.env) :: backTo p2 (starEach [.Lambda ar body sc p1] X.env))) _ _ s
  refine Calls.spliced_cons (thn (pe.run pins s σ H _ I reading) fun u s0 ⟨v, H0, I0, r0, tabs0, later⟩ => ?_)
  show wpAny _ _ (spliced ((false, eval (.Lambda ar body sc p1) X.env) :: backTo p2 (starEach [] X.env))) _ _ s0
  refine Calls.spliced_cons (lam_make2 I0 own mine inT sole tabs0 plain (fun y hy e => (ndef_free held y hy e).elim (fun z => I0.ok.has _ (.inl z)) fun z => I0.ok.has _ (.inr z)) fun fo k pmF ctF H1 s1 I1 grown tabs1 at_ off noF codeK => Calls.spliced_nil ⟨I1.kIn, land I1 ?_⟩)
  refine run_ofS (N := Ng) (ps := [a0, a]) (us := [u, .ref fo]) (vs := [v, .ref fo]) look code Sg room I1.env0 (bx s1 [u, .ref fo] I1.kIn rfl) (.cons r0 (.cons rfl .nil)) rfl fun room1 => ?_
  obtain ⟨ts, run, told⟩ := gives fo k s1 H1 v Q _ (fun q1 q2 e1 es1 t1 pa he hp => pe_lact (i := 1) (js := js) I1 S (Caps.made I1.ok (ndef_free held) (ndef_fr held) slots) at_ off noF (fun us hl => bind _ _ _ _ _ us hl) room1 (fun A outer sh hp2 r2 => inner A outer sh hp2 fo k r2) second seen pa h1 h2 he hp) room1 codeK (later H1 grown tabs1)
  exact ⟨ts, run.nox, told⟩
end
end LmY
set_option Elab.async false
set_option linter.all false
set_option maxRecDepth 100000
set_option maxHeartbeats 4000000
/-! del xs[a:] of a list. -/
namespace L2
open PySem PySem.Spec PyProof.Rows
open PySem.SeqAt
open PySem.AutoSeq1 (wpAny_loadPart')
open PySem.MeetsSeq PySem.MeetsSeq2 PySem.MeetsSeq3
theorem keep_first (a : Nat) (f : Nat → Bool) : ∀ (its : List Value) (m : Nat), (∀ k, k < m + its.length → f k = decide (a ≤ k)) → (its.zipIdx m).filterMap (fun p => if f p.2 = true then none else some p.1) = its.take (a - m)
  | [], m, _ => by simp
  | x :: r, m, h => by
    have ih := keep_first a f r (m + 1) fun k hk => h k (by rw [List.length_cons]; omega)
    have hm := h m (by rw [List.length_cons]; omega)
    rw [List.zipIdx_cons]
    by_cases c : a ≤ m
    · rw [List.filterMap_cons_none (by show (if f m = true then none else some x) = none; rw [hm, decide_eq_true c]; rfl), ih, show a - (m + 1) = 0 by omega, show a - m = 0 by omega]
      rfl
    · rw [List.filterMap_cons_some (b := x) (by show (if f m = true then none else some x) = some x; rw [hm, decide_eq_false c]; rfl), ih, show a - m = (a - (m + 1)) + 1 by omega]
      rfl
section
variable {prog : Program} {w : World} {A : Around} {E : Value → Shared → Prop} {s : Shared}
theorem bounds_from {a n : Nat} (ha : a ≤ n) : sliceBounds (some (a : Int)) none none n = ((a : Int), (n : Int), 1) := by
  simp only [sliceBounds, Option.getD_none]
  have h1 : ¬ ((a : Int) < 0) := by omega
  simp only [h1, if_false, show (1 : Int) > 0 by decide, if_true]
  congr 1
  omega
theorem sel_from {a n k : Nat} (hk : k < n) : (decide ((a : Int) ≤ (k : Int)) && decide ((k : Int) < (n : Int)) && (((k : Int) - (a : Int)) % 1 == 0)) = decide (a ≤ k) := by
  have e1 : decide ((k : Int) < (n : Int)) = true := decide_eq_true (by omega)
  have e2 : ((((k : Int) - (a : Int)) % 1) == 0) = true := by rw [Int.emod_one]; rfl
  rw [e1, e2, Bool.and_true, Bool.and_true]
  by_cases c : a ≤ k
  · rw [decide_eq_true c, decide_eq_true (by omega)]
  · rw [decide_eq_false c, decide_eq_false (by omega)]
/-- list.__delitem__ with a slice from a to the end -/
theorem delItem_from {l sl : Addr} {items : Array Value} {n : Nat} {vl vu : Value} {a : Nat} {Q : Unit → Shared → Prop}
    (here : s.heap.get? l = some { cls := .type "list", data := .seq items n })
    (cut : s.heap.IsSliceOf sl vl vu .none) (low : IsPart vl (some (a : Int))) (high : IsPart vu none) (within : a ≤ items.size)
    (room : items.size ≤ sizeLine) (h : ∀ f : Array Value → Array Value, f items = (items.toList.take a).toArray → Q () { s with heap := s.heap.update l (Obj.mapSeq f) }) :
    wpAny (model prog w) A (delItem (.ref l) (.ref sl)) Q E s := by
  have lst : s.heap.IsList l items := PySem.IsL.isList here
  obtain ⟨cutO, cutAt, cutCls, cutDat⟩ := id cut
  have slT : s.TypeIs (.ref sl) "slice" := ⟨cutO, cutAt, cutCls⟩
  have noStep : ¬ ((rawPart none == rawInt 0) = true) := fun z => by cases z
  refine wpAny_delItem_slot lst.typeIs (by decide) F.slot_list_delitem (wpAny_call_entry F.slot_list_delitem lst.typeIs F.entry_list_delitem ?_ (F.args_list_delitem_2 _ _))
  refine wpAny_bind (m := Builtin.List.listSubscript? (.ref sl)) ?_
  rw [Builtin.List.listSubscript?]
  refine wpAny_bind (wpAny_specialOf slT slice_no_index ?_)
  rw [if_pos (show (none : Option Value).isNone = true from rfl)]
  refine wpAny_pure (wpAny_bind (m := typeOf (.ref sl)) (wpAny_typeOf slT ?_))
  first
    | rw [if_neg (by decide)]
    | refine (PySem.W.KFB.if_not (by decide) ?_)
  rw [listSliceParts_eq]
  refine wpAny_bind (wpAny_bind (wpAny_field cutAt cutDat (x := .none) rfl (wpAny_bind (wpAny_listPart .none ?_))))
  rw [if_neg noStep]
  refine wpAny_bind (wpAny_field cutAt cutDat (x := vl) rfl (wpAny_bind (wpAny_listPart low (wpAny_bind (wpAny_field cutAt cutDat (x := vu) rfl (wpAny_bind (wpAny_listPart high (wpAny_pure ?_))))))))
  unfold Builtin.List.listItems
  refine wpAny_bind (wpAny_bind (wpAny_seqItems here rfl (wpAny_pure (wpAny_bind (wpAny_of_eq ((sliceIndices_raw (some (a : Int)) none none items.size (by simp)).trans (congrArg (pure : Int × Int × Int → Sem (Int × Int × Int)) (bounds_from within))) (wpAny_bind (wpAny_rule ?_)))))))
  refine wpAny_bind (m := updateSeq l _) (wpAny_updateSeq (hz := room) (_hz' := ?_) here rfl ?_)
  · refine wpAny_bind (wpAny_letGo (wpAny_pure ⟨.none, rfl, h _ ?_⟩))
    exact congrArg List.toArray (keep_first a _ items.toList 0 fun k hk => (if_pos (show (1 : Int) > 0 by decide)).trans (sel_from (by rw [Nat.zero_add, Array.length_toList] at hk; exact hk)))
  · refine Nat.le_trans (Nat.le_trans (by rw [List.size_toArray]; exact List.length_filterMap_le _ _) ?_) (Nat.le_add_right _ _)
    rw [List.length_zipIdx, Array.length_toList]
    exact room
end
section
variable {X : Cx}
/-- del xs[a:], at the value level -/
theorem del_from {pins : List (Addr × Obj)} {s : Shared} {σ : St} {H : Hp} {l sl : Addr} {xs : List V} {a : Int} {vl vu : Value} {Q : Unit → Shared → Prop} (I : Inv X pins σ H s)
    (hH : H l = some (.lst xs)) (hs : s.heap.IsSliceOf sl vl vu .none) (pl : IsPart vl (some a)) (pu : IsPart vu none) (h0 : 0 ≤ a) (ha : a ≤ xs.length)
    (h : ∀ s', Inv X pins σ (upd H l (.lst (xs.take a.toNat))) s' → Q () s') :
    wpAny (model X.prog X.w) X.A (delItem (.ref l) (.ref sl)) Q X.xe s := by
  obtain ⟨z, its, n, r, hl, e⟩ := I.lstM hH
  obtain ⟨a', rfl⟩ := Int.eq_ofNat_of_zero_le h0
  simp only [Int.toNat_natCast] at h
  refine delItem_from (a := a') e hs pl pu (by rw [List.size_toArray]; omega) (by rw [List.size_toArray]; omega) fun f hf => h _ ?_
  refine I.lset (its' := its.take a') (t' := s.toks) hH e hf (r.take _) ?_
  rw [List.length_take]
  omega
/-- del xs[a:] -/
def tDelF (to : TE) (tl : TO) : TS := fun D σ H => to σ H fun x H1 => tl σ H1 fun lo H2 => ∃ (l : Addr) (xs : List V) (a : Int), x = .ref l ∧ lo = some a ∧ H2 l = some (.lst xs) ∧ 0 ≤ a ∧ a ≤ xs.length ∧ D.nx σ (upd H2 l (.lst (xs.take a.toNat)))
theorem ps_delF {o : Expr} {lo : Option Expr} {to : TE} {tl : TO} {tpos p2 pos : Pos} (ho : PE X o to) (hl : PO X lo tl) : PS X (.Delete [.Subscript o (.Slice lo none none p2) tpos] pos) (tDelF to tl) := by
  refine ⟨fun pins s σ H D I h => ?_⟩
  refine wpAny_Delete (wpAny_deleteEach_cons (wpAny_delete_Subscript (thn (ho.run pins s σ H _ I h) fun u s1 ⟨x, H1, I1, rx, q1⟩ => ?_)))
  refine wpAny_Slice (thn (hl.run pins s1 σ H1 _ I1 q1) fun vl s2 ⟨l, H2, I2, pl, q2⟩ => ?_)
  rw [evalPart_none]
  refine wpAny_pure ?_
  refine wpAny_pure ?_
  obtain ⟨a, xs, k, rfl, rfl, hH, h0, ha, q⟩ := q2
  cases (show u = Value.ref a from rx)
  have I4 : Inv X pins σ H2 { s2 with heap := s2.heap.push { cls := .type "slice", data := .fields #[vl, .none, .none] } } := I2.kept (t' := s2.toks) fun b ob q => Heap.get?_push_of_some _ q
  exact del_from I4 hH (Heap.IsSliceOf.new ..) pl .none h0 ha fun s3 I3 => wpAny_deleteEach_nil ⟨σ, _, I3, q⟩
end
end L2
set_option Elab.async false
set_option linter.all false
set_option maxRecDepth 100000
set_option maxHeartbeats 4000000
set_option pp.maxSteps 500
/-! popped, closings. -/
namespace Kf
open PySem PySem.Spec PyProof.Rows L2 Sx RZ
abbrev sPopped : Stmt := top 16
abbrev poppedN : List Str := ["done", "many", "first", "last"]
theorem scPopped : FnScope poppedN ["done", "many"] (defScope sPopped) := ⟨rfl, rfl, rfl, by decide +kernel, rfl, by decide +kernel, by decide +kernel⟩
abbrev sCl : Stmt := top 46
abbrev clN : List Str := ["piece", "kinds", "word"]
theorem scCl : FnScope clN ["piece", "kinds"] (defScope sCl) := ⟨rfl, rfl, rfl, by decide +kernel, rfl, by decide +kernel, by decide +kernel⟩
theorem cut_fromG (xs : List V) {a : Nat} (h : a ≤ xs.length) : cutV xs (some (a : Int)) none = xs.drop a := by
  unfold cutV
  rw [show HT.sIx xs.length 0 (some (a : Int)) = min a xs.length from HT.sIx_nat _ 0 a, HT.sIx_none, Nat.min_eq_left h]
  exact List.take_of_length_le (by rw [List.length_drop]; exact Nat.le_refl _)
section
variable {P : Program} {w : World} {K : PySem.W.Frag} {mg : Str → Option Value} {base : Heap}
def spPopped : Sp := fun vs H Q _ => ∃ (l : Addr) (a b : List V), vs = [.ref l, .int (b.length : Int)] ∧ H l = some (.lst (a ++ b)) ∧ ∀ q, H q = none → Q (.ref q) (upd (upd H q (.lst b)) l (.lst a))
theorem ok_popped {f : Addr} {fd : FuncData} {j : Nat} (F : Fun K "popped" "popped" sPopped f fd) (zLen : mg "len" = none) : FnOk P w K mg base CX0 (j + 1) f fd ["done", "many"] spPopped := by
  refine F.ok scPopped (fun vs H Q E h => ?_) (fun cdv A outer s H vs Q E hr h => ?_)
  · obtain ⟨l, a, b, rfl, _⟩ := h
    rfl
  obtain ⟨l, a, b, rfl, hl, q⟩ := h
  refine ⟨_, (pss_cons (ps_set (i := 2) scPopped.nd rfl (.inl rfl) (pe_op op_sub (pe_callB call_len_seq (by rfl) zLen PySem.boot_len (pa_cons (pv 0) pa_nil)) (pv 1)))
    (pss_cons (ps_set (i := 3) scPopped.nd rfl (.inl rfl) (pe_slice sl_list (pv 0) (po_some (pv 2)) po_none))
    (pss_cons (ps_delF (pv 0) (po_some (pv 2)))
    (pss_one (ps_ret (pv 3)))))), ?_⟩
  refine ⟨_, rfl, l, _, rfl, .inl (.inl (.inl hl)), _, rfl, _, _, rfl, rfl, ?_⟩
  have e1 : (((a ++ b).length : Nat) : Int) - (b.length : Int) = ((a.length : Nat) : Int) := by
    rw [List.length_append]
    omega
  refine ⟨_, rfl, _, rfl, _, rfl, l, _, rfl, .inl (.inl hl), fun c nc => ?_⟩
  rw [e1, cut_fromG _ (by rw [List.length_append]; omega), List.drop_left]
  have hl2 := (same_new (o := .lst b) nc) _ _ hl
  refine ⟨_, rfl, _, rfl, _, rfl, l, _, _, rfl, rfl, hl2, by omega, by rw [List.length_append]; omega, ?_⟩
  rw [e1, Int.toNat_natCast, List.take_left]
  exact ⟨_, rfl, q c nc⟩
/-! ### closings -/
def oS : Option Str → V
  | none => .non
  | some z => .str z
def dueAt (K : PySem.W.Frag) (H : Hp) (v : V) : Option Kd → Prop
  | none => v = .non
  | some k => KAt K H v k
theorem dueAt.keep {H H' : Hp} {v : V} : ∀ {d : Option Kd}, dueAt K H v d → Tups H H' → dueAt K H' v d
  | none, h, _ => h
  | some k, h, t => KAt.keep (show KAt K H v k from h) t
abbrev Cl := Option Str × Option Str × Option Kd
abbrev noCl : Cl := (none, none, none)
def ClAt (K : PySem.W.Frag) (H : Hp) (c : Cl) (v : V) : Prop := ∃ q d, v = .ref q ∧ H q = some (.tup [oS c.1, oS c.2.1, d]) ∧ dueAt K H d c.2.2
theorem ClAt.keep {H H' : Hp} (t : Tups H H') (c : Cl) (v : V) (h : ClAt K H c v) : ClAt K H' c v := by
  obtain ⟨q, d, e, hq, hd⟩ := h
  exact ⟨q, d, e, t _ _ hq, hd.keep t⟩
inductive ClOk (K : PySem.W.Frag) (H : Hp) : Str → List V → List Kd → List Cl → Prop
  | lets {z : Str} {x y : V} {k : Kd} {ks : List Kd} (hx : KAt K H x k) : ClOk K H "lets" [.str z, x, y] ks [(none, some z, some k)]
  | for_ {z : Str} {y : V} {ks : List Kd} : ClOk K H "for" [.str z, y] ks [(some z, none, none)]
  | parts {x u : Str} {y1 y2 : V} {a b c : Kd} : ClOk K H "parts" [y1, .str x, .str u, y2] [.pair a b, c] [noCl, (some x, some u, some b)]
  | cases {u v : Str} {y1 y2 y3 : V} {a b c d : Kd} : ClOk K H "cases" [y1, .str u, y2, .str v, y3] [.either a b, c, d] [noCl, (none, some u, some a), (none, some v, some b)]
  | climb {x u : Str} {y1 y2 y3 : V} {k c d : Kd} : ClOk K H "climb" [y1, .str x, .str u, y2, y3] [k, c, d] [noCl, (some x, some u, some k), noCl]
  | other {wd : Str} {xs : List V} {ks : List Kd} (n1 : wd ≠ "lets") (n2 : wd ≠ "for") (n3 : wd ≠ "parts") (n4 : wd ≠ "cases") (n5 : wd ≠ "climb") : ClOk K H wd xs ks (List.replicate ks.length noCl)
def spCl (K : PySem.W.Frag) : Sp := fun vs H Q _ => ∃ (p l : Addr) (wd : Str) (xs us : List V) (ks : List Kd) (cl : List Cl), vs = [.ref p, .ref l] ∧ SqT K H p (.str wd :: xs) ∧ H l = some (.lst us) ∧ All2 (KAt K H) us ks ∧ ks.length ≤ 3 ∧ ClOk K H wd xs ks cl ∧
  ∀ q H' ws, Same H H' → H q = none → H' q = some (.lst ws) → All2 (ClAt K H') cl ws → Q (.ref q) H'
theorem n_fl : ¬ ("for" : Str) = "lets" := by decide +kernel
theorem n_pl : ¬ ("parts" : Str) = "lets" := by decide +kernel
theorem n_pf : ¬ ("parts" : Str) = "for" := by decide +kernel
theorem n_cl : ¬ ("cases" : Str) = "lets" := by decide +kernel
theorem n_cf : ¬ ("cases" : Str) = "for" := by decide +kernel
theorem n_cp : ¬ ("cases" : Str) = "parts" := by decide +kernel
theorem n_kl : ¬ ("climb" : Str) = "lets" := by decide +kernel
theorem n_kf : ¬ ("climb" : Str) = "for" := by decide +kernel
theorem n_kp : ¬ ("climb" : Str) = "parts" := by decide +kernel
theorem n_kc : ¬ ("climb" : Str) = "cases" := by decide +kernel
theorem rep_all {α β : Type} {F : α → β → Prop} {a : α} {b : β} (h : F a b) : ∀ n : Nat, All2 F (List.replicate n a) (List.replicate n [b]).flatten
  | 0 => .nil
  | n + 1 => by
    rw [List.replicate_succ, List.replicate_succ, List.flatten_cons]
    exact .cons h (rep_all h n)
theorem eqYes {a b : Str} {A B : Prop} (h : a = b) (x : A) : if decide (V.str a = V.str b) = true then A else B := by
  rw [h, decide_eq_true rfl]
  exact iteT x
theorem eqNo {a b : Str} {A B : Prop} (h : ¬ a = b) (x : B) : if decide (V.str a = V.str b) = true then A else B := by
  rw [decide_eq_false (fun z => h (by injection z))]
  exact iteF x
theorem ok_cl {f : Addr} {fd : FuncData} {j : Nat} (F : Fun K "closings" "closings" sCl f fd) (zLen : mg "len" = none) : FnOk P w K mg base CX0 (j + 1) f fd ["piece", "kinds"] (spCl K) := by
  refine F.ok scCl (fun vs H Q E h => ?_) (fun cdv A outer s H vs Q E hr h => ?_)
  · obtain ⟨p, l, wd, xs, us, ks, cl, rfl, _⟩ := h
    rfl
  obtain ⟨p, l, wd, xs, us, ks, cl, rfl, hs, hl, hk, few, hc, q⟩ := h
  refine ⟨_, (pss_cons (ps_set (i := 2) scCl.nd rfl (.inl rfl) (pe_ix ix_tup (pv 0) pe_int (fun _ _ => rfl)))
    (pss_cons (ps_if (pt_cmpR op_eq (pv 2) pe_str (nomark _)) (pss_one (ps_ret (pe_lst (pa_cons (pe_tup (pa_cons pe_non (pa_cons (pe_ix ix_tup (pv 0) pe_int (fun _ _ => rfl)) (pa_cons (pe_ix ix_tup (pv 0) pe_int (fun _ _ => rfl)) pa_nil)))) pa_nil)))) pss_nil)
    (pss_cons (ps_if (pt_cmpR op_eq (pv 2) pe_str (nomark _)) (pss_one (ps_ret (pe_lst (pa_cons (pe_tup (pa_cons (pe_ix ix_tup (pv 0) pe_int (fun _ _ => rfl)) (pa_cons pe_non (pa_cons pe_non pa_nil)))) pa_nil)))) pss_nil)
    (pss_cons (ps_if (pt_cmpR op_eq (pv 2) pe_str (nomark _)) (pss_one (ps_ret (pe_lst (pa_cons (pe_tup (pa_cons pe_non (pa_cons pe_non (pa_cons pe_non pa_nil)))) (pa_cons (pe_tup (pa_cons (pe_ix ix_tup (pv 0) pe_int (fun _ _ => rfl)) (pa_cons (pe_ix ix_tup (pv 0) pe_int (fun _ _ => rfl)) (pa_cons (pe_ix ix_tup (pe_ix ix_list (pv 1) pe_int (fun _ _ => rfl)) pe_int (fun _ _ => rfl)) pa_nil)))) pa_nil))))) pss_nil)
    (pss_cons (ps_if (pt_cmpR op_eq (pv 2) pe_str (nomark _)) (pss_one (ps_ret (pe_lst (pa_cons (pe_tup (pa_cons pe_non (pa_cons pe_non (pa_cons pe_non pa_nil)))) (pa_cons (pe_tup (pa_cons pe_non (pa_cons (pe_ix ix_tup (pv 0) pe_int (fun _ _ => rfl)) (pa_cons (pe_ix ix_tup (pe_ix ix_list (pv 1) pe_int (fun _ _ => rfl)) pe_int (fun _ _ => rfl)) pa_nil)))) (pa_cons (pe_tup (pa_cons pe_non (pa_cons (pe_ix ix_tup (pv 0) pe_int (fun _ _ => rfl)) (pa_cons (pe_ix ix_tup (pe_ix ix_list (pv 1) pe_int (fun _ _ => rfl)) pe_int (fun _ _ => rfl)) pa_nil)))) pa_nil)))))) pss_nil)
    (pss_cons (ps_if (pt_cmpR op_eq (pv 2) pe_str (nomark _)) (pss_one (ps_ret (pe_lst (pa_cons (pe_tup (pa_cons pe_non (pa_cons pe_non (pa_cons pe_non pa_nil)))) (pa_cons (pe_tup (pa_cons (pe_ix ix_tup (pv 0) pe_int (fun _ _ => rfl)) (pa_cons (pe_ix ix_tup (pv 0) pe_int (fun _ _ => rfl)) (pa_cons (pe_ix ix_list (pv 1) pe_int (fun _ _ => rfl)) pa_nil)))) (pa_cons (pe_tup (pa_cons pe_non (pa_cons pe_non (pa_cons pe_non pa_nil)))) pa_nil)))))) pss_nil)
    (pss_one (ps_ret (pe_op op_rep (pe_lst (pa_cons (pe_tup (pa_cons pe_non (pa_cons pe_non (pa_cons pe_non pa_nil)))) pa_nil)) (pe_callB call_len_seq (by rfl) zLen PySem.boot_len (pa_cons (pv 1) pa_nil))))))))))), ?_⟩
  refine ⟨_, rfl, p, _, 0, _, rfl, rfl, hs, head_at _ _, ?_⟩
  cases hc with
  | @lets z x y k _ hx =>
    refine ⟨_, rfl, rfl, _, rfl, eqYes rfl ?_⟩
    refine ⟨_, rfl, p, _, 1, _, rfl, rfl, hs, atI_nat (j := 1) rfl, _, rfl, p, _, 2, _, rfl, rfl, hs, atI_nat (j := 2) rfl, (by show 3 ≤ sizeLine; decide), fun p1 n1 => ?_⟩
    have t1 := same_new (o := .tup [.non, .str z, x]) n1
    refine ⟨(by show 1 ≤ sizeLine; decide), fun p2 n2 => ?_⟩
    have t2 := same_new (o := .lst [.ref p1]) n2
    exact q p2 _ _ (t1.trans t2) (t1.free n2) upd_same (.one ⟨p1, x, rfl, t2 _ _ upd_same, (show KAt K _ x k from hx.keep (tups_same (t1.trans t2)))⟩)
  | @for_ z y _ =>
    refine ⟨_, rfl, rfl, _, rfl, eqNo n_fl ⟨_, rfl, rfl, _, rfl, eqYes rfl ?_⟩⟩
    refine ⟨_, rfl, p, _, 1, _, rfl, rfl, hs, atI_nat (j := 1) rfl, (by show 3 ≤ sizeLine; decide), fun p1 n1 => ?_⟩
    have t1 := same_new (o := .tup [.str z, .non, .non]) n1
    refine ⟨(by show 1 ≤ sizeLine; decide), fun p2 n2 => ?_⟩
    have t2 := same_new (o := .lst [.ref p1]) n2
    exact q p2 _ _ (t1.trans t2) (t1.free n2) upd_same (.one ⟨p1, .non, rfl, t2 _ _ upd_same, rfl⟩)
  | @parts x u y1 y2 a b c =>
    refine ⟨_, rfl, rfl, _, rfl, eqNo n_pl ⟨_, rfl, rfl, _, rfl, eqNo n_pf ⟨_, rfl, rfl, _, rfl, eqYes rfl ?_⟩⟩⟩
    cases hk with
    | @cons u1 _ _ _ ka hk =>
    obtain ⟨pk, uk, rfl, sk, hu⟩ := ka.view
    cases hu with
    | @cons x1 _ _ _ g1 hu =>
    cases hu with
    | @cons x2 _ _ _ g2 hu =>
    cases hu
    refine ⟨(by show 3 ≤ sizeLine; decide), fun p1 n1 => ?_⟩
    have t1 := same_new (o := .tup [.non, .non, .non]) n1
    refine ⟨_, rfl, p, _, 2, _, rfl, rfl, sqT_up t1 hs, atI_nat (j := 2) rfl, _, rfl, p, _, 3, _, rfl, rfl, sqT_up t1 hs, atI_nat (j := 3) rfl, _, rfl, l, _, 0, _, rfl, rfl, .inl (.inl (t1 _ _ hl)), atI_nat (j := 0) rfl, pk, _, 2, _, rfl, rfl, sqT_up t1 sk, atI_nat (j := 2) rfl, (by show 3 ≤ sizeLine; decide), fun p2 n2 => ?_⟩
    have t2 := same_new (o := .tup [.str x, .str u, x2]) n2
    refine ⟨(by show 2 ≤ sizeLine; decide), fun p3 n3 => ?_⟩
    have t3 := same_new (o := .lst [.ref p1, .ref p2]) n3
    have tt := t1.trans (t2.trans t3)
    exact q p3 _ _ tt ((t1.trans t2).free n3) upd_same (.cons ⟨p1, .non, rfl, (t2.trans t3) _ _ upd_same, rfl⟩ (.one ⟨p2, x2, rfl, t3 _ _ upd_same, (show KAt K _ x2 b from g2.keep (tups_same tt))⟩))
  | @cases u v y1 y2 y3 a b c d =>
    refine ⟨_, rfl, rfl, _, rfl, eqNo n_cl ⟨_, rfl, rfl, _, rfl, eqNo n_cf ⟨_, rfl, rfl, _, rfl, eqNo n_cp ⟨_, rfl, rfl, _, rfl, eqYes rfl ?_⟩⟩⟩⟩
    cases hk with
    | @cons u1 _ _ _ ka hk =>
    obtain ⟨pk, uk, rfl, sk, hu⟩ := ka.view
    cases hu with
    | @cons x1 _ _ _ g1 hu =>
    cases hu with
    | @cons x2 _ _ _ g2 hu =>
    cases hu
    refine ⟨(by show 3 ≤ sizeLine; decide), fun p1 n1 => ?_⟩
    have t1 := same_new (o := .tup [.non, .non, .non]) n1
    refine ⟨_, rfl, p, _, 2, _, rfl, rfl, sqT_up t1 hs, atI_nat (j := 2) rfl, _, rfl, l, _, 0, _, rfl, rfl, .inl (.inl (t1 _ _ hl)), atI_nat (j := 0) rfl, pk, _, 1, _, rfl, rfl, sqT_up t1 sk, atI_nat (j := 1) rfl, (by show 3 ≤ sizeLine; decide), fun p2 n2 => ?_⟩
    have t2 := same_new (o := .tup [.non, .str u, x1]) n2
    have t12 := t1.trans t2
    refine ⟨_, rfl, p, _, 4, _, rfl, rfl, sqT_up t12 hs, atI_nat (j := 4) rfl, _, rfl, l, _, 0, _, rfl, rfl, .inl (.inl (t12 _ _ hl)), atI_nat (j := 0) rfl, pk, _, 2, _, rfl, rfl, sqT_up t12 sk, atI_nat (j := 2) rfl, (by show 3 ≤ sizeLine; decide), fun p3 n3 => ?_⟩
    have t3 := same_new (o := .tup [.non, .str v, x2]) n3
    refine ⟨(by show 3 ≤ sizeLine; decide), fun p4 n4 => ?_⟩
    have t4 := same_new (o := .lst [.ref p1, .ref p2, .ref p3]) n4
    have tt := t12.trans (t3.trans t4)
    exact q p4 _ _ tt ((t12.trans t3).free n4) upd_same (.cons ⟨p1, .non, rfl, (t2.trans (t3.trans t4)) _ _ upd_same, rfl⟩ (.cons ⟨p2, x1, rfl, (t3.trans t4) _ _ upd_same, (show KAt K _ x1 a from g1.keep (tups_same tt))⟩ (.one ⟨p3, x2, rfl, t4 _ _ upd_same, (show KAt K _ x2 b from g2.keep (tups_same tt))⟩)))
  | @climb x u y1 y2 y3 k c d =>
    refine ⟨_, rfl, rfl, _, rfl, eqNo n_kl ⟨_, rfl, rfl, _, rfl, eqNo n_kf ⟨_, rfl, rfl, _, rfl, eqNo n_kp ⟨_, rfl, rfl, _, rfl, eqNo n_kc ⟨_, rfl, rfl, _, rfl, eqYes rfl ?_⟩⟩⟩⟩⟩
    cases hk with
    | @cons u1 _ _ _ ka hk =>
    refine ⟨(by show 3 ≤ sizeLine; decide), fun p1 n1 => ?_⟩
    have t1 := same_new (o := .tup [.non, .non, .non]) n1
    refine ⟨_, rfl, p, _, 2, _, rfl, rfl, sqT_up t1 hs, atI_nat (j := 2) rfl, _, rfl, p, _, 3, _, rfl, rfl, sqT_up t1 hs, atI_nat (j := 3) rfl, _, rfl, l, _, 0, _, rfl, rfl, .inl (.inl (t1 _ _ hl)), atI_nat (j := 0) rfl, (by show 3 ≤ sizeLine; decide), fun p2 n2 => ?_⟩
    have t2 := same_new (o := .tup [.str x, .str u, u1]) n2
    refine ⟨(by show 3 ≤ sizeLine; decide), fun p3 n3 => ?_⟩
    have t3 := same_new (o := .tup [.non, .non, .non]) n3
    refine ⟨(by show 3 ≤ sizeLine; decide), fun p4 n4 => ?_⟩
    have t4 := same_new (o := .lst [.ref p1, .ref p2, .ref p3]) n4
    have tt := t1.trans (t2.trans (t3.trans t4))
    exact q p4 _ _ tt ((t1.trans (t2.trans t3)).free n4) upd_same (.cons ⟨p1, .non, rfl, (t2.trans (t3.trans t4)) _ _ upd_same, rfl⟩ (.cons ⟨p2, u1, rfl, (t3.trans t4) _ _ upd_same, (show KAt K _ u1 k from ka.keep (tups_same tt))⟩ (.one ⟨p3, .non, rfl, t4 _ _ upd_same, rfl⟩)))
  | other n1 n2 n3 n4 n5 =>
    refine ⟨_, rfl, rfl, _, rfl, eqNo n1 ⟨_, rfl, rfl, _, rfl, eqNo n2 ⟨_, rfl, rfl, _, rfl, eqNo n3 ⟨_, rfl, rfl, _, rfl, eqNo n4 ⟨_, rfl, rfl, _, rfl, eqNo n5 ?_⟩⟩⟩⟩⟩
    refine ⟨(by show 3 ≤ sizeLine; decide), fun p1 n1 => ?_⟩
    have t1 := same_new (o := .tup [.non, .non, .non]) n1
    refine ⟨(by show 1 ≤ sizeLine; decide), fun p2 n2 => ?_⟩
    have t2 := same_new (o := .lst [.ref p1]) n2
    have t12 := t1.trans t2
    have lu := hk.len
    refine ⟨_, rfl, l, _, rfl, .inl (.inl (.inl (t12 _ _ hl))), p2, _, _, rfl, rfl, upd_same, by omega, Int.lt_of_le_of_lt (show ((us.length : Nat) : Int) ≤ 3 by omega) (by decide), ?_, fun p3 n3 => ?_⟩
    · rw [Int.toNat_natCast]
      exact Nat.le_trans (show 1 * us.length ≤ 3 by omega) (by decide)
    · rw [Int.toNat_natCast]
      have t3 := same_new (o := .lst (List.replicate us.length [V.ref p1]).flatten) n3
      have tt := t12.trans t3
      refine q p3 _ _ tt (t12.free n3) upd_same ?_
      have h1 : ClAt K (upd (upd (upd H p1 (.tup [.non, .non, .non])) p2 (.lst [.ref p1])) p3 (.lst (List.replicate us.length [V.ref p1]).flatten)) noCl (.ref p1) := ⟨p1, .non, rfl, (t2.trans t3) _ _ upd_same, rfl⟩
      rw [← lu]
      exact rep_all h1 us.length
end
end Kf
set_option Elab.async false
set_option linter.all false
set_option maxRecDepth 100000
set_option maxHeartbeats 4000000
set_option pp.maxSteps 500
/-! Programs as trees: their data, what is open in them, their kinds. -/
namespace Kf
open PySem PySem.Spec PyProof.Rows L2 Sx RZ
inductive Pg where
  | nothing
  | num (n : Int)
  | name (z : Str)
  | next (a : Pg)
  | plus (a b : Pg)
  | times (a b : Pg)
  | known (z : Str) (k : Kd)
  | lets (z : Str) (k : Kd) (a : Pg)
  | for_ (z : Str) (a : Pg)
  | call (a b : Pg)
  | pair (a b : Pg)
  | first (a : Pg)
  | second (a : Pg)
  | parts (a : Pg) (x u : Str) (b : Pg)
  | this (a : Pg) (k : Kd)
  | that (k : Kd) (a : Pg)
  | cases (a : Pg) (u : Str) (b : Pg) (v : Str) (c : Pg)
  | climb (a : Pg) (x u : Str) (b c : Pg)
def pgD : Pg → PyData
  | .nothing => .tuple [.str "nothing"]
  | .num n => .tuple [.str "num", .int n]
  | .name z => .tuple [.str "name", .str z]
  | .next a => .tuple [.str "next", pgD a]
  | .plus a b => .tuple [.str "plus", pgD a, pgD b]
  | .times a b => .tuple [.str "times", pgD a, pgD b]
  | .known z k => .tuple [.str "known", .str z, kdD k]
  | .lets z k a => .tuple [.str "lets", .str z, kdD k, pgD a]
  | .for_ z a => .tuple [.str "for", .str z, pgD a]
  | .call a b => .tuple [.str "call", pgD a, pgD b]
  | .pair a b => .tuple [.str "pair", pgD a, pgD b]
  | .first a => .tuple [.str "first", pgD a]
  | .second a => .tuple [.str "second", pgD a]
  | .parts a x u b => .tuple [.str "parts", pgD a, .str x, .str u, pgD b]
  | .this a k => .tuple [.str "this", pgD a, kdD k]
  | .that k a => .tuple [.str "that", kdD k, pgD a]
  | .cases a u b v c => .tuple [.str "cases", pgD a, .str u, pgD b, .str v, pgD c]
  | .climb a x u b c => .tuple [.str "climb", pgD a, .str x, .str u, pgD b, pgD c]
/-- the programs right in it -/
def Pg.kids : Pg → List Pg
  | .nothing => []
  | .num _ => []
  | .name _ => []
  | .next a => [a]
  | .plus a b => [a, b]
  | .times a b => [a, b]
  | .known _ _ => []
  | .lets _ _ a => [a]
  | .for_ _ a => [a]
  | .call a b => [a, b]
  | .pair a b => [a, b]
  | .first a => [a]
  | .second a => [a]
  | .parts a _ _ b => [a, b]
  | .this a _ => [a]
  | .that _ a => [a]
  | .cases a _ b _ c => [a, b, c]
  | .climb a _ _ b c => [a, b, c]
/-- the names that are open -/
def opn : Pg → List Str
  | .nothing => []
  | .num _ => []
  | .name z => [z]
  | .next a => opn a
  | .plus a b => opn a ++ opn b
  | .times a b => opn a ++ opn b
  | .known _ _ => []
  | .lets _ _ a => opn a
  | .for_ z a => (opn a).filter fun y => decide (y ≠ z)
  | .call a b => opn a ++ opn b
  | .pair a b => opn a ++ opn b
  | .first a => opn a
  | .second a => opn a
  | .parts a x _ b => opn a ++ (opn b).filter fun y => decide (y ≠ x)
  | .this a _ => opn a
  | .that _ a => opn a
  | .cases a _ b _ c => opn a ++ opn b ++ opn c
  | .climb a x _ b c => opn a ++ ((opn b).filter fun y => decide (y ≠ x)) ++ opn c
/-- the labels that are open, with their kinds -/
def opk : Pg → List (Str × Kd)
  | .nothing => []
  | .num _ => []
  | .name _ => []
  | .next a => opk a
  | .plus a b => opk a ++ opk b
  | .times a b => opk a ++ opk b
  | .known z k => [(z, k)]
  | .lets z _ a => (opk a).filter fun q => decide (q.1 ≠ z)
  | .for_ _ a => opk a
  | .call a b => opk a ++ opk b
  | .pair a b => opk a ++ opk b
  | .first a => opk a
  | .second a => opk a
  | .parts a _ u b => opk a ++ (opk b).filter fun q => decide (q.1 ≠ u)
  | .this a _ => opk a
  | .that _ a => opk a
  | .cases a u b v c => opk a ++ ((opk b).filter fun q => decide (q.1 ≠ u)) ++ (opk c).filter fun q => decide (q.1 ≠ v)
  | .climb a _ u b c => opk a ++ ((opk b).filter fun q => decide (q.1 ≠ u)) ++ opk c
abbrev Sc := List Str × List (Str × Kd)
/-- each label has one kind -/
def Sc.Fn (s : Sc) : Prop := ∀ z k k', (z, k) ∈ s.2 → (z, k') ∈ s.2 → k = k'
/-- a name, a label more -/
def Sc.nm (s : Sc) (z : Str) : Sc := (z :: s.1, s.2)
def Sc.lb (s : Sc) (z : Str) (k : Kd) : Sc := (s.1, (z, k) :: s.2.filter fun q => decide (q.1 ≠ z))
theorem Sc.Fn.nm {s : Sc} (h : s.Fn) (z : Str) : (s.nm z).Fn := h
theorem Sc.Fn.lb {s : Sc} (h : s.Fn) (z : Str) (a : Kd) : (s.lb z a).Fn := fun y k k' h1 h2 => by
  have far : ∀ {q : Kd}, (y, q) ∈ s.2.filter (fun q => decide (q.1 ≠ z)) → y ≠ z ∧ (y, q) ∈ s.2 := fun m => by
    obtain ⟨m1, m2⟩ := List.mem_filter.mp m
    exact ⟨of_decide_eq_true m2, m1⟩
  rcases List.mem_cons.mp h1 with e1 | h1
  · cases e1
    rcases List.mem_cons.mp h2 with e2 | h2
    · cases e2
      rfl
    · exact absurd rfl (far h2).1
  · rcases List.mem_cons.mp h2 with e2 | h2
    · cases e2
      exact absurd rfl (far h1).1
    · exact h y k k' (far h1).2 (far h2).2
/-- well made, and not too great -/
def Kd.Okz (k : Kd) : Prop := k.Ok ∧ k.size ≤ 40
theorem Kd.Okz.pair {a b : Kd} (h : (Kd.pair a b).Okz) : a.Okz ∧ b.Okz ∧ a ≠ .none ∧ b ≠ .none := by
  obtain ⟨⟨h1, h2, h3, h4⟩, z⟩ := h
  have z : a.size + b.size + 1 ≤ 40 := z
  exact ⟨⟨h1, by omega⟩, ⟨h2, by omega⟩, h3, h4⟩
theorem Kd.Okz.frm {a b : Kd} (h : (Kd.frm a b).Okz) : a.Okz ∧ b.Okz ∧ a ≠ .none ∧ b ≠ .none := by
  obtain ⟨⟨h1, h2, h3, h4⟩, z⟩ := h
  have z : a.size + b.size + 1 ≤ 40 := z
  exact ⟨⟨h1, by omega⟩, ⟨h2, by omega⟩, h3, h4⟩
theorem Kd.Okz.either {a b : Kd} (h : (Kd.either a b).Okz) : a.Okz ∧ b.Okz := by
  obtain ⟨⟨h1, h2⟩, z⟩ := h
  have z : a.size + b.size + 1 ≤ 40 := z
  exact ⟨⟨h1, by omega⟩, ⟨h2, by omega⟩⟩
/-- a program of a kind where so much is open -/
inductive Ty : Sc → Pg → Kd → Prop
  | nothing {s : Sc} : Ty s .nothing .none
  | num {s : Sc} {n : Int} (h0 : 0 ≤ n) (h1 : n < 10 ^ 60) : Ty s (.num n) .number
  | name {s : Sc} {z : Str} (h : z ∈ s.1) (w : WordZ z) : Ty s (.name z) .number
  | next {s : Sc} {a : Pg} (ha : Ty s a .number) : Ty s (.next a) .number
  | plus {s : Sc} {a b : Pg} (ha : Ty s a .number) (hb : Ty s b .number) : Ty s (.plus a b) .number
  | times {s : Sc} {a b : Pg} (ha : Ty s a .number) (hb : Ty s b .number) : Ty s (.times a b) .number
  | known {s : Sc} {z : Str} {k : Kd} (h : (z, k) ∈ s.2) (w : WordZ z) (ok : k.Okz) : Ty s (.known z k) k
  | lets {s : Sc} {z : Str} {k r : Kd} {a : Pg} (w : WordZ z) (ok : k.Okz) (k1 : k ≠ .none) (k2 : r ≠ .none) (ha : Ty (s.lb z k) a r) : Ty s (.lets z k a) (.frm k r)
  | for_ {s : Sc} {z : Str} {r : Kd} {a : Pg} (w : WordZ z) (k2 : r ≠ .none) (ha : Ty (s.nm z) a r) : Ty s (.for_ z a) (.frm .number r)
  | call {s : Sc} {a b : Pg} {k r : Kd} (ha : Ty s a (.frm k r)) (hb : Ty s b k) : Ty s (.call a b) r
  | pair {s : Sc} {a b : Pg} {k r : Kd} (k1 : k ≠ .none) (k2 : r ≠ .none) (ha : Ty s a k) (hb : Ty s b r) : Ty s (.pair a b) (.pair k r)
  | first {s : Sc} {a : Pg} {k r : Kd} (ha : Ty s a (.pair k r)) : Ty s (.first a) k
  | second {s : Sc} {a : Pg} {k r : Kd} (ha : Ty s a (.pair k r)) : Ty s (.second a) r
  | parts {s : Sc} {a b : Pg} {x u : Str} {o r : Kd} (wx : WordZ x) (wu : WordZ u) (ha : Ty s a (.pair .number o)) (hb : Ty ((s.nm x).lb u o) b r) : Ty s (.parts a x u b) r
  | this {s : Sc} {a : Pg} {k r : Kd} (ok : r.Okz) (ha : Ty s a k) : Ty s (.this a r) (.either k r)
  | that {s : Sc} {a : Pg} {k r : Kd} (ok : k.Okz) (ha : Ty s a r) : Ty s (.that k a) (.either k r)
  | cases {s : Sc} {a b c : Pg} {u v : Str} {k o r : Kd} (wu : WordZ u) (wv : WordZ v) (ha : Ty s a (.either k o)) (hb : Ty (s.lb u k) b r) (hc : Ty (s.lb v o) c r) : Ty s (.cases a u b v c) r
  | climb {s : Sc} {a b c : Pg} {x u : Str} {k : Kd} (wx : WordZ x) (wu : WordZ u) (kn : k ≠ .none) (ha : Ty s a k) (hb : Ty ((s.nm x).lb u k) b k) (hc : Ty s c .number) : Ty s (.climb a x u b c) k
theorem Ty.ok {s : Sc} {p : Pg} {k : Kd} (h : Ty s p k) : k.Ok := by
  induction h with
  | nothing => trivial
  | num _ _ => trivial
  | name _ _ => trivial
  | next _ _ => trivial
  | plus _ _ _ _ => trivial
  | times _ _ _ _ => trivial
  | known _ _ ok => exact ok.1
  | lets _ ok k1 k2 _ ih => exact ⟨ok.1, ih, k1, k2⟩
  | for_ _ k2 _ ih => exact ⟨trivial, ih, (fun z => by cases z), k2⟩
  | call _ _ ih _ => exact ih.2.1
  | pair k1 k2 _ _ ih1 ih2 => exact ⟨ih1, ih2, k1, k2⟩
  | first _ ih => exact ih.1
  | second _ ih => exact ih.2.1
  | parts _ _ _ _ _ ih => exact ih
  | this ok _ ih => exact ⟨ih, ok.1⟩
  | that ok _ ih => exact ⟨ok.1, ih⟩
  | cases _ _ _ _ _ _ ih _ => exact ih
  | climb _ _ _ _ _ _ ih _ _ => exact ih
theorem mem_nm {s : Sc} {z y : Str} (h : y ∈ (s.nm z).1) (n : y ≠ z) : y ∈ s.1 := (List.mem_cons.mp h).resolve_left n
theorem mem_lb {s : Sc} {z : Str} {a : Kd} {q : Str × Kd} (h : q ∈ (s.lb z a).2) (n : q.1 ≠ z) : q ∈ s.2 := by
  rcases List.mem_cons.mp h with e | h
  · exact absurd (by rw [e]) n
  · exact (List.mem_filter.mp h).1
theorem fil {α : Type} {p : α → Bool} {l : List α} {x : α} (h : x ∈ l.filter p) : x ∈ l ∧ p x = true := List.mem_filter.mp h
/-- what is open stands in what may be open -/
theorem Ty.opens {s : Sc} {p : Pg} {k : Kd} (h : Ty s p k) : (∀ z ∈ opn p, z ∈ s.1) ∧ ∀ q ∈ opk p, q ∈ s.2 := by
  induction h with
  | nothing => exact ⟨(fun _ m => nomatch m), (fun _ m => nomatch m)⟩
  | num _ _ => exact ⟨(fun _ m => nomatch m), (fun _ m => nomatch m)⟩
  | name h _ => exact ⟨(fun z m => by rw [List.mem_singleton.mp m]; exact h), (fun _ m => nomatch m)⟩
  | next _ ih => exact ih
  | plus _ _ i1 i2 => exact ⟨fun z m => (List.mem_append.mp m).elim (i1.1 z) (i2.1 z), fun q m => (List.mem_append.mp m).elim (i1.2 q) (i2.2 q)⟩
  | times _ _ i1 i2 => exact ⟨fun z m => (List.mem_append.mp m).elim (i1.1 z) (i2.1 z), fun q m => (List.mem_append.mp m).elim (i1.2 q) (i2.2 q)⟩
  | known h _ _ => exact ⟨(fun _ m => nomatch m), (fun q m => by rw [List.mem_singleton.mp m]; exact h)⟩
  | lets _ _ _ _ _ ih => exact ⟨ih.1, fun q m => mem_lb (ih.2 q (fil m).1) (of_decide_eq_true (fil m).2)⟩
  | for_ _ _ _ ih => exact ⟨fun z m => mem_nm (ih.1 z (fil m).1) (of_decide_eq_true (fil m).2), ih.2⟩
  | call _ _ i1 i2 => exact ⟨fun z m => (List.mem_append.mp m).elim (i1.1 z) (i2.1 z), fun q m => (List.mem_append.mp m).elim (i1.2 q) (i2.2 q)⟩
  | pair _ _ _ _ i1 i2 => exact ⟨fun z m => (List.mem_append.mp m).elim (i1.1 z) (i2.1 z), fun q m => (List.mem_append.mp m).elim (i1.2 q) (i2.2 q)⟩
  | first _ ih => exact ih
  | second _ ih => exact ih
  | parts _ _ _ _ i1 i2 => exact ⟨fun z m => (List.mem_append.mp m).elim (i1.1 z) fun m => mem_nm (i2.1 z (fil m).1) (of_decide_eq_true (fil m).2), fun q m => (List.mem_append.mp m).elim (i1.2 q) fun m => mem_lb (i2.2 q (fil m).1) (of_decide_eq_true (fil m).2)⟩
  | this _ _ ih => exact ih
  | that _ _ ih => exact ih
  | cases _ _ _ _ _ i1 i2 i3 => exact ⟨fun z m => (List.mem_append.mp m).elim (fun m => (List.mem_append.mp m).elim (i1.1 z) (i2.1 z)) (i3.1 z), fun q m => (List.mem_append.mp m).elim (fun m => (List.mem_append.mp m).elim (i1.2 q) fun m => mem_lb (i2.2 q (fil m).1) (of_decide_eq_true (fil m).2)) fun m => mem_lb (i3.2 q (fil m).1) (of_decide_eq_true (fil m).2)⟩
  | climb _ _ _ _ _ _ i1 i2 i3 => exact ⟨fun z m => (List.mem_append.mp m).elim (fun m => (List.mem_append.mp m).elim (i1.1 z) fun m => mem_nm (i2.1 z (fil m).1) (of_decide_eq_true (fil m).2)) (i3.1 z), fun q m => (List.mem_append.mp m).elim (fun m => (List.mem_append.mp m).elim (i1.2 q) fun m => mem_lb (i2.2 q (fil m).1) (of_decide_eq_true (fil m).2)) (i3.2 q)⟩
end Kf
set_option Elab.async false
set_option linter.all false
set_option maxRecDepth 100000
set_option maxHeartbeats 4000000
set_option pp.maxSteps 500
/-! What inner_of tells of right programs; their pieces in order. -/
namespace Kf
open PySem PySem.Spec PyProof.Rows L2 Sx RZ
theorem abc_among : ∀ c ∈ abc.cps.toList, Gx.among abc c = true := by decide +kernel
theorem abc_low : ∀ c ∈ abc.cps.toList, decide (c < 0x110000) = true := by decide +kernel
theorem word_wd {z : Str} (h : WordZ z) : wordD (.str z) = true := by
  obtain ⟨h1, h2, h3⟩ := h
  show ((decide ((1 : Int) ≤ ((z.length : Nat) : Int)) && decide (((z.length : Nat) : Int) ≤ 8)) && z.cps.toList.all (Gx.among abc)) = true
  rw [decide_eq_true (show (1 : Int) ≤ ((z.length : Nat) : Int) by omega), decide_eq_true (show ((z.length : Nat) : Int) ≤ 8 by omega), Bool.true_and, Bool.true_and]
  exact List.all_eq_true.mpr fun c hc => abc_among c (h3 c hc)
theorem word_ats {z : Str} (h : WordZ z) : ats (.str z) = true := by
  obtain ⟨h1, h2, h3⟩ := h
  show (z.cps.all (· < 0x110000) && decide (z.length ≤ 10)) = true
  rw [decide_eq_true (show z.length ≤ 10 by omega), Bool.and_true]
  exact Array.all_eq_true_iff_forall_mem.mpr fun c hc => abc_low c (h3 c (Array.mem_toList_iff.mpr hc))
theorem form3 {w : Str} {a b : Kd} (hw : (decide (w = "pair") || (decide (w = "from") || decide (w = "either"))) = true) (h : (decide (w = "either") || !(decide (a = .none) || (decide (b = .none) || false))) = true) : form (.tuple [.str w, kdD a, kdD b]) = true := by
  show ((decide (w = "pair") || (decide (w = "from") || decide (w = "either"))) && (decide (w = "either") || !(PyData.eqv (kdD a) (kdD .none) || (PyData.eqv (kdD b) (kdD .none) || false)))) = true
  rw [kd_eq, kd_eq, hw, h]
  rfl
theorem kn_kd : ∀ k : Kd, k.Ok → kn (kdD k) = true
  | .none, _ => by decide +kernel
  | .number, _ => by decide +kernel
  | .pair a b, ⟨oa, ob, na, nb⟩ => by
    show (form (.tuple [.str "pair", kdD a, kdD b]) && (kn (kdD a) && kn (kdD b))) = true
    rw [kn_kd a oa, kn_kd b ob, form3 (by decide +kernel) (by rw [decide_eq_false na, decide_eq_false nb]; decide +kernel)]
    rfl
  | .frm a b, ⟨oa, ob, na, nb⟩ => by
    show (form (.tuple [.str "from", kdD a, kdD b]) && (kn (kdD a) && kn (kdD b))) = true
    rw [kn_kd a oa, kn_kd b ob, form3 (by decide +kernel) (by rw [decide_eq_false na, decide_eq_false nb]; decide +kernel)]
    rfl
  | .either a b, ⟨oa, ob⟩ => by
    show (form (.tuple [.str "either", kdD a, kdD b]) && (kn (kdD a) && kn (kdD b))) = true
    rw [kn_kd a oa, kn_kd b ob, form3 (by decide +kernel) (by rw [show decide (("either" : Str) = "either") = true from decide_eq_true rfl]; rfl)]
    rfl
/-- what inner_of wants of the words, numbers and kinds that stand in it -/
def Pg.Good : Pg → Prop
  | .nothing => True
  | .num n => 0 ≤ n ∧ n < 10 ^ 60
  | .name z => WordZ z
  | .next a => a.Good
  | .plus a b => a.Good ∧ b.Good
  | .times a b => a.Good ∧ b.Good
  | .known z k => WordZ z ∧ k.Ok
  | .lets z k a => (WordZ z ∧ k.Ok) ∧ a.Good
  | .for_ z a => WordZ z ∧ a.Good
  | .call a b => a.Good ∧ b.Good
  | .pair a b => a.Good ∧ b.Good
  | .first a => a.Good
  | .second a => a.Good
  | .parts a x u b => (WordZ x ∧ WordZ u) ∧ a.Good ∧ b.Good
  | .this a k => k.Ok ∧ a.Good
  | .that k a => k.Ok ∧ a.Good
  | .cases a u b v c => (WordZ u ∧ WordZ v) ∧ a.Good ∧ b.Good ∧ c.Good
  | .climb a x u b c => (WordZ x ∧ WordZ u) ∧ a.Good ∧ b.Good ∧ c.Good
theorem Ty.good {s : Sc} {p : Pg} {k : Kd} (h : Ty s p k) : p.Good := by
  induction h with
  | nothing => trivial
  | num h0 h1 => exact ⟨h0, h1⟩
  | name _ w => exact w
  | next _ ih => exact ih
  | plus _ _ i1 i2 => exact ⟨i1, i2⟩
  | times _ _ i1 i2 => exact ⟨i1, i2⟩
  | known _ w ok => exact ⟨w, ok.1⟩
  | lets w ok _ _ _ ih => exact ⟨⟨w, ok.1⟩, ih⟩
  | for_ w _ _ ih => exact ⟨w, ih⟩
  | call _ _ i1 i2 => exact ⟨i1, i2⟩
  | pair _ _ _ _ i1 i2 => exact ⟨i1, i2⟩
  | first _ ih => exact ih
  | second _ ih => exact ih
  | parts wx wu _ _ i1 i2 => exact ⟨⟨wx, wu⟩, i1, i2⟩
  | this ok _ ih => exact ⟨ok.1, ih⟩
  | that ok _ ih => exact ⟨ok.1, ih⟩
  | cases wu wv _ _ _ i1 i2 i3 => exact ⟨⟨wu, wv⟩, i1, i2, i3⟩
  | climb wx wu _ _ _ _ i1 i2 i3 => exact ⟨⟨wx, wu⟩, i1, i2, i3⟩
theorem part_p (d : PyData) : partD "program" d = true := if_pos rfl
theorem part_k {k : Kd} (h : k.Ok) : partD "kind" (kdD k) = true := by
  unfold partD
  rw [if_neg (by decide +kernel), if_pos rfl]
  exact kn_kd k h
theorem part_n {n : Int} (h0 : 0 ≤ n) (h1 : n < 10 ^ 60) : partD "number" (.int n) = true := by
  unfold partD
  rw [if_neg (by decide +kernel), if_neg (by decide +kernel), if_pos rfl]
  show (decide ((0 : Int) ≤ n) && decide (n < 10 ^ 60)) = true
  rw [decide_eq_true h0, decide_eq_true h1]
  rfl
theorem part_w {z : Str} (h : WordZ z) : partD "name" (.str z) = true := by
  unfold partD
  rw [if_neg (by decide +kernel), if_neg (by decide +kernel), if_neg (by decide +kernel)]
  exact word_wd h
theorem part_l {z : Str} (h : WordZ z) : partD "label" (.str z) = true := by
  unfold partD
  rw [if_neg (by decide +kernel), if_neg (by decide +kernel), if_neg (by decide +kernel)]
  exact word_wd h
theorem inn_yes {w : Str} {ds es : List PyData} {ws : List Str} (hl : tabP.lookup w = some ws) (hn : ds.length = ws.length) (ha : ∀ p ∈ ds.zip ws, partD p.2 p.1 = true) (he : progs ds ws = es) : innP (.tuple (.str w :: ds)) = some es := by
  show (match tabP.lookup w with | some ws => if ds.length = ws.length ∧ (ds.zip ws).all (fun p => partD p.2 p.1) = true then some (progs ds ws) else none | none => none) = some es
  rw [hl]
  show (if _ then some (progs ds ws) else none) = some es
  rw [if_pos ⟨hn, List.all_eq_true.mpr ha⟩, he]
theorem zip1 {a : PyData} {w : Str} (h : partD w a = true) : ∀ p ∈ [a].zip [w], partD p.2 p.1 = true := fun p m => by
  rw [List.mem_singleton.mp m]
  exact h
theorem zipC {a : PyData} {w : Str} {ds : List PyData} {ws : List Str} (h : partD w a = true) (t : ∀ p ∈ ds.zip ws, partD p.2 p.1 = true) : ∀ p ∈ (a :: ds).zip (w :: ws), partD p.2 p.1 = true := fun p m => by
  rcases List.mem_cons.mp m with rfl | m
  · exact h
  · exact t p m
theorem zip0 : ∀ p ∈ ([] : List PyData).zip ([] : List Str), partD p.2 p.1 = true := fun _ m => nomatch m
theorem inn_pg : ∀ p : Pg, p.Good → innP (pgD p) = some (p.kids.map pgD)
  | .nothing, _ => inn_yes (ws := []) (by decide +kernel) rfl zip0 rfl
  | .num n, ⟨h0, h1⟩ => inn_yes (ws := ["number"]) (by decide +kernel) rfl (zipC (part_n h0 h1) zip0) rfl
  | .name z, h => inn_yes (ws := ["name"]) (by decide +kernel) rfl (zipC (part_w h) zip0) rfl
  | .next a, _ => inn_yes (ws := ["program"]) (by decide +kernel) rfl (zipC (part_p _) zip0) rfl
  | .plus a b, _ => inn_yes (ws := ["program", "program"]) (by decide +kernel) rfl (zipC (part_p _) (zipC (part_p _) zip0)) rfl
  | .times a b, _ => inn_yes (ws := ["program", "program"]) (by decide +kernel) rfl (zipC (part_p _) (zipC (part_p _) zip0)) rfl
  | .known z k, ⟨h, o⟩ => inn_yes (ws := ["label", "kind"]) (by decide +kernel) rfl (zipC (part_l h) (zipC (part_k o) zip0)) rfl
  | .lets z k a, ⟨⟨h, o⟩, _⟩ => inn_yes (ws := ["label", "kind", "program"]) (by decide +kernel) rfl (zipC (part_l h) (zipC (part_k o) (zipC (part_p _) zip0))) rfl
  | .for_ z a, ⟨h, _⟩ => inn_yes (ws := ["name", "program"]) (by decide +kernel) rfl (zipC (part_w h) (zipC (part_p _) zip0)) rfl
  | .call a b, _ => inn_yes (ws := ["program", "program"]) (by decide +kernel) rfl (zipC (part_p _) (zipC (part_p _) zip0)) rfl
  | .pair a b, _ => inn_yes (ws := ["program", "program"]) (by decide +kernel) rfl (zipC (part_p _) (zipC (part_p _) zip0)) rfl
  | .first a, _ => inn_yes (ws := ["program"]) (by decide +kernel) rfl (zipC (part_p _) zip0) rfl
  | .second a, _ => inn_yes (ws := ["program"]) (by decide +kernel) rfl (zipC (part_p _) zip0) rfl
  | .parts a x u b, ⟨⟨hx, hu⟩, _⟩ => inn_yes (ws := ["program", "name", "label", "program"]) (by decide +kernel) rfl (zipC (part_p _) (zipC (part_w hx) (zipC (part_l hu) (zipC (part_p _) zip0)))) rfl
  | .this a k, ⟨o, _⟩ => inn_yes (ws := ["program", "kind"]) (by decide +kernel) rfl (zipC (part_p _) (zipC (part_k o) zip0)) rfl
  | .that k a, ⟨o, _⟩ => inn_yes (ws := ["kind", "program"]) (by decide +kernel) rfl (zipC (part_k o) (zipC (part_p _) zip0)) rfl
  | .cases a u b v c, ⟨⟨hu, hv⟩, _⟩ => inn_yes (ws := ["program", "label", "program", "label", "program"]) (by decide +kernel) rfl (zipC (part_p _) (zipC (part_l hu) (zipC (part_p _) (zipC (part_l hv) (zipC (part_p _) zip0))))) rfl
  | .climb a x u b c, ⟨⟨hx, hu⟩, _⟩ => inn_yes (ws := ["program", "name", "label", "program", "program"]) (by decide +kernel) rfl (zipC (part_p _) (zipC (part_w hx) (zipC (part_l hu) (zipC (part_p _) (zipC (part_p _) zip0))))) rfl
end Kf
set_option Elab.async false
set_option linter.all false
set_option maxRecDepth 100000
set_option maxHeartbeats 4000000
set_option pp.maxSteps 500
/-! The pieces of right programs in order. -/
namespace Kf
open PySem PySem.Spec PyProof.Rows L2 Sx RZ
def Pg.size : Pg → Nat
  | .nothing => 1
  | .num _ => 1
  | .name _ => 1
  | .next a => a.size + 1
  | .plus a b => a.size + b.size + 1
  | .times a b => a.size + b.size + 1
  | .known _ _ => 1
  | .lets _ _ a => a.size + 1
  | .for_ _ a => a.size + 1
  | .call a b => a.size + b.size + 1
  | .pair a b => a.size + b.size + 1
  | .first a => a.size + 1
  | .second a => a.size + 1
  | .parts a _ _ b => a.size + b.size + 1
  | .this a _ => a.size + 1
  | .that _ a => a.size + 1
  | .cases a _ b _ c => a.size + b.size + c.size + 1
  | .climb a _ _ b c => a.size + b.size + c.size + 1
def Pg.deep : Pg → Nat
  | .nothing => 1
  | .num _ => 1
  | .name _ => 1
  | .next a => a.deep + 1
  | .plus a b => max a.deep b.deep + 1
  | .times a b => max a.deep b.deep + 1
  | .known _ _ => 1
  | .lets _ _ a => a.deep + 1
  | .for_ _ a => a.deep + 1
  | .call a b => max a.deep b.deep + 1
  | .pair a b => max a.deep b.deep + 1
  | .first a => a.deep + 1
  | .second a => a.deep + 1
  | .parts a _ _ b => max a.deep b.deep + 1
  | .this a _ => a.deep + 1
  | .that _ a => a.deep + 1
  | .cases a _ b _ c => max (max a.deep b.deep) c.deep + 1
  | .climb a _ _ b c => max (max a.deep b.deep) c.deep + 1
theorem sum1 (a : Nat) : ([a]).sum = a := by simp
theorem sum2 (a b : Nat) : ([a, b]).sum = a + b := by simp
theorem sum3 (a b c : Nat) : ([a, b, c]).sum = a + b + c := by simp [Nat.add_assoc]
theorem size_kidsG : ∀ p : Pg, p.size = (p.kids.map Pg.size).sum + 1
  | .nothing => rfl
  | .num _ => rfl
  | .name _ => rfl
  | .next a => by rw [show (Pg.next a).kids.map Pg.size = [a.size] from rfl, sum1]; rfl
  | .plus a b => by rw [show (Pg.plus a b).kids.map Pg.size = [a.size, b.size] from rfl, sum2]; rfl
  | .times a b => by rw [show (Pg.times a b).kids.map Pg.size = [a.size, b.size] from rfl, sum2]; rfl
  | .known _ _ => rfl
  | .lets z k a => by rw [show (Pg.lets z k a).kids.map Pg.size = [a.size] from rfl, sum1]; rfl
  | .for_ z a => by rw [show (Pg.for_ z a).kids.map Pg.size = [a.size] from rfl, sum1]; rfl
  | .call a b => by rw [show (Pg.call a b).kids.map Pg.size = [a.size, b.size] from rfl, sum2]; rfl
  | .pair a b => by rw [show (Pg.pair a b).kids.map Pg.size = [a.size, b.size] from rfl, sum2]; rfl
  | .first a => by rw [show (Pg.first a).kids.map Pg.size = [a.size] from rfl, sum1]; rfl
  | .second a => by rw [show (Pg.second a).kids.map Pg.size = [a.size] from rfl, sum1]; rfl
  | .parts a x u b => by rw [show (Pg.parts a x u b).kids.map Pg.size = [a.size, b.size] from rfl, sum2]; rfl
  | .this a k => by rw [show (Pg.this a k).kids.map Pg.size = [a.size] from rfl, sum1]; rfl
  | .that k a => by rw [show (Pg.that k a).kids.map Pg.size = [a.size] from rfl, sum1]; rfl
  | .cases a u b v c => by rw [show (Pg.cases a u b v c).kids.map Pg.size = [a.size, b.size, c.size] from rfl, sum3]; rfl
  | .climb a x u b c => by rw [show (Pg.climb a x u b c).kids.map Pg.size = [a.size, b.size, c.size] from rfl, sum3]; rfl
theorem kids1 {a k : Pg} (m : k ∈ [a]) : k = a := List.mem_singleton.mp m
theorem kids2 {a b k : Pg} (m : k ∈ [a, b]) : k = a ∨ k = b := (List.mem_cons.mp m).imp id List.mem_singleton.mp
theorem kids3 {a b c k : Pg} (m : k ∈ [a, b, c]) : k = a ∨ k = b ∨ k = c := (List.mem_cons.mp m).imp id kids2
/-- what is within is less deep, and good -/
theorem kid_ok : ∀ {p k : Pg}, k ∈ p.kids → k.deep + 1 ≤ p.deep ∧ (p.Good → k.Good)
  | .next a, k, m => by rw [kids1 m]; exact ⟨Nat.le_refl _, id⟩
  | .plus a b, k, m => by
    show k.deep + 1 ≤ max a.deep b.deep + 1 ∧ (a.Good ∧ b.Good → k.Good)
    rcases kids2 m with e | e <;> rw [e]
    · exact ⟨by omega, And.left⟩
    · exact ⟨by omega, And.right⟩
  | .times a b, k, m => by
    show k.deep + 1 ≤ max a.deep b.deep + 1 ∧ (a.Good ∧ b.Good → k.Good)
    rcases kids2 m with e | e <;> rw [e]
    · exact ⟨by omega, And.left⟩
    · exact ⟨by omega, And.right⟩
  | .lets z q a, k, m => by rw [kids1 m]; exact ⟨Nat.le_refl _, And.right⟩
  | .for_ z a, k, m => by rw [kids1 m]; exact ⟨Nat.le_refl _, And.right⟩
  | .call a b, k, m => by
    show k.deep + 1 ≤ max a.deep b.deep + 1 ∧ (a.Good ∧ b.Good → k.Good)
    rcases kids2 m with e | e <;> rw [e]
    · exact ⟨by omega, And.left⟩
    · exact ⟨by omega, And.right⟩
  | .pair a b, k, m => by
    show k.deep + 1 ≤ max a.deep b.deep + 1 ∧ (a.Good ∧ b.Good → k.Good)
    rcases kids2 m with e | e <;> rw [e]
    · exact ⟨by omega, And.left⟩
    · exact ⟨by omega, And.right⟩
  | .first a, k, m => by rw [kids1 m]; exact ⟨Nat.le_refl _, id⟩
  | .second a, k, m => by rw [kids1 m]; exact ⟨Nat.le_refl _, id⟩
  | .parts a x u b, k, m => by
    show k.deep + 1 ≤ max a.deep b.deep + 1 ∧ ((WordZ x ∧ WordZ u) ∧ a.Good ∧ b.Good → k.Good)
    rcases kids2 m with e | e <;> rw [e]
    · exact ⟨by omega, fun h => h.2.1⟩
    · exact ⟨by omega, fun h => h.2.2⟩
  | .this a q, k, m => by rw [kids1 m]; exact ⟨Nat.le_refl _, And.right⟩
  | .that q a, k, m => by rw [kids1 m]; exact ⟨Nat.le_refl _, And.right⟩
  | .cases a u b v c, k, m => by
    show k.deep + 1 ≤ max (max a.deep b.deep) c.deep + 1 ∧ ((WordZ u ∧ WordZ v) ∧ a.Good ∧ b.Good ∧ c.Good → k.Good)
    rcases kids3 m with e | e | e <;> rw [e]
    · exact ⟨by omega, fun h => h.2.1⟩
    · exact ⟨by omega, fun h => h.2.2.1⟩
    · exact ⟨by omega, fun h => h.2.2.2⟩
  | .climb a x u b c, k, m => by
    show k.deep + 1 ≤ max (max a.deep b.deep) c.deep + 1 ∧ ((WordZ x ∧ WordZ u) ∧ a.Good ∧ b.Good ∧ c.Good → k.Good)
    rcases kids3 m with e | e | e <;> rw [e]
    · exact ⟨by omega, fun h => h.2.1⟩
    · exact ⟨by omega, fun h => h.2.2.1⟩
    · exact ⟨by omega, fun h => h.2.2.2⟩
/-- the pieces with their places, a program behind those in it -/
def pstF : Nat → List Nat → Pg → List (Pg × List Nat)
  | 0, _, _ => []
  | n + 1, pl, p => ((p.kids.zipIdx).flatMap fun e => pstF n (pl ++ [e.2]) e.1) ++ [(p, pl)]
def rowD (e : Pg × List Nat) : PyData × List Nat := (pgD e.1, e.2)
theorem go_kids {mp mw : Nat} {N : Nat} (IH : ∀ (p : Pg) (pl : List Nat) (st : List Oe) (rows : List (PyData × List Nat)) (n m : Nat), p.deep ≤ N → p.Good → pl.length + p.deep ≤ mw → n + p.size ≤ mp → goO innP mp mw (m + 2 * p.size) ((pgD p, pl, false) :: st) rows n = goO innP mp mw m st (rows ++ (pstF N pl p).map rowD) (n + p.size)) :
    ∀ (ks : List Pg) (i : Nat) (pl : List Nat) (st : List Oe) (rows : List (PyData × List Nat)) (n m : Nat), (∀ k ∈ ks, k.deep ≤ N ∧ k.Good ∧ pl.length + 1 + k.deep ≤ mw) → n + (ks.map Pg.size).sum ≤ mp →
      goO innP mp mw (m + 2 * (ks.map Pg.size).sum) (kidsE pl i (ks.map pgD) ++ st) rows n = goO innP mp mw m st (rows ++ (((ks.zipIdx i).flatMap fun e => pstF N (pl ++ [e.2]) e.1).map rowD)) (n + (ks.map Pg.size).sum)
  | [], i, pl, st, rows, n, m, _, _ => by
    show goO innP mp mw m st rows n = goO innP mp mw m st (rows ++ []) n
    rw [List.append_nil]
  | k :: ks, i, pl, st, rows, n, m, h, hn => by
    obtain ⟨h1, h2, h3⟩ := h k List.mem_cons_self
    have es : ((k :: ks).map Pg.size).sum = k.size + (ks.map Pg.size).sum := by simp
    rw [es] at hn ⊢
    show goO innP mp mw (m + 2 * (k.size + (ks.map Pg.size).sum)) ((pgD k, pl ++ [i], false) :: (kidsE pl (i + 1) (ks.map pgD) ++ st)) rows n = _
    rw [show m + 2 * (k.size + (ks.map Pg.size).sum) = (m + 2 * (ks.map Pg.size).sum) + 2 * k.size by omega]
    rw [IH k (pl ++ [i]) _ rows n _ h1 h2 (by rw [List.length_append]; exact h3) (by omega)]
    rw [go_kids IH ks (i + 1) pl st _ _ m (fun k m => h k (List.mem_cons_of_mem _ m)) (by omega)]
    rw [List.zipIdx_cons, List.flatMap_cons, List.map_append, List.append_assoc, Nat.add_assoc]
theorem go_pg {mp mw : Nat} : ∀ (N : Nat) (p : Pg) (pl : List Nat) (st : List Oe) (rows : List (PyData × List Nat)) (n m : Nat), p.deep ≤ N → p.Good → pl.length + p.deep ≤ mw → n + p.size ≤ mp → goO innP mp mw (m + 2 * p.size) ((pgD p, pl, false) :: st) rows n = goO innP mp mw m st (rows ++ (pstF N pl p).map rowD) (n + p.size)
  | 0, p, pl, st, rows, n, m, hd, _, _, _ => by
    have : 1 ≤ p.deep := by cases p <;> simp [Pg.deep]
    omega
  | N + 1, p, pl, st, rows, n, m, hd, hg, hp, hn => by
    have sk := size_kidsG p
    have dp : 1 ≤ p.deep := by cases p <;> simp [Pg.deep]
    rw [show m + 2 * p.size = (m + 1 + 2 * (p.kids.map Pg.size).sum) + 1 by omega]
    have e1 : goO innP mp mw ((m + 1 + 2 * (p.kids.map Pg.size).sum) + 1) ((pgD p, pl, false) :: st) rows n = (match innP (pgD p) with | none => (rows, some pl) | some ds => if mp < n + 1 ∨ mw ≤ pl.length then ([], some []) else goO innP mp mw (m + 1 + 2 * (p.kids.map Pg.size).sum) (kidsE pl 0 ds ++ (pgD p, pl, true) :: st) rows (n + 1)) := rfl
    rw [e1, inn_pg p hg]
    show (if mp < n + 1 ∨ mw ≤ pl.length then ([], some []) else goO innP mp mw (m + 1 + 2 * (p.kids.map Pg.size).sum) (kidsE pl 0 (p.kids.map pgD) ++ (pgD p, pl, true) :: st) rows (n + 1)) = _
    rw [if_neg (by omega)]
    rw [go_kids (go_pg N) p.kids 0 pl _ rows (n + 1) (m + 1) (fun k mk => by
      obtain ⟨d1, g1⟩ := kid_ok mk
      exact ⟨by omega, g1 hg, by omega⟩) (by omega)]
    show goO innP mp mw m st ((rows ++ _) ++ [(pgD p, pl)]) (n + 1 + (p.kids.map Pg.size).sum) = _
    rw [show n + 1 + (p.kids.map Pg.size).sum = n + p.size by omega, List.append_assoc]
    congr 1
    show _ = rows ++ (((p.kids.zipIdx).flatMap fun e => pstF N (pl ++ [e.2]) e.1) ++ [(p, pl)]).map rowD
    rw [List.map_append]
    rfl
/-- in_order tells all pieces -/
theorem ord_pg {p : Pg} {mp mw : Nat} (hg : p.Good) (hd : p.deep ≤ mw) (hs : p.size ≤ mp) : inOrd innP mp mw (pgD p) = ((pstF p.deep [] p).map rowD, none) := by
  unfold inOrd
  rw [show 2 * mp + 4 = (2 * mp + 4 - 2 * p.size) + 2 * p.size by omega]
  rw [go_pg p.deep p [] [] [] 0 _ (Nat.le_refl _) hg (by show 0 + p.deep ≤ mw; omega) (by omega)]
  obtain ⟨q, hq⟩ : ∃ q, 2 * mp + 4 - 2 * p.size = q + 1 := ⟨2 * mp + 4 - 2 * p.size - 1, by omega⟩
  rw [hq, List.nil_append]
  rfl
end Kf
set_option Elab.async false
set_option linter.all false
set_option maxRecDepth 100000
set_option maxHeartbeats 4000000
set_option pp.maxSteps 500
/-! Right programs as data: made of numbers and words that can be written. -/
namespace Kf
open PySem PySem.Spec PyProof.Rows L2 Sx RZ
theorem ats0 {w : Str} (h : ats (.str w) = true) : ats (.tuple [.str w]) = true := by
  show (ats (.str w) && true) = true
  rw [h]
  rfl
theorem ats1 {w : Str} {a : PyData} (h : ats (.str w) = true) (ha : ats a = true) : ats (.tuple [.str w, a]) = true := by
  show (ats (.str w) && (ats a && true)) = true
  rw [h, ha]
  rfl
theorem ats2 {w : Str} {a b : PyData} (h : ats (.str w) = true) (ha : ats a = true) (hb : ats b = true) : ats (.tuple [.str w, a, b]) = true := by
  show (ats (.str w) && (ats a && (ats b && true))) = true
  rw [h, ha, hb]
  rfl
theorem ats3 {w : Str} {a b c : PyData} (h : ats (.str w) = true) (ha : ats a = true) (hb : ats b = true) (hc : ats c = true) : ats (.tuple [.str w, a, b, c]) = true := by
  show (ats (.str w) && (ats a && (ats b && (ats c && true)))) = true
  rw [h, ha, hb, hc]
  rfl
theorem ats4 {w : Str} {a b c d : PyData} (h : ats (.str w) = true) (ha : ats a = true) (hb : ats b = true) (hc : ats c = true) (hd : ats d = true) : ats (.tuple [.str w, a, b, c, d]) = true := by
  show (ats (.str w) && (ats a && (ats b && (ats c && (ats d && true))))) = true
  rw [h, ha, hb, hc, hd]
  rfl
theorem ats5 {w : Str} {a b c d e : PyData} (h : ats (.str w) = true) (ha : ats a = true) (hb : ats b = true) (hc : ats c = true) (hd : ats d = true) (he : ats e = true) : ats (.tuple [.str w, a, b, c, d, e]) = true := by
  show (ats (.str w) && (ats a && (ats b && (ats c && (ats d && (ats e && true)))))) = true
  rw [h, ha, hb, hc, hd, he]
  rfl
theorem num_ats {n : Int} (h0 : 0 ≤ n) (h1 : n < 10 ^ 60) : ats (.int n) = true := decide_eq_true (by
  have : (10 : Nat) ^ 60 ≤ 10 ^ 62 := Nat.pow_le_pow_right (by decide) (by decide)
  omega)
theorem pg_ats : ∀ p : Pg, p.Good → ats (pgD p) = true
  | .nothing, _ => ats0 (by decide +kernel)
  | .num n, ⟨h0, h1⟩ => ats1 (by decide +kernel) (num_ats h0 h1)
  | .name z, h => ats1 (by decide +kernel) (word_ats h)
  | .next a, h => ats1 (by decide +kernel) (pg_ats a h)
  | .plus a b, h => ats2 (by decide +kernel) (pg_ats a h.1) (pg_ats b h.2)
  | .times a b, h => ats2 (by decide +kernel) (pg_ats a h.1) (pg_ats b h.2)
  | .known z k, h => ats2 (by decide +kernel) (word_ats h.1) (kd_ats k)
  | .lets z k a, h => ats3 (by decide +kernel) (word_ats h.1.1) (kd_ats k) (pg_ats a h.2)
  | .for_ z a, h => ats2 (by decide +kernel) (word_ats h.1) (pg_ats a h.2)
  | .call a b, h => ats2 (by decide +kernel) (pg_ats a h.1) (pg_ats b h.2)
  | .pair a b, h => ats2 (by decide +kernel) (pg_ats a h.1) (pg_ats b h.2)
  | .first a, h => ats1 (by decide +kernel) (pg_ats a h)
  | .second a, h => ats1 (by decide +kernel) (pg_ats a h)
  | .parts a x u b, h => ats4 (by decide +kernel) (pg_ats a h.2.1) (word_ats h.1.1) (word_ats h.1.2) (pg_ats b h.2.2)
  | .this a k, h => ats2 (by decide +kernel) (pg_ats a h.2) (kd_ats k)
  | .that k a, h => ats2 (by decide +kernel) (kd_ats k) (pg_ats a h.2)
  | .cases a u b v c, h => ats5 (by decide +kernel) (pg_ats a h.2.1) (word_ats h.1.1) (pg_ats b h.2.2.1) (word_ats h.1.2) (pg_ats c h.2.2.2)
  | .climb a x u b c, h => ats5 (by decide +kernel) (pg_ats a h.2.1) (word_ats h.1.1) (word_ats h.1.2) (pg_ats b h.2.2.1) (pg_ats c h.2.2.2)
theorem pg_lay (p : Pg) (h : p.Good) : (pgD p).canLay0 = true := (fit _ (pg_ats p h)).lay
/-- a list of programs -/
theorem pgs_lay {ps : List Pg} (h : ∀ p ∈ ps, p.Good) : PyData.canLayAll0 (ps.map pgD) = true := by
  induction ps with
  | nil => rfl
  | cons p r ih =>
    show ((pgD p).canLay0 && PyData.canLayAll0 (r.map pgD)) = true
    rw [pg_lay p (h p List.mem_cons_self), ih fun q m => h q (List.mem_cons_of_mem _ m)]
    rfl
end Kf
set_option Elab.async false
set_option linter.all false
set_option maxRecDepth 100000
set_option maxHeartbeats 4000000
set_option pp.maxSteps 500
/-! What a piece is judged to be, by what its programs are: the mathematics. -/
namespace Kf
open PySem PySem.Spec PyProof.Rows L2 Sx RZ
structure Jd where
  kind : Kd
  names : List Str
  knowns : List (Str × Kd)
def mrgN (skip : Option Str) : List Str → List Str → List Str
  | acc, [] => acc
  | acc, z :: r => mrgN skip (if skip = some z then acc else if z ∈ acc then acc else acc ++ [z]) r
def mrgK (label : Option Str) (due : Option Kd) : List (Str × Kd) → List (Str × Kd) → Option (List (Str × Kd))
  | acc, [] => some acc
  | acc, (z, k) :: r => if label = some z then (if due = some k then mrgK label due acc r else none) else
    match acc.lookup z with
    | none => mrgK label due (acc ++ [(z, k)]) r
    | some k' => if k' = k then mrgK label due acc r else none
def mrgA : List Str → List (Str × Kd) → List Cl → List Jd → Option (List Str × List (Str × Kd))
  | ns, ks, c :: cs, j :: js =>
    match mrgK c.2.1 c.2.2 ks j.knowns with
    | none => none
    | some ks' => mrgA (mrgN c.1 ns j.names) ks' cs js
  | ns, ks, _, _ => some (ns, ks)
def kindP : Pg → List Kd → Option Kd
  | .nothing, _ => some .none
  | .num _, ks => numK ks
  | .name _, ks => numK ks
  | .next _, ks => numK ks
  | .plus _ _, ks => numK ks
  | .times _ _, ks => numK ks
  | .known _ k, _ => some k
  | .lets _ k _, [b] => madeK k b
  | .for_ _ _, [b] => madeK .number b
  | .call _ _, [a, b] => callK a b
  | .pair _ _, [a, b] => pairK a b
  | .first _, [a] => firstK a
  | .second _, [a] => secondK a
  | .parts _ _ _ _, [a, b] => partsK a b
  | .this _ k, [a] => some (.either a k)
  | .that k _, [a] => some (.either k a)
  | .cases _ _ _ _ _, [a, b, c] => casesK a b c
  | .climb _ _ _ _ _, [a, b, c] => climbK a b c
  | _, _ => none
def closP : Pg → List Kd → List Cl
  | .lets z k _, _ => [(none, some z, some k)]
  | .for_ z _, _ => [(some z, none, none)]
  | .parts _ x u _, [.pair _ b, _] => [noCl, (some x, some u, some b)]
  | .cases _ u _ v _, [.either a b, _, _] => [noCl, (none, some u, some a), (none, some v, some b)]
  | .climb _ x u _ _, [k, _, _] => [noCl, (some x, some u, some k), noCl]
  | _, ks => List.replicate ks.length noCl
def ownN : Pg → List Str
  | .name z => [z]
  | _ => []
def ownK : Pg → List (Str × Kd)
  | .known z k => [(z, k)]
  | _ => []
def jp (p : Pg) (js : List Jd) : Option Jd :=
  match kindP p (js.map Jd.kind) with
  | none => none
  | some k => match mrgA (ownN p) (ownK p) (closP p (js.map Jd.kind)) js with
    | none => none
    | some r => some ⟨k, r.1, r.2⟩
/-! ### the merges -/
theorem mrgN_mem (skip : Option Str) : ∀ (l acc : List Str) (z : Str), z ∈ mrgN skip acc l ↔ z ∈ acc ∨ (z ∈ l ∧ skip ≠ some z)
  | [], acc, z => ⟨.inl, fun h => h.elim id fun h => nomatch h.1⟩
  | y :: r, acc, z => by
    show z ∈ mrgN skip (if skip = some y then acc else if y ∈ acc then acc else acc ++ [y]) r ↔ _
    rw [mrgN_mem skip r]
    by_cases c : skip = some y
    · rw [if_pos c]
      constructor
      · rintro (h | ⟨h1, h2⟩)
        · exact .inl h
        · exact .inr ⟨List.mem_cons_of_mem _ h1, h2⟩
      · rintro (h | ⟨h1, h2⟩)
        · exact .inl h
        · rcases List.mem_cons.mp h1 with rfl | h1
          · exact absurd c h2
          · exact .inr ⟨h1, h2⟩
    · rw [if_neg c]
      have e : z ∈ (if y ∈ acc then acc else acc ++ [y]) ↔ z ∈ acc ∨ z = y := by
        by_cases d : y ∈ acc
        · rw [if_pos d]
          exact ⟨.inl, fun h => h.elim id fun h => h ▸ d⟩
        · rw [if_neg d, List.mem_append, List.mem_singleton]
      rw [e]
      constructor
      · rintro ((h | rfl) | ⟨h1, h2⟩)
        · exact .inl h
        · exact .inr ⟨List.mem_cons_self, c⟩
        · exact .inr ⟨List.mem_cons_of_mem _ h1, h2⟩
      · rintro (h | ⟨h1, h2⟩)
        · exact .inl (.inl h)
        · rcases List.mem_cons.mp h1 with rfl | h1
          · exact .inl (.inr rfl)
          · exact .inr ⟨h1, h2⟩
theorem mrgN_nodup (skip : Option Str) : ∀ (l acc : List Str), acc.Nodup → (mrgN skip acc l).Nodup
  | [], acc, h => h
  | y :: r, acc, h => by
    show (mrgN skip (if skip = some y then acc else if y ∈ acc then acc else acc ++ [y]) r).Nodup
    refine mrgN_nodup skip r _ ?_
    by_cases c : skip = some y
    · rw [if_pos c]; exact h
    · rw [if_neg c]
      by_cases d : y ∈ acc
      · rw [if_pos d]; exact h
      · rw [if_neg d]
        exact List.nodup_append.mpr ⟨h, List.pairwise_singleton _ _, fun a ha b hb => by
          rw [List.mem_singleton.mp hb]
          exact fun z => d (z ▸ ha)⟩
theorem mrgN_len (skip : Option Str) : ∀ (l acc : List Str), (mrgN skip acc l).length ≤ acc.length + l.length
  | [], acc => Nat.le_refl _
  | y :: r, acc => by
    have h := mrgN_len skip r (if skip = some y then acc else if y ∈ acc then acc else acc ++ [y])
    have e : (if skip = some y then acc else if y ∈ acc then acc else acc ++ [y]).length ≤ acc.length + 1 := by
      split
      · omega
      · split
        · omega
        · rw [List.length_append]; exact Nat.le_refl _
    show (mrgN skip (if skip = some y then acc else if y ∈ acc then acc else acc ++ [y]) r).length ≤ acc.length + (r.length + 1)
    omega
theorem lookup_none {l : List (Str × Kd)} {z : Str} (h : l.lookup z = none) : ∀ q ∈ l, q.1 ≠ z := by
  induction l with
  | nil => exact fun _ m => nomatch m
  | cons a r ih =>
    obtain ⟨y, k⟩ := a
    rw [List.lookup_cons] at h
    cases e : z == y with
    | true => rw [e] at h; cases h
    | false =>
      rw [e] at h
      intro q m
      rcases List.mem_cons.mp m with rfl | m
      · exact fun z => beq_eq_false_iff_ne.mp e z.symm
      · exact ih h q m
theorem mrgK_len (label : Option Str) (due : Option Kd) : ∀ (l acc r : List (Str × Kd)), mrgK label due acc l = some r → r.length ≤ acc.length + l.length ∧ ((acc.map (·.1)).Nodup → (r.map (·.1)).Nodup)
  | [], acc, r, h => by
    cases h
    exact ⟨Nat.le_refl _, id⟩
  | (z, k) :: t, acc, r, h => by
    have e : mrgK label due acc ((z, k) :: t) = (if label = some z then (if due = some k then mrgK label due acc t else none) else
      match acc.lookup z with
      | none => mrgK label due (acc ++ [(z, k)]) t
      | some k' => if k' = k then mrgK label due acc t else none) := rfl
    rw [e] at h
    by_cases c : label = some z
    · rw [if_pos c] at h
      by_cases d : due = some k
      · rw [if_pos d] at h
        obtain ⟨a, b⟩ := mrgK_len label due t acc r h
        exact ⟨by rw [List.length_cons]; omega, b⟩
      · rw [if_neg d] at h
        cases h
    · rw [if_neg c] at h
      cases hl : acc.lookup z with
      | none =>
        rw [hl] at h
        obtain ⟨a, b⟩ := mrgK_len label due t _ r h
        refine ⟨by rw [List.length_append] at a; rw [List.length_cons]; exact Nat.le_trans a (by show acc.length + 1 + t.length ≤ _; omega), fun nd => b ?_⟩
        rw [List.map_append]
        refine List.nodup_append.mpr ⟨nd, List.pairwise_singleton _ _, fun x hx y hy => ?_⟩
        rw [List.mem_singleton.mp hy]
        obtain ⟨q, hq, rfl⟩ := List.mem_map.mp hx
        exact lookup_none hl q hq
      | some k' =>
        rw [hl] at h
        dsimp only at h
        by_cases d : k' = k
        · rw [if_pos d] at h
          obtain ⟨a, b⟩ := mrgK_len label due t acc r h
          exact ⟨by rw [List.length_cons]; omega, b⟩
        · rw [if_neg d] at h
          cases h
/-- what stands in one place goes together -/
theorem mrgK_ok {U : List (Str × Kd)} (F : ∀ z k k', (z, k) ∈ U → (z, k') ∈ U → k = k') (label : Option Str) (due : Option Kd) : ∀ (l acc : List (Str × Kd)), (∀ q ∈ acc, q ∈ U) → (∀ q ∈ l, (label = some q.1 → due = some q.2) ∧ (label ≠ some q.1 → q ∈ U)) →
    ∃ r, mrgK label due acc l = some r ∧ (∀ q, q ∈ r ↔ q ∈ acc ∨ (q ∈ l ∧ label ≠ some q.1))
  | [], acc, _, _ => ⟨acc, rfl, fun q => ⟨.inl, fun h => h.elim id fun h => nomatch h.1⟩⟩
  | (z, k) :: t, acc, ha, hl => by
    have e : mrgK label due acc ((z, k) :: t) = (if label = some z then (if due = some k then mrgK label due acc t else none) else
      match acc.lookup z with
      | none => mrgK label due (acc ++ [(z, k)]) t
      | some k' => if k' = k then mrgK label due acc t else none) := rfl
    rw [e]
    obtain ⟨h1, h2⟩ := hl (z, k) List.mem_cons_self
    have ht := fun q m => hl q (List.mem_cons_of_mem _ m)
    by_cases c : label = some z
    · rw [if_pos c, if_pos (h1 c)]
      obtain ⟨r, e1, e2⟩ := mrgK_ok F label due t acc ha ht
      refine ⟨r, e1, fun q => ?_⟩
      rw [e2]
      constructor
      · rintro (h | ⟨a, b⟩)
        · exact .inl h
        · exact .inr ⟨List.mem_cons_of_mem _ a, b⟩
      · rintro (h | ⟨a, b⟩)
        · exact .inl h
        · rcases List.mem_cons.mp a with rfl | a
          · exact absurd c b
          · exact .inr ⟨a, b⟩
    · rw [if_neg c]
      cases hk : acc.lookup z with
      | none =>
        obtain ⟨r, e1, e2⟩ := mrgK_ok F label due t (acc ++ [(z, k)]) (fun q m => (List.mem_append.mp m).elim (ha q) fun m => by rw [List.mem_singleton.mp m]; exact h2 c) ht
        refine ⟨r, e1, fun q => ?_⟩
        rw [e2, List.mem_append, List.mem_singleton]
        constructor
        · rintro ((h | rfl) | ⟨a, b⟩)
          · exact .inl h
          · exact .inr ⟨List.mem_cons_self, c⟩
          · exact .inr ⟨List.mem_cons_of_mem _ a, b⟩
        · rintro (h | ⟨a, b⟩)
          · exact .inl (.inl h)
          · rcases List.mem_cons.mp a with rfl | a
            · exact .inl (.inr rfl)
            · exact .inr ⟨a, b⟩
      | some k' =>
        have m := lookup_mem hk
        have ek := F z k' k (ha _ m) (h2 c)
        subst ek
        dsimp only
        rw [if_pos rfl]
        obtain ⟨r, e1, e2⟩ := mrgK_ok F label due t acc ha ht
        refine ⟨r, e1, fun q => ?_⟩
        rw [e2]
        constructor
        · rintro (h | ⟨a, b⟩)
          · exact .inl h
          · exact .inr ⟨List.mem_cons_of_mem _ a, b⟩
        · rintro (h | ⟨a, b⟩)
          · exact .inl h
          · rcases List.mem_cons.mp a with rfl | a
            · exact .inl m
            · exact .inr ⟨a, b⟩
/-- what is told of a right program -/
structure Right (p : Pg) (k : Kd) (j : Jd) : Prop where
  kind : j.kind = k
  names : ∀ z, z ∈ j.names ↔ z ∈ opn p
  knowns : ∀ q, q ∈ j.knowns ↔ q ∈ opk p
  ndN : j.names.Nodup
  ndK : (j.knowns.map (·.1)).Nodup
theorem mrgA_ok {U : List (Str × Kd)} (F : ∀ z k k', (z, k) ∈ U → (z, k') ∈ U → k = k') : ∀ (cs : List Cl) (js : List Jd) (ns : List Str) (ks : List (Str × Kd)), ns.Nodup → (ks.map (·.1)).Nodup → (∀ q ∈ ks, q ∈ U) →
    (∀ e ∈ cs.zip js, ∀ q ∈ e.2.knowns, (e.1.2.1 = some q.1 → e.1.2.2 = some q.2) ∧ (e.1.2.1 ≠ some q.1 → q ∈ U)) →
    ∃ r, mrgA ns ks cs js = some r ∧ (∀ z, z ∈ r.1 ↔ z ∈ ns ∨ ∃ e ∈ cs.zip js, z ∈ e.2.names ∧ e.1.1 ≠ some z) ∧ (∀ q, q ∈ r.2 ↔ q ∈ ks ∨ ∃ e ∈ cs.zip js, q ∈ e.2.knowns ∧ e.1.2.1 ≠ some q.1) ∧ r.1.Nodup ∧ (r.2.map (·.1)).Nodup
  | [], js, ns, ks, n1, n2, _, _ => by
    refine ⟨(ns, ks), by cases js <;> rfl, fun z => ⟨.inl, fun h => h.elim id fun ⟨_, m, _⟩ => ?_⟩, fun z => ⟨.inl, fun h => h.elim id fun ⟨_, m, _⟩ => ?_⟩, n1, n2⟩
    · cases m
    · cases m
  | c :: cs, [], ns, ks, n1, n2, _, _ => by
    refine ⟨(ns, ks), rfl, fun z => ⟨.inl, fun h => h.elim id fun ⟨_, m, _⟩ => ?_⟩, fun z => ⟨.inl, fun h => h.elim id fun ⟨_, m, _⟩ => ?_⟩, n1, n2⟩
    · cases m
    · cases m
  | c :: cs, j :: js, ns, ks, n1, n2, hk, hc => by
    obtain ⟨ks', e1, e2⟩ := mrgK_ok F c.2.1 c.2.2 j.knowns ks hk (hc (c, j) List.mem_cons_self)
    obtain ⟨_, nd⟩ := mrgK_len _ _ _ _ _ e1
    obtain ⟨r, r1, r2, r3, r4, r5⟩ := mrgA_ok F cs js (mrgN c.1 ns j.names) ks' (mrgN_nodup _ _ _ n1) (nd n2) (fun q m => by
      rcases (e2 q).mp m with m | ⟨m1, m2⟩
      · exact hk q m
      · exact (hc (c, j) List.mem_cons_self q m1).2 m2) fun e m => hc e (List.mem_cons_of_mem _ m)
    refine ⟨r, ?_, fun z => ?_, fun q => ?_, r4, r5⟩
    · show (match mrgK c.2.1 c.2.2 ks j.knowns with | none => none | some ks' => mrgA (mrgN c.1 ns j.names) ks' cs js) = some r
      rw [e1]
      exact r1
    · rw [r2, mrgN_mem]
      constructor
      · rintro ((h | ⟨a, b⟩) | ⟨e, m, h⟩)
        · exact .inl h
        · exact .inr ⟨(c, j), List.mem_cons_self, a, b⟩
        · exact .inr ⟨e, List.mem_cons_of_mem _ m, h⟩
      · rintro (h | ⟨e, m, h⟩)
        · exact .inl (.inl h)
        · rcases List.mem_cons.mp m with rfl | m
          · exact .inl (.inr h)
          · exact .inr ⟨e, m, h⟩
    · rw [r3, e2]
      constructor
      · rintro ((h | ⟨a, b⟩) | ⟨e, m, h⟩)
        · exact .inl h
        · exact .inr ⟨(c, j), List.mem_cons_self, a, b⟩
        · exact .inr ⟨e, List.mem_cons_of_mem _ m, h⟩
      · rintro (h | ⟨e, m, h⟩)
        · exact .inl (.inl h)
        · rcases List.mem_cons.mp m with rfl | m
          · exact .inl (.inr h)
          · exact .inr ⟨e, m, h⟩
/-! ### right programs -/
theorem made_is {a b : Kd} (h1 : a ≠ .none) (h2 : b ≠ .none) : madeK a b = some (.frm a b) := if_neg fun h => h.elim h1 h2
theorem pair_is {a b : Kd} (h1 : a ≠ .none) (h2 : b ≠ .none) : pairK a b = some (.pair a b) := if_neg fun h => h.elim h1 h2
/-- by what kind_of and the closings are -/
theorem jp_of {s : Sc} {p : Pg} {k : Kd} {js : List Jd} (F : s.Fn) {cs : List Cl} (hk : kindP p (js.map Jd.kind) = some k) (hc : closP p (js.map Jd.kind) = cs) (n1 : (ownN p).Nodup) (n2 : ((ownK p).map (·.1)).Nodup) (hU : ∀ q ∈ ownK p, q ∈ s.2)
    (hq : ∀ e ∈ cs.zip js, ∀ q ∈ e.2.knowns, (e.1.2.1 = some q.1 → e.1.2.2 = some q.2) ∧ (e.1.2.1 ≠ some q.1 → q ∈ s.2))
    (en : ∀ z, (z ∈ ownN p ∨ ∃ e ∈ cs.zip js, z ∈ e.2.names ∧ e.1.1 ≠ some z) ↔ z ∈ opn p) (ek : ∀ q, (q ∈ ownK p ∨ ∃ e ∈ cs.zip js, q ∈ e.2.knowns ∧ e.1.2.1 ≠ some q.1) ↔ q ∈ opk p) : ∃ j, jp p js = some j ∧ Right p k j := by
  subst hc
  obtain ⟨r, e1, e2, e3, e4, e5⟩ := mrgA_ok (U := s.2) F _ js (ownN p) (ownK p) n1 n2 hU hq
  refine ⟨⟨k, r.1, r.2⟩, ?_, rfl, fun z => (e2 z).trans (en z), fun q => (e3 q).trans (ek q), e4, e5⟩
  unfold jp
  rw [hk]
  dsimp only
  rw [e1]
theorem zip_ex1 {α β : Type} {c : α} {j : β} {Ph : α × β → Prop} : (∃ e ∈ [c].zip [j], Ph e) ↔ Ph (c, j) := by
  constructor
  · rintro ⟨e, m, h⟩
    rw [List.mem_singleton.mp m] at h
    exact h
  · exact fun h => ⟨_, List.mem_cons_self, h⟩
theorem zip_ex2 {α β : Type} {c d : α} {j i : β} {Ph : α × β → Prop} : (∃ e ∈ [c, d].zip [j, i], Ph e) ↔ Ph (c, j) ∨ Ph (d, i) := by
  constructor
  · rintro ⟨e, m, h⟩
    rcases List.mem_cons.mp m with rfl | m
    · exact .inl h
    · rw [List.mem_singleton.mp m] at h
      exact .inr h
  · rintro (h | h)
    · exact ⟨_, List.mem_cons_self, h⟩
    · exact ⟨_, List.mem_cons_of_mem _ List.mem_cons_self, h⟩
theorem zip_ex3 {α β : Type} {c d g : α} {j i l : β} {Ph : α × β → Prop} : (∃ e ∈ [c, d, g].zip [j, i, l], Ph e) ↔ Ph (c, j) ∨ Ph (d, i) ∨ Ph (g, l) := by
  constructor
  · rintro ⟨e, m, h⟩
    rcases List.mem_cons.mp m with rfl | m
    · exact .inl h
    rcases List.mem_cons.mp m with rfl | m
    · exact .inr (.inl h)
    · rw [List.mem_singleton.mp m] at h
      exact .inr (.inr h)
  · rintro (h | h | h)
    · exact ⟨_, List.mem_cons_self, h⟩
    · exact ⟨_, List.mem_cons_of_mem _ List.mem_cons_self, h⟩
    · exact ⟨_, List.mem_cons_of_mem _ (List.mem_cons_of_mem _ List.mem_cons_self), h⟩
def kdOf : Pg → Kd
  | .nothing => .none
  | .num _ => .number
  | .name _ => .number
  | .next _ => .number
  | .plus _ _ => .number
  | .times _ _ => .number
  | .known _ k => k
  | .lets _ k a => .frm k (kdOf a)
  | .for_ _ a => .frm .number (kdOf a)
  | .call a _ => match kdOf a with
    | .frm _ r => r
    | _ => .none
  | .pair a b => .pair (kdOf a) (kdOf b)
  | .first a => match kdOf a with
    | .pair r _ => r
    | _ => .none
  | .second a => match kdOf a with
    | .pair _ r => r
    | _ => .none
  | .parts _ _ _ b => kdOf b
  | .this a k => .either (kdOf a) k
  | .that k a => .either k (kdOf a)
  | .cases _ _ b _ _ => kdOf b
  | .climb a _ _ _ _ => kdOf a
theorem Ty.kd {s : Sc} {p : Pg} {k : Kd} (h : Ty s p k) : kdOf p = k := by
  induction h with
  | nothing => rfl
  | num _ _ => rfl
  | name _ _ => rfl
  | next _ _ => rfl
  | plus _ _ _ _ => rfl
  | times _ _ _ _ => rfl
  | known _ _ _ => rfl
  | lets _ _ _ _ _ ih => exact congrArg _ ih
  | for_ _ _ _ ih => exact congrArg _ ih
  | call _ _ ih _ => simp only [kdOf, ih]
  | pair _ _ _ _ i1 i2 => simp only [kdOf, i1, i2]
  | first _ ih => simp only [kdOf, ih]
  | second _ ih => simp only [kdOf, ih]
  | parts _ _ _ _ _ ih => exact ih
  | this _ _ ih => simp only [kdOf, ih]
  | that _ _ ih => simp only [kdOf, ih]
  | cases _ _ _ _ _ _ ih _ => exact ih
  | climb _ _ _ _ _ _ ih _ _ => exact ih
/-- with nothing closed -/
theorem no_cl {s : Sc} {a : Pg} {k : Kd} {j : Jd} (h : Ty s a k) (r : Right a k j) : ∀ q ∈ j.knowns, (noCl.2.1 = some q.1 → noCl.2.2 = some q.2) ∧ (noCl.2.1 ≠ some q.1 → q ∈ s.2) := fun q m => ⟨(fun e => nomatch e), fun _ => h.opens.2 q ((r.knowns q).mp m)⟩
theorem lb_cl {s t : Sc} (e2 : t.2 = s.2) {n : Option Str} {a : Pg} {k o : Kd} {u : Str} {j : Jd} (h : Ty (t.lb u o) a k) (r : Right a k j) : ∀ q ∈ j.knowns, (((n, some u, some o) : Cl).2.1 = some q.1 → ((n, some u, some o) : Cl).2.2 = some q.2) ∧ (((n, some u, some o) : Cl).2.1 ≠ some q.1 → q ∈ s.2) := fun q m => by
  have hm := h.opens.2 q ((r.knowns q).mp m)
  refine ⟨fun e => ?_, fun e => ?_⟩
  · have eu : u = q.1 := Option.some.inj e
    rcases List.mem_cons.mp hm with e3 | hm
    · rw [e3]
    · exact absurd eu.symm (of_decide_eq_true (List.mem_filter.mp hm).2)
  · rw [← e2]
    exact mem_lb hm fun z => e (by rw [z])
theorem nm_cl {s : Sc} {a : Pg} {k : Kd} {x : Str} {j : Jd} (h : Ty (s.nm x) a k) (r : Right a k j) : ∀ q ∈ j.knowns, (((some x, none, none) : Cl).2.1 = some q.1 → ((some x, none, none) : Cl).2.2 = some q.2) ∧ (((some x, none, none) : Cl).2.1 ≠ some q.1 → q ∈ s.2) := fun q m => ⟨(fun e => nomatch e), fun _ => h.opens.2 q ((r.knowns q).mp m)⟩
theorem fil_iff {α β : Type} [DecidableEq β] {l : List α} {f : α → β} {z : β} {x : α} : x ∈ l.filter (fun y => decide (f y ≠ z)) ↔ x ∈ l ∧ some z ≠ some (f x) := by
  rw [List.mem_filter, decide_eq_true_iff]
  exact ⟨fun ⟨a, b⟩ => ⟨a, fun e => b (Option.some.inj e).symm⟩, fun ⟨a, b⟩ => ⟨a, fun e => b (by rw [e])⟩⟩
theorem or_f {a : Prop} {β : Type} {x : β} : (x ∈ ([] : List β) ∨ a) ↔ a := ⟨fun h => h.elim (fun h => nomatch h) id, .inr⟩
theorem and_n {a : Prop} {β : Type} {x : β} : (a ∧ (none : Option β) ≠ some x) ↔ a := ⟨And.left, fun h => ⟨h, fun e => nomatch e⟩⟩
theorem fil_nm {l : List Str} {z x : Str} : z ∈ l.filter (fun y => decide (y ≠ x)) ↔ z ∈ l ∧ some x ≠ some z := fil_iff (f := id)
theorem no_ne {β : Type} {x : β} : ((none : Option β) ≠ some x) ↔ True := ⟨fun _ => trivial, fun _ e => nomatch e⟩

theorem num_ks0 : numK [] = some .number := rfl
theorem num_ks1 : numK [.number] = some .number := rfl
theorem num_ks2 : numK [.number, .number] = some .number := rfl
/-- each piece of a right program, by its programs -/
theorem jp_right {s : Sc} {p : Pg} {k : Kd} (h : Ty s p k) (F : s.Fn) {js : List Jd} (hj : All2 (fun a j => Right a (kdOf a) j) p.kids js) : ∃ j, jp p js = some j ∧ Right p k j := by
  cases h with
  | nothing =>
    cases hj
    exact jp_of F (cs := []) rfl rfl .nil .nil (fun _ m => nomatch m) (fun _ m => nomatch m) (fun z => or_f.trans ⟨(fun ⟨_, m, _⟩ => nomatch m), (fun m => nomatch m)⟩) (fun z => or_f.trans ⟨(fun ⟨_, m, _⟩ => nomatch m), (fun m => nomatch m)⟩)
  | num _ _ =>
    cases hj
    exact jp_of F (cs := []) rfl rfl .nil .nil (fun _ m => nomatch m) (fun _ m => nomatch m) (fun z => or_f.trans ⟨(fun ⟨_, m, _⟩ => nomatch m), (fun m => nomatch m)⟩) (fun z => or_f.trans ⟨(fun ⟨_, m, _⟩ => nomatch m), (fun m => nomatch m)⟩)
  | @name _ y _ _ =>
    cases hj
    exact jp_of F (cs := []) rfl rfl (List.pairwise_singleton _ _) .nil (fun _ m => nomatch m) (fun _ m => nomatch m) (fun z => ⟨(fun h => h.elim id fun ⟨_, m, _⟩ => nomatch m), .inl⟩) (fun z => or_f.trans ⟨(fun ⟨_, m, _⟩ => nomatch m), (fun m => nomatch m)⟩)
  | @known _ y k1 hm _ _ =>
    cases hj
    exact jp_of F (cs := []) rfl rfl .nil (List.pairwise_singleton _ _) (fun q m => by rw [List.mem_singleton.mp m]; exact hm) (fun _ m => nomatch m) (fun z => or_f.trans ⟨(fun ⟨_, m, _⟩ => nomatch m), (fun m => nomatch m)⟩) (fun z => ⟨(fun h => h.elim id fun ⟨_, m, _⟩ => nomatch m), .inl⟩)
  | @next _ a ha =>
    cases hj with
    | @cons _ j _ _ r hj =>
    cases hj
    rw [ha.kd] at r
    exact jp_of F (cs := [noCl]) (by show numK [j.kind] = _; rw [r.kind]; rfl) rfl .nil .nil (fun _ m => nomatch m) (fun e m => by rw [List.mem_singleton.mp m]; exact no_cl ha r)
      (fun z => or_f.trans (zip_ex1.trans (and_n.trans (r.names z)))) (fun q => or_f.trans (zip_ex1.trans (and_n.trans (r.knowns q))))
  | @plus _ a b ha hb =>
    cases hj with
    | @cons _ j _ _ r hj =>
    cases hj with
    | @cons _ j2 _ _ r2 hj =>
    cases hj
    rw [ha.kd] at r
    rw [hb.kd] at r2
    exact jp_of F (cs := [noCl, noCl]) (by show numK [j.kind, j2.kind] = _; rw [r.kind, r2.kind]; rfl) rfl .nil .nil (fun _ m => nomatch m) (fun e m => by
        rcases List.mem_cons.mp m with rfl | m
        · exact no_cl ha r
        · rw [List.mem_singleton.mp m]; exact no_cl hb r2)
      (fun z => or_f.trans (zip_ex2.trans ((or_congr and_n and_n).trans ((or_congr (r.names z) (r2.names z)).trans List.mem_append.symm)))) (fun q => or_f.trans (zip_ex2.trans ((or_congr and_n and_n).trans ((or_congr (r.knowns q) (r2.knowns q)).trans List.mem_append.symm))))
  | @times _ a b ha hb =>
    cases hj with
    | @cons _ j _ _ r hj =>
    cases hj with
    | @cons _ j2 _ _ r2 hj =>
    cases hj
    rw [ha.kd] at r
    rw [hb.kd] at r2
    exact jp_of F (cs := [noCl, noCl]) (by show numK [j.kind, j2.kind] = _; rw [r.kind, r2.kind]; rfl) rfl .nil .nil (fun _ m => nomatch m) (fun e m => by
        rcases List.mem_cons.mp m with rfl | m
        · exact no_cl ha r
        · rw [List.mem_singleton.mp m]; exact no_cl hb r2)
      (fun z => or_f.trans (zip_ex2.trans ((or_congr and_n and_n).trans ((or_congr (r.names z) (r2.names z)).trans List.mem_append.symm)))) (fun q => or_f.trans (zip_ex2.trans ((or_congr and_n and_n).trans ((or_congr (r.knowns q) (r2.knowns q)).trans List.mem_append.symm))))
  | @lets _ y k1 k2 a _ _ n1 n2 ha =>
    cases hj with
    | @cons _ j _ _ r hj =>
    cases hj
    rw [ha.kd] at r
    exact jp_of F (cs := [(none, some y, some k1)]) (by show madeK k1 j.kind = _; rw [r.kind]; exact made_is n1 n2) rfl .nil .nil (fun _ m => nomatch m) (fun e m => by rw [List.mem_singleton.mp m]; exact lb_cl rfl ha r)
      (fun z => or_f.trans (zip_ex1.trans (and_n.trans (r.names z)))) (fun q => by refine or_f.trans (zip_ex1.trans ?_); show q ∈ j.knowns ∧ some y ≠ some q.1 ↔ _; rw [r.knowns]; exact fil_iff.symm)
  | @for_ _ y k2 a _ n2 ha =>
    cases hj with
    | @cons _ j _ _ r hj =>
    cases hj
    rw [ha.kd] at r
    exact jp_of F (cs := [(some y, none, none)]) (by show madeK .number j.kind = _; rw [r.kind]; exact made_is (fun z => nomatch z) n2) rfl .nil .nil (fun _ m => nomatch m) (fun e m => by rw [List.mem_singleton.mp m]; exact nm_cl ha r)
      (fun z => by refine or_f.trans (zip_ex1.trans ?_); show z ∈ j.names ∧ some y ≠ some z ↔ _; rw [r.names]; exact (fil_iff (f := id)).symm) (fun q => or_f.trans (zip_ex1.trans (and_n.trans (r.knowns q))))
  | @call _ a b k1 _ ha hb =>
    cases hj with
    | @cons _ j _ _ r hj =>
    cases hj with
    | @cons _ j2 _ _ r2 hj =>
    cases hj
    rw [ha.kd] at r
    rw [hb.kd] at r2
    exact jp_of F (cs := [noCl, noCl]) (by show callK j.kind j2.kind = _; rw [r.kind, r2.kind]; exact if_pos rfl) rfl .nil .nil (fun _ m => nomatch m) (fun e m => by
        rcases List.mem_cons.mp m with rfl | m
        · exact no_cl ha r
        · rw [List.mem_singleton.mp m]; exact no_cl hb r2)
      (fun z => or_f.trans (zip_ex2.trans ((or_congr and_n and_n).trans ((or_congr (r.names z) (r2.names z)).trans List.mem_append.symm)))) (fun q => or_f.trans (zip_ex2.trans ((or_congr and_n and_n).trans ((or_congr (r.knowns q) (r2.knowns q)).trans List.mem_append.symm))))
  | @pair _ a b k1 k2 n1 n2 ha hb =>
    cases hj with
    | @cons _ j _ _ r hj =>
    cases hj with
    | @cons _ j2 _ _ r2 hj =>
    cases hj
    rw [ha.kd] at r
    rw [hb.kd] at r2
    exact jp_of F (cs := [noCl, noCl]) (by show pairK j.kind j2.kind = _; rw [r.kind, r2.kind]; exact pair_is n1 n2) rfl .nil .nil (fun _ m => nomatch m) (fun e m => by
        rcases List.mem_cons.mp m with rfl | m
        · exact no_cl ha r
        · rw [List.mem_singleton.mp m]; exact no_cl hb r2)
      (fun z => or_f.trans (zip_ex2.trans ((or_congr and_n and_n).trans ((or_congr (r.names z) (r2.names z)).trans List.mem_append.symm)))) (fun q => or_f.trans (zip_ex2.trans ((or_congr and_n and_n).trans ((or_congr (r.knowns q) (r2.knowns q)).trans List.mem_append.symm))))
  | @first _ a _ k2 ha =>
    cases hj with
    | @cons _ j _ _ r hj =>
    cases hj
    rw [ha.kd] at r
    exact jp_of F (cs := [noCl]) (by show firstK j.kind = _; rw [r.kind]; rfl) rfl .nil .nil (fun _ m => nomatch m) (fun e m => by rw [List.mem_singleton.mp m]; exact no_cl ha r)
      (fun z => or_f.trans (zip_ex1.trans (and_n.trans (r.names z)))) (fun q => or_f.trans (zip_ex1.trans (and_n.trans (r.knowns q))))
  | @second _ a k2 _ ha =>
    cases hj with
    | @cons _ j _ _ r hj =>
    cases hj
    rw [ha.kd] at r
    exact jp_of F (cs := [noCl]) (by show secondK j.kind = _; rw [r.kind]; rfl) rfl .nil .nil (fun _ m => nomatch m) (fun e m => by rw [List.mem_singleton.mp m]; exact no_cl ha r)
      (fun z => or_f.trans (zip_ex1.trans (and_n.trans (r.names z)))) (fun q => or_f.trans (zip_ex1.trans (and_n.trans (r.knowns q))))
  | @parts _ a b x u o _ _ _ ha hb =>
    cases hj with
    | @cons _ j _ _ r hj =>
    cases hj with
    | @cons _ j2 _ _ r2 hj =>
    cases hj
    rw [ha.kd] at r
    rw [hb.kd] at r2
    exact jp_of F (cs := [noCl, (some x, some u, some o)]) (by show partsK j.kind j2.kind = _; rw [r.kind, r2.kind]; rfl) (by show closP (.parts a x u b) [j.kind, j2.kind] = _; rw [r.kind]; rfl) .nil .nil (fun _ m => nomatch m) (fun e m => by
        rcases List.mem_cons.mp m with rfl | m
        · exact no_cl ha r
        · rw [List.mem_singleton.mp m]; exact lb_cl (s := s) (t := s.nm x) rfl hb r2)
      (fun z => by
        refine or_f.trans (zip_ex2.trans ((or_congr and_n Iff.rfl).trans ?_))
        show (z ∈ j.names ∨ z ∈ j2.names ∧ some x ≠ some z) ↔ z ∈ opn a ++ (opn b).filter fun y => decide (y ≠ x)
        rw [r.names, r2.names, List.mem_append, fil_nm])
      (fun q => by
        refine or_f.trans (zip_ex2.trans ((or_congr and_n Iff.rfl).trans ?_))
        show (q ∈ j.knowns ∨ q ∈ j2.knowns ∧ some u ≠ some q.1) ↔ q ∈ opk a ++ (opk b).filter fun q => decide (q.1 ≠ u)
        rw [r.knowns, r2.knowns, List.mem_append, fil_iff])
  | @this _ a k1 k2 _ ha =>
    cases hj with
    | @cons _ j _ _ r hj =>
    cases hj
    rw [ha.kd] at r
    exact jp_of F (cs := [noCl]) (by show some (Kd.either j.kind k2) = _; rw [r.kind]) rfl .nil .nil (fun _ m => nomatch m) (fun e m => by rw [List.mem_singleton.mp m]; exact no_cl ha r)
      (fun z => or_f.trans (zip_ex1.trans (and_n.trans (r.names z)))) (fun q => or_f.trans (zip_ex1.trans (and_n.trans (r.knowns q))))
  | @that _ a k1 k2 _ ha =>
    cases hj with
    | @cons _ j _ _ r hj =>
    cases hj
    rw [ha.kd] at r
    exact jp_of F (cs := [noCl]) (by show some (Kd.either k1 j.kind) = _; rw [r.kind]) rfl .nil .nil (fun _ m => nomatch m) (fun e m => by rw [List.mem_singleton.mp m]; exact no_cl ha r)
      (fun z => or_f.trans (zip_ex1.trans (and_n.trans (r.names z)))) (fun q => or_f.trans (zip_ex1.trans (and_n.trans (r.knowns q))))
  | @cases _ a b c u v k1 o _ _ _ ha hb hc =>
    cases hj with
    | @cons _ j _ _ r hj =>
    cases hj with
    | @cons _ j2 _ _ r2 hj =>
    cases hj with
    | @cons _ j3 _ _ r3 hj =>
    cases hj
    rw [ha.kd] at r
    rw [hb.kd] at r2
    rw [hc.kd] at r3
    exact jp_of F (cs := [noCl, (none, some u, some k1), (none, some v, some o)]) (by show casesK j.kind j2.kind j3.kind = _; rw [r.kind, r2.kind, r3.kind]; exact if_pos rfl) (by show closP (.cases a u b v c) [j.kind, j2.kind, j3.kind] = _; rw [r.kind]; rfl) .nil .nil (fun _ m => nomatch m) (fun e m => by
        rcases List.mem_cons.mp m with rfl | m
        · exact no_cl ha r
        rcases List.mem_cons.mp m with rfl | m
        · exact lb_cl rfl hb r2
        · rw [List.mem_singleton.mp m]; exact lb_cl rfl hc r3)
      (fun z => by
        refine or_f.trans (zip_ex3.trans ((or_congr and_n (or_congr and_n and_n)).trans ?_))
        show (z ∈ j.names ∨ z ∈ j2.names ∨ z ∈ j3.names) ↔ z ∈ opn a ++ opn b ++ opn c
        rw [r.names, r2.names, r3.names, List.mem_append, List.mem_append, or_assoc])
      (fun q => by
        refine or_f.trans (zip_ex3.trans ((or_congr and_n Iff.rfl).trans ?_))
        show (q ∈ j.knowns ∨ q ∈ j2.knowns ∧ some u ≠ some q.1 ∨ q ∈ j3.knowns ∧ some v ≠ some q.1) ↔ q ∈ opk a ++ ((opk b).filter fun q => decide (q.1 ≠ u)) ++ (opk c).filter fun q => decide (q.1 ≠ v)
        rw [r.knowns, r2.knowns, r3.knowns, List.mem_append, List.mem_append, fil_iff, fil_iff, or_assoc])
  | @climb _ a b c x u _ _ _ kn ha hb hc =>
    cases hj with
    | @cons _ j _ _ r hj =>
    cases hj with
    | @cons _ j2 _ _ r2 hj =>
    cases hj with
    | @cons _ j3 _ _ r3 hj =>
    cases hj
    rw [ha.kd] at r
    rw [hb.kd] at r2
    rw [hc.kd] at r3
    exact jp_of F (cs := [noCl, (some x, some u, some k), noCl]) (by show climbK j.kind j2.kind j3.kind = _; rw [r.kind, r2.kind, r3.kind]; exact if_pos ⟨rfl, kn, rfl⟩) (by show closP (.climb a x u b c) [j.kind, j2.kind, j3.kind] = _; rw [r.kind]; rfl) .nil .nil (fun _ m => nomatch m) (fun e m => by
        rcases List.mem_cons.mp m with rfl | m
        · exact no_cl ha r
        rcases List.mem_cons.mp m with rfl | m
        · exact lb_cl (s := s) (t := s.nm x) rfl hb r2
        · rw [List.mem_singleton.mp m]; exact no_cl hc r3)
      (fun z => by
        refine or_f.trans (zip_ex3.trans ((or_congr and_n (or_congr Iff.rfl and_n)).trans ?_))
        show (z ∈ j.names ∨ z ∈ j2.names ∧ some x ≠ some z ∨ z ∈ j3.names) ↔ z ∈ opn a ++ ((opn b).filter fun y => decide (y ≠ x)) ++ opn c
        rw [r.names, r2.names, r3.names, List.mem_append, List.mem_append, fil_nm, or_assoc])
      (fun q => by
        refine or_f.trans (zip_ex3.trans ((or_congr and_n (or_congr Iff.rfl and_n)).trans ?_))
        show (q ∈ j.knowns ∨ q ∈ j2.knowns ∧ some u ≠ some q.1 ∨ q ∈ j3.knowns) ↔ q ∈ opk a ++ ((opk b).filter fun q => decide (q.1 ≠ u)) ++ opk c
        rw [r.knowns, r2.knowns, r3.knowns, List.mem_append, List.mem_append, fil_iff, or_assoc])
end Kf
set_option Elab.async false
set_option linter.all false
set_option maxRecDepth 100000
set_option maxHeartbeats 4000000
set_option pp.maxSteps 500
/-! A piece's own tuple; its kind by the table of defs; loops over a dict's keys. -/
namespace Kf
open PySem PySem.Spec PyProof.Rows L2 Sx RZ
def Pg.word : Pg → Str
  | .nothing => "nothing"
  | .num _ => "num"
  | .name _ => "name"
  | .next _ => "next"
  | .plus _ _ => "plus"
  | .times _ _ => "times"
  | .known _ _ => "known"
  | .lets _ _ _ => "lets"
  | .for_ _ _ => "for"
  | .call _ _ => "call"
  | .pair _ _ => "pair"
  | .first _ => "first"
  | .second _ => "second"
  | .parts _ _ _ _ => "parts"
  | .this _ _ => "this"
  | .that _ _ => "that"
  | .cases _ _ _ _ _ => "cases"
  | .climb _ _ _ _ _ => "climb"
def Pg.ps : Pg → List PyData
  | .nothing => []
  | .num n => [.int n]
  | .name z => [.str z]
  | .next a => [pgD a]
  | .plus a b => [pgD a, pgD b]
  | .times a b => [pgD a, pgD b]
  | .known z k => [.str z, kdD k]
  | .lets z k a => [.str z, kdD k, pgD a]
  | .for_ z a => [.str z, pgD a]
  | .call a b => [pgD a, pgD b]
  | .pair a b => [pgD a, pgD b]
  | .first a => [pgD a]
  | .second a => [pgD a]
  | .parts a x u b => [pgD a, .str x, .str u, pgD b]
  | .this a k => [pgD a, kdD k]
  | .that k a => [kdD k, pgD a]
  | .cases a u b v c => [pgD a, .str u, pgD b, .str v, pgD c]
  | .climb a x u b c => [pgD a, .str x, .str u, pgD b, pgD c]
theorem pgD_is (p : Pg) : pgD p = .tuple (.str p.word :: p.ps) := by cases p <;> rfl
/-- its own kinds -/
def Pg.kds : Pg → List Kd
  | .known _ k => [k]
  | .lets _ k _ => [k]
  | .this _ k => [k]
  | .that k _ => [k]
  | _ => []
section
variable {P : Program} {w : World} {K : PySem.W.Frag} {mg : Str → Option Value} {base : Heap}
theorem pg_view {H : Hp} {v : V} {p : Pg} (h : Dt K H v (pgD p)) : ∃ q xs, v = .ref q ∧ SqT K (tups H) q (.str p.word :: xs) ∧ DtAll K H xs p.ps := by
  rw [pgD_is] at h
  cases h with
  | @tup q xs _ hs hx =>
  cases hx with
  | cons h1 hx =>
  cases h1
  exact ⟨q, _, rfl, hs, hx⟩
/-! ### a def in a slot -/
def tCallH (P : Program) (w : World) (K : PySem.W.Frag) (mg : Str → Option Value) (base : Heap) (k i : Nat) (t : TA) : TE := fun σ H Q => ∃ f sp, σ[i]? = some (some (.ref f)) ∧ Held P w K mg base k f sp ∧ t σ H fun vs H1 => sp vs H1 Q (fun _ _ _ => False)
theorem pe_callH {X : Cx} {k i : Nat} {x : Str} {p pos : Pos} {e : Expr} {es : List Expr} {t : TA} (hr : Room k X.A) (hN : X.N[i]? = some x) (hv : Vis X.env.scope x) (ha : PA X (e :: es) t)
    (hdb : (x == ("__debug__" : Str)) = false := by decide) (hcd : (x == ("__classdict__" : Str)) = false := by decide)
    (he : starEach (e :: es) X.env = (false, eval e X.env) :: starEach es X.env := by rfl) (hpl : (backTo pos (starEach es X.env)).any (·.1) = false := by rfl) : PE X (.Call (.Name x p) (e :: es) [] pos) (tCallH X.prog X.w X.K X.mg X.base k i t) := by
  refine ⟨fun pins s σ H Q I h => ?_⟩
  obtain ⟨f, sp, hs, hS, ht⟩ := h
  obtain ⟨fd, ps, F, hk, hb⟩ := hS.ex
  refine (pe_callL (i := i) (f := f) (sp := sp) (dvs := []) (E := fun _ _ _ => False) F hr hN hv hk hb .nil (fun _ _ _ _ _ _ _ z => z.elim) ha hdb hcd he hpl).run pins s σ H Q I ⟨hs, ?_⟩
  have e0 : (fun (vs : List V) (H1 : Hp) => sp (vs ++ []) H1 Q (fun _ _ _ => False)) = fun vs H1 => sp vs H1 Q (fun _ _ _ => False) := by
    funext vs H1
    rw [List.append_nil]
  show t σ H (fun vs H1 => sp (vs ++ []) H1 Q (fun _ _ _ => False))
  rw [e0]
  exact ht
def HeldAt (P : Program) (w : World) (K : PySem.W.Frag) (mg : Str → Option Value) (base : Heap) (KV : Addr) (wd : Str) (sp : Sp) : Prop := ∃ f, PySem.W.nsIn K KV wd = some (some (.ref f)) ∧ Held P w K mg base 2 f sp
/-- the table of the defs that tell kinds -/
structure Ko (P : Program) (w : World) (K : PySem.W.Frag) (mg : Str → Option Value) (base : Heap) (KV : Addr) : Prop where
  mK : mg "KIND_OF" = some (.ref KV)
  dict : ∃ es n, KDict K w KV es n
  nothing : HeldAt P w K mg base KV "nothing" (spNothing K)
  num : HeldAt P w K mg base KV "num" (spNumK K)
  name : HeldAt P w K mg base KV "name" (spNumK K)
  next : HeldAt P w K mg base KV "next" (spNumK K)
  plus : HeldAt P w K mg base KV "plus" (spNumK K)
  times : HeldAt P w K mg base KV "times" (spNumK K)
  known : HeldAt P w K mg base KV "known" (spKnown K)
  lets : HeldAt P w K mg base KV "lets" (spLets K)
  for_ : HeldAt P w K mg base KV "for" (spForK K)
  call : HeldAt P w K mg base KV "call" (spTwoK K callK)
  pair : HeldAt P w K mg base KV "pair" (spTwoK K pairK)
  first : HeldAt P w K mg base KV "first" (spOneK K firstK)
  second : HeldAt P w K mg base KV "second" (spOneK K secondK)
  parts : HeldAt P w K mg base KV "parts" (spTwoK K partsK)
  this : HeldAt P w K mg base KV "this" (spThis K)
  that : HeldAt P w K mg base KV "that" (spThat K)
  cases : HeldAt P w K mg base KV "cases" (spThreeK K casesK)
  climb : HeldAt P w K mg base KV "climb" (spThreeK K climbK)
theorem ks0 {ks : List Kd} {us : List V} {H : Hp} (h : All2 (KAt K H) us ks) (l : ks.length = 0) : ks = [] ∧ us = [] := by
  cases h with
  | nil => exact ⟨rfl, rfl⟩
  | cons _ _ => cases l
theorem ks1 {ks : List Kd} {us : List V} {H : Hp} (h : All2 (KAt K H) us ks) (l : ks.length = 1) : ∃ a u, ks = [a] ∧ us = [u] ∧ KAt K H u a := by
  cases h with
  | nil => cases l
  | @cons u a us ks h1 h =>
    obtain ⟨rfl, rfl⟩ := ks0 h (Nat.succ.inj l)
    exact ⟨a, u, rfl, rfl, h1⟩
theorem ks2 {ks : List Kd} {us : List V} {H : Hp} (h : All2 (KAt K H) us ks) (l : ks.length = 2) : ∃ a b u v, ks = [a, b] ∧ us = [u, v] ∧ KAt K H u a ∧ KAt K H v b := by
  cases h with
  | nil => cases l
  | @cons u a us ks h1 h =>
    obtain ⟨b, v, rfl, rfl, h2⟩ := ks1 h (Nat.succ.inj l)
    exact ⟨a, b, u, v, rfl, rfl, h1, h2⟩
theorem ks3 {ks : List Kd} {us : List V} {H : Hp} (h : All2 (KAt K H) us ks) (l : ks.length = 3) : ∃ a b c u v x, ks = [a, b, c] ∧ us = [u, v, x] ∧ KAt K H u a ∧ KAt K H v b ∧ KAt K H x c := by
  cases h with
  | nil => cases l
  | @cons u a us ks h1 h =>
    obtain ⟨b, c, v, x, rfl, rfl, h2, h3⟩ := ks2 h (Nat.succ.inj l)
    exact ⟨a, b, c, u, v, x, rfl, rfl, h1, h2, h3⟩
/-- the def that tells a piece's kind -/
def KindBy (K : PySem.W.Frag) (p : Pg) (sp : Sp) : Prop := ∀ (H : Hp) (v : V) (l : Addr) (us : List V) (ks : List Kd) (Q : VK) (E : XK), Dt K H v (pgD p) → (∀ k ∈ p.kds, k.deep ≤ 110) → H l = some (.lst us) → All2 (KAt K H) us ks → ks.length = p.kids.length →
  (∀ v' H', Same H H' → ResK K H' v' (kindP p ks) → Q v' H') → sp [v, .ref l] H Q E
theorem kind_num {p : Pg} (h : ∀ ks, kindP p ks = numK ks) (n : p.kids.length ≤ 3) : KindBy K p (spNumK K) := fun H v l us ks Q E hd dk hl hk len q => by
  refine ⟨l, v, us, ks, rfl, hl, hk, by omega, fun v' H' s r => q v' H' s ?_⟩
  rw [h]
  exact r
theorem kind_by {KV : Addr} (T : Ko P w K mg base KV) (p : Pg) : ∃ sp, HeldAt P w K mg base KV p.word sp ∧ KindBy K p sp := by
  cases p with
  | nothing => exact ⟨_, T.nothing, fun H v l us ks Q E hd dk hl hk len q => ⟨v, .ref l, rfl, fun v' r => q v' H (Same.refl H) r⟩⟩
  | num n => exact ⟨_, T.num, kind_num (fun _ => rfl) (Nat.zero_le _)⟩
  | name z => exact ⟨_, T.name, kind_num (fun _ => rfl) (Nat.zero_le _)⟩
  | next a => exact ⟨_, T.next, kind_num (fun _ => rfl) (show 1 ≤ 3 by decide)⟩
  | plus a b => exact ⟨_, T.plus, kind_num (fun _ => rfl) (show 2 ≤ 3 by decide)⟩
  | times a b => exact ⟨_, T.times, kind_num (fun _ => rfl) (show 2 ≤ 3 by decide)⟩
  | known z k =>
    refine ⟨_, T.known, fun H v l us ks Q E hd dk hl hk len q => ?_⟩
    obtain ⟨pp, xs, rfl, hs, hx⟩ := pg_view hd
    cases hx with
    | cons g1 hx =>
    cases g1
    cases hx with
    | cons g2 hx =>
    cases hx
    exact ⟨pp, .ref l, _, _, _, k, rfl, sqT_of_tups hs, ⟨g2, dk k List.mem_cons_self⟩, fun v' r => q v' H (Same.refl H) r⟩
  | lets z k a =>
    refine ⟨_, T.lets, fun H v l us ks Q E hd dk hl hk len q => ?_⟩
    obtain ⟨b, u, rfl, rfl, hb⟩ := ks1 hk len
    obtain ⟨pp, xs, rfl, hs, hx⟩ := pg_view hd
    cases hx with
    | cons g1 hx =>
    cases g1
    cases hx with
    | cons g2 hx =>
    cases hx with
    | cons g3 hx =>
    cases hx
    exact ⟨pp, l, _, _, _, _, u, k, b, rfl, sqT_of_tups hs, ⟨g2, dk k List.mem_cons_self⟩, hl, hb, q⟩
  | for_ z a =>
    refine ⟨_, T.for_, fun H v l us ks Q E hd dk hl hk len q => ?_⟩
    obtain ⟨b, u, rfl, rfl, hb⟩ := ks1 hk len
    exact ⟨l, v, u, b, rfl, hl, hb, q⟩
  | call a b =>
    refine ⟨_, T.call, fun H v l us ks Q E hd dk hl hk len q => ?_⟩
    obtain ⟨a, b, u, x, rfl, rfl, ha, hb⟩ := ks2 hk len
    exact ⟨l, v, u, x, a, b, rfl, hl, ha, hb, q⟩
  | pair a b =>
    refine ⟨_, T.pair, fun H v l us ks Q E hd dk hl hk len q => ?_⟩
    obtain ⟨a, b, u, x, rfl, rfl, ha, hb⟩ := ks2 hk len
    exact ⟨l, v, u, x, a, b, rfl, hl, ha, hb, q⟩
  | first a =>
    refine ⟨_, T.first, fun H v l us ks Q E hd dk hl hk len q => ?_⟩
    obtain ⟨b, u, rfl, rfl, hb⟩ := ks1 hk len
    exact ⟨l, v, u, b, rfl, hl, hb, fun v' r => q v' H (Same.refl H) r⟩
  | second a =>
    refine ⟨_, T.second, fun H v l us ks Q E hd dk hl hk len q => ?_⟩
    obtain ⟨b, u, rfl, rfl, hb⟩ := ks1 hk len
    exact ⟨l, v, u, b, rfl, hl, hb, fun v' r => q v' H (Same.refl H) r⟩
  | parts a x u b =>
    refine ⟨_, T.parts, fun H v l us ks Q E hd dk hl hk len q => ?_⟩
    obtain ⟨a, b, u, x, rfl, rfl, ha, hb⟩ := ks2 hk len
    exact ⟨l, v, u, x, a, b, rfl, hl, ha, hb, q⟩
  | this a k =>
    refine ⟨_, T.this, fun H v l us ks Q E hd dk hl hk len q => ?_⟩
    obtain ⟨b, u, rfl, rfl, hb⟩ := ks1 hk len
    obtain ⟨pp, xs, rfl, hs, hx⟩ := pg_view hd
    cases hx with
    | cons g1 hx =>
    cases hx with
    | cons g2 hx =>
    cases hx
    exact ⟨pp, l, _, _, _, u, k, b, rfl, sqT_of_tups hs, ⟨g2, dk k List.mem_cons_self⟩, hl, hb, q⟩
  | that k a =>
    refine ⟨_, T.that, fun H v l us ks Q E hd dk hl hk len q => ?_⟩
    obtain ⟨b, u, rfl, rfl, hb⟩ := ks1 hk len
    obtain ⟨pp, xs, rfl, hs, hx⟩ := pg_view hd
    cases hx with
    | cons g1 hx =>
    cases hx with
    | cons g2 hx =>
    cases hx
    exact ⟨pp, l, _, _, _, u, k, b, rfl, sqT_of_tups hs, ⟨g1, dk k List.mem_cons_self⟩, hl, hb, q⟩
  | cases a u b v c =>
    refine ⟨_, T.cases, fun H v l us ks Q E hd dk hl hk len q => ?_⟩
    obtain ⟨a, b, c, u, x, y, rfl, rfl, ha, hb, hc⟩ := ks3 hk len
    exact ⟨l, v, u, x, y, a, b, c, rfl, hl, ha, hb, hc, fun v' r => q v' H (Same.refl H) r⟩
  | climb a x u b c =>
    refine ⟨_, T.climb, fun H v l us ks Q E hd dk hl hk len q => ?_⟩
    obtain ⟨a, b, c, u, x, y, rfl, rfl, ha, hb, hc⟩ := ks3 hk len
    exact ⟨l, v, u, x, y, a, b, c, rfl, hl, ha, hb, hc, fun v' r => q v' H (Same.refl H) r⟩
/-- what it closes -/
theorem cl_by {H : Hp} {p : Pg} {q : Addr} {xs us : List V} {ks : List Kd} {k : Kd} (hx : DtAll K H xs p.ps) (dk : ∀ k ∈ p.kds, k.deep ≤ 110) (hk : All2 (KAt K H) us ks) (len : ks.length = p.kids.length) (e : kindP p ks = some k) : ClOk K H p.word xs ks (closP p ks) := by
  have oth : ∀ (wd : Str), wd ≠ "lets" → wd ≠ "for" → wd ≠ "parts" → wd ≠ "cases" → wd ≠ "climb" → ClOk K H wd xs ks (List.replicate ks.length noCl) := fun wd n1 n2 n3 n4 n5 => .other n1 n2 n3 n4 n5
  cases p with
  | nothing => exact oth "nothing" (by decide +kernel) (by decide +kernel) (by decide +kernel) (by decide +kernel) (by decide +kernel)
  | num n => exact oth "num" (by decide +kernel) (by decide +kernel) (by decide +kernel) (by decide +kernel) (by decide +kernel)
  | name n => exact oth "name" (by decide +kernel) (by decide +kernel) (by decide +kernel) (by decide +kernel) (by decide +kernel)
  | next a => exact oth "next" (by decide +kernel) (by decide +kernel) (by decide +kernel) (by decide +kernel) (by decide +kernel)
  | plus a b => exact oth "plus" (by decide +kernel) (by decide +kernel) (by decide +kernel) (by decide +kernel) (by decide +kernel)
  | times a b => exact oth "times" (by decide +kernel) (by decide +kernel) (by decide +kernel) (by decide +kernel) (by decide +kernel)
  | known a b => exact oth "known" (by decide +kernel) (by decide +kernel) (by decide +kernel) (by decide +kernel) (by decide +kernel)
  | call a b => exact oth "call" (by decide +kernel) (by decide +kernel) (by decide +kernel) (by decide +kernel) (by decide +kernel)
  | pair a b => exact oth "pair" (by decide +kernel) (by decide +kernel) (by decide +kernel) (by decide +kernel) (by decide +kernel)
  | first a => exact oth "first" (by decide +kernel) (by decide +kernel) (by decide +kernel) (by decide +kernel) (by decide +kernel)
  | second a => exact oth "second" (by decide +kernel) (by decide +kernel) (by decide +kernel) (by decide +kernel) (by decide +kernel)
  | this a b => exact oth "this" (by decide +kernel) (by decide +kernel) (by decide +kernel) (by decide +kernel) (by decide +kernel)
  | that a b => exact oth "that" (by decide +kernel) (by decide +kernel) (by decide +kernel) (by decide +kernel) (by decide +kernel)
  | lets z k1 a =>
    cases hx with
    | cons g1 hx =>
    cases g1
    cases hx with
    | cons g2 hx =>
    cases hx with
    | cons g3 hx =>
    cases hx
    exact .lets ⟨g2, dk k1 List.mem_cons_self⟩
  | for_ z a =>
    cases hx with
    | cons g1 hx =>
    cases g1
    cases hx with
    | cons g2 hx =>
    cases hx
    exact .for_
  | parts a x u b =>
    obtain ⟨a, b, u, x, rfl, rfl, ha, hb⟩ := ks2 hk len
    cases a with
    | pair c d =>
      cases hx with
      | cons g1 hx =>
      cases hx with
      | cons g2 hx =>
      cases g2
      cases hx with
      | cons g3 hx =>
      cases g3
      cases hx with
      | cons g4 hx =>
      cases hx
      exact .parts
    | _ => cases e
  | cases a u b v c =>
    obtain ⟨a, b, c, u, x, y, rfl, rfl, ha, hb, hc⟩ := ks3 hk len
    cases a with
    | either c d =>
      cases hx with
      | cons g1 hx =>
      cases hx with
      | cons g2 hx =>
      cases g2
      cases hx with
      | cons g3 hx =>
      cases hx with
      | cons g4 hx =>
      cases g4
      cases hx with
      | cons g5 hx =>
      cases hx
      exact .cases
    | _ => cases e
  | climb a x u b c =>
    obtain ⟨a, b, c, u, x, y, rfl, rfl, ha, hb, hc⟩ := ks3 hk len
    cases hx with
    | cons g1 hx =>
    cases hx with
    | cons g2 hx =>
    cases g2
    cases hx with
    | cons g3 hx =>
    cases g3
    cases hx with
    | cons g4 hx =>
    cases hx with
    | cons g5 hx =>
    cases hx
    exact .climb
end
/-! ### for k in d -/
theorem for_keys {d : Addr} {o : Obj} {kvs : List (Key × V)} {g : TG} {tb : TS} {D : Ends} {σ : L2.St} {H : Hp} (Pv : Nat → L2.St → Hp → Prop) (h0 : Pv 0 σ H) (hq : ∀ i σ H, Pv i σ H → H d = some (.frz o (.dK kvs)))
    (hs : ∀ (i : Nat) (k : Key) (v : V) (σ : L2.St) (H : Hp), kvs[i]? = some (k, v) → Pv i σ H → g (kV k) σ H fun σ2 H2 => tb { D with nx := Pv (i + 1), ct := Pv (i + 1), bk := D.nx } σ2 H2) (hd : ∀ σ H, Pv kvs.length σ H → D.nx σ H) :
    ∃ W : Nat → Nat → L2.St → Hp → Prop, (∃ m, W 0 m σ H) ∧ ∀ i m σ H, W i m σ H →
      ((Itk d o kvs).stop i H ∧ D.nx σ H) ∨ ((Itk d o kvs).go i H ∧ ∃ N : L2.St → Hp → Prop, (∀ σ' H', N σ' H' → ∃ m', m' < m ∧ W (i + 1) m' σ' H') ∧ ∀ v H', (Itk d o kvs).yld i H v H' → g v σ H' fun σ2 H2 => tb { D with nx := N, ct := N, bk := D.nx } σ2 H2) := by
  refine ⟨fun i m σ H => m = kvs.length - i ∧ i ≤ kvs.length ∧ Pv i σ H, ⟨kvs.length, by simp, Nat.zero_le _, h0⟩, ?_⟩
  rintro i m σ H ⟨rfl, hi, p⟩
  have q := hq i σ H p
  by_cases lt : i < kvs.length
  · refine .inr ⟨⟨q, lt⟩, Pv (i + 1), fun σ' H' p' => ⟨kvs.length - (i + 1), by omega, rfl, lt, p'⟩, fun x H' y => ?_⟩
    obtain ⟨rfl, k, v, e, rfl⟩ := y
    exact hs i k v σ H' e p
  · exact .inl ⟨⟨q, by omega⟩, hd σ H (by rw [show kvs.length = i by omega]; exact p)⟩
end Kf
set_option Elab.async false
set_option linter.all false
set_option maxRecDepth 100000
set_option maxHeartbeats 8000000
set_option pp.maxSteps 500
/-! A piece judged. -/
namespace Kf
open PySem PySem.Spec PyProof.Rows L2 Sx RZ

/-! ### NoProgram -/
abbrev sIniP : Stmt := inClass (top 3) 0
theorem scIniP : FnScope ["self", "place"] ["self", "place"] (defScope sIniP) := ⟨rfl, rfl, rfl, by decide +kernel, rfl, by decide +kernel, by decide +kernel⟩
def spIniP (C : Addr) : Sp := fun vs H Q _ => ∃ (a : Addr) (x : V), vs = [.ref a, x] ∧ H a = some (exo a C none) ∧ ∀ dx, H dx = none → dx ≠ a → Q .non (upd (upd H dx (exd dx [(Str.ofString "place", x)])) a (exo a C (some dx)))
structure NoPr (K : PySem.W.Frag) (mg : Str → Option Value) (C fI : Addr) (dI : FuncData) : Prop where
  ox : OexC K C
  at_ : mg "NoProgram" = some (.ref C)
  noN : PySem.W.findIn K (.ref C) "place" = some none
  ini : PySem.W.findIn K (.ref C) "__init__" = some (some (.ref fI))
  tyI : PySem.W.typeIn K (.ref fI) = some (.type "function")
  F : Fun K "__init__" "NoProgram.__init__" sIniP fI dI
  b : L2.Binds K dI ["self", "place"] []
section
variable {P : Program} {w : World} {K : PySem.W.Frag} {mg : Str → Option Value} {base : Heap}
theorem ok_iniP {C fI : Addr} {dI : FuncData} (N : NoPr K mg C fI dI) : FnOk P w K mg base CX0 1 fI dI ["self", "place"] (spIniP C) := by
  refine N.F.ok scIniP (fun vs H Q E h => ?_) (fun cdv A outer s H vs Q E hr h => ?_)
  · obtain ⟨a, z, rfl, _⟩ := h
    rfl
  obtain ⟨a, z, rfl, ha, q⟩ := h
  refine ⟨_, pss_one (ps_ost (pv 0) (pv 1)), ?_⟩
  exact ⟨_, rfl, _, rfl, a, C, rfl, N.ox, N.noN, .inl ⟨ha, fun dx n ne => q dx n ne⟩⟩
end
theorem mk_place {X : Hp} {NP : Addr} {pl : V} {Q : XK} (q : ∀ (dd : Addr) (H' : Hp), Same X H' → H' dd = some (.xd [(Str.ofString "place", pl)]) → Q (.ref NP) (some dd) H') :
    [pl].length ≤ 1000 ∧ ∀ a, X a = none → spIniP NP (.ref a :: ([pl] ++ [])) (upd X a (exo a NP none)) (fun v H2 => v = .non ∧ ∃ (d : Addr) (fs : List (Str × V)), H2 a = some (exo a NP (some d)) ∧ H2 d = some (exd d fs) ∧ X d = none ∧ Q (.ref NP) (some d) (upd (L2.del H2 a) d (.xd fs))) (fun _ _ _ => False) := by
  refine ⟨(by show 1 ≤ 1000; decide), fun a na => ?_⟩
  refine ⟨a, pl, rfl, upd_same, fun ddx ndd ne => ?_⟩
  have nx : X ddx = none := by
    rw [upd_ne ne] at ndd
    exact ndd
  refine ⟨rfl, ddx, [(Str.ofString "place", pl)], upd_same, by rw [upd_ne ne, upd_same], nx, ?_⟩
  refine q ddx _ (fun b u e1 => ?_) upd_same
  have c1 : b ≠ ddx := ne_of_none e1 nx
  have c2 : b ≠ a := ne_of_none e1 na
  rw [upd_ne c1, L2.del_ne c2, upd_ne c2, upd_ne c1, upd_ne c2]
  exact e1
/-! ### names, labels with kinds in dicts -/
def nkv (l : List Str) : List (Key × V) := l.map fun z => (Sum.inr z, V.bl true)
def KvAt (K : PySem.W.Frag) (H : Hp) (q : Str × Kd) (e : Key × V) : Prop := e.1 = Sum.inr q.1 ∧ KAt K H e.2 q.2
theorem KvAt.keep {K : PySem.W.Frag} {H H' : Hp} (t : Tups H H') (q : Str × Kd) (e : Key × V) (h : KvAt K H q e) : KvAt K H' q e := ⟨h.1, h.2.keep t⟩
/-- what is judged, at v; its dicts are among D -/
def JdAt (K : PySem.W.Frag) (D : Addr → Prop) (H : Hp) (j : Jd) (v : V) : Prop := ∃ (q n m : Addr) (kv : V) (ms : List (Key × V)), v = .ref q ∧ H q = some (.tup [kv, .ref n, .ref m]) ∧ KAt K H kv j.kind ∧ H n = some (.dK (nkv j.names)) ∧ H m = some (.dK ms) ∧ All2 (KvAt K H) j.knowns ms ∧ D n ∧ D m ∧ j.names.length ≤ 12000 ∧ j.knowns.length ≤ 12000
theorem putK_nkv (l : List Str) (z : Str) : putK (nkv l) (Sum.inr z : Key) (.bl true) = nkv (if z ∈ l then l else l ++ [z]) := by
  unfold putK
  have e : ((nkv l).any fun kv => decide (kv.1 = (Sum.inr z : Key))) = decide (z ∈ l) := by
    induction l with
    | nil => simp [nkv]
    | cons y r ih =>
      have ih' : ((nkv r).any fun kv => decide (kv.1 = (Sum.inr z : Key))) = decide (z ∈ r) := ih
      show (decide ((Sum.inr y : Key) = Sum.inr z) || ((nkv r).any fun kv => decide (kv.1 = (Sum.inr z : Key)))) = _
      rw [ih']
      by_cases c : y = z
      · subst c
        simp
      · have c2 : ¬ z = y := fun h => c h.symm
        simp [c, c2]
  rw [e]
  by_cases c : z ∈ l
  · rw [if_pos (decide_eq_true c), if_pos c]
    unfold nkv
    rw [List.map_map]
    refine List.map_congr_left fun y _ => ?_
    show (if (Sum.inr y : Key) = Sum.inr z then ((Sum.inr y : Key), V.bl true) else (Sum.inr y, V.bl true)) = _
    split <;> rfl
  · rw [if_neg (by rw [decide_eq_false c]; exact Bool.false_ne_true), if_neg c]
    unfold nkv
    rw [List.map_append]
    rfl
theorem valV_kv {K : PySem.W.Frag} {H : Hp} {z : Str} : ∀ {ks : List (Str × Kd)} {ms : List (Key × V)}, All2 (KvAt K H) ks ms → (ks.lookup z = none ∧ valV ms (Sum.inr z : Key) = none) ∨ ∃ k v, ks.lookup z = some k ∧ valV ms (Sum.inr z : Key) = some v ∧ KAt K H v k
  | _, _, .nil => .inl ⟨rfl, rfl⟩
  | _, _, .cons (a := q) (b := e) r t => by
    obtain ⟨y, k⟩ := q
    obtain ⟨e1, v⟩ := e
    obtain ⟨h1, h2⟩ := r
    have h1 : e1 = Sum.inr y := h1
    subst h1
    rw [List.lookup_cons]
    by_cases c : y = z
    · subst c
      rw [show (y == y) = true from beq_self_eq_true y]
      exact .inr ⟨k, v, rfl, valV_pos rfl, h2⟩
    · rw [show (z == y) = false from beq_eq_false_iff_ne.mpr fun h => c h.symm]
      have n : ¬ ((Sum.inr y : Key), v).1 = Sum.inr z := fun h => c (by injection h)
      rw [valV_neg n]
      exact valV_kv t
theorem putK_kv {K : PySem.W.Frag} {H : Hp} {z : Str} {k : Kd} {v : V} (hv : KAt K H v k) {ks : List (Str × Kd)} {ms : List (Key × V)} (h : All2 (KvAt K H) ks ms) (hn : ks.lookup z = none) : All2 (KvAt K H) (ks ++ [(z, k)]) (putK ms (Sum.inr z : Key) v) := by
  have e : (ms.any fun kv => decide (kv.1 = (Sum.inr z : Key))) = false := by
    rw [valV_any]
    rcases valV_kv (z := z) h with ⟨_, e⟩ | ⟨_, _, e, _⟩
    · rw [e]; rfl
    · rw [hn] at e; cases e
  unfold putK
  rw [if_neg (by rw [e]; exact Bool.false_ne_true)]
  exact h.app (.one ⟨rfl, hv⟩)
theorem map_kv {K : PySem.W.Frag} {H : Hp} {z : Str} {k : Kd} {v : V} (hv : KAt K H v k) : ∀ {ks : List (Str × Kd)} {ms : List (Key × V)}, All2 (KvAt K H) ks ms → (∀ q ∈ ks, q.1 = z → q.2 = k) → All2 (KvAt K H) ks (ms.map fun kv => if kv.1 = (Sum.inr z : Key) then (kv.1, v) else kv)
  | _, _, .nil, _ => .nil
  | _, _, .cons (a := q) (b := e) r t, hq => by
    refine .cons ?_ (map_kv hv t fun q m => hq q (List.mem_cons_of_mem _ m))
    show KvAt K H q (if e.1 = (Sum.inr z : Key) then (e.1, v) else e)
    by_cases c : e.1 = (Sum.inr z : Key)
    · have e2 : q.1 = z := by
        have := r.1
        rw [c] at this
        injection this with e
        exact e.symm
      rw [if_pos c]
      refine ⟨r.1, ?_⟩
      rw [hq q List.mem_cons_self e2]
      exact hv
    · rw [if_neg c]
      exact r
theorem fn_of {l : List (Str × Kd)} (nd : (l.map (·.1)).Nodup) {z : Str} {k k' : Kd} (h : (z, k) ∈ l) (h' : (z, k') ∈ l) : k = k' := by
  induction l with
  | nil => cases h
  | cons q r ih =>
    obtain ⟨n1, n2⟩ := List.nodup_cons.mp nd
    rcases List.mem_cons.mp h with e1 | h1
    · rcases List.mem_cons.mp h' with e2 | h2
      · rw [← e1] at e2
        cases e2
        rfl
      · refine (n1 (List.mem_map.mpr ⟨_, h2, ?_⟩)).elim
        rw [← e1]
    · rcases List.mem_cons.mp h' with e2 | h2
      · refine (n1 (List.mem_map.mpr ⟨_, h1, ?_⟩)).elim
        rw [← e2]
      · exact ih n2 h1 h2
theorem put_same {K : PySem.W.Frag} {H : Hp} {z : Str} {k : Kd} {v : V} (hv : KAt K H v k) {ks : List (Str × Kd)} {ms : List (Key × V)} (h : All2 (KvAt K H) ks ms) (hn : ks.lookup z = some k) (nd : (ks.map (·.1)).Nodup) : All2 (KvAt K H) ks (putK ms (Sum.inr z : Key) v) := by
  have e : (ms.any fun kv => decide (kv.1 = (Sum.inr z : Key))) = true := by
    rw [valV_any]
    rcases valV_kv (z := z) h with ⟨e, _⟩ | ⟨_, _, _, e, _⟩
    · rw [hn] at e; cases e
    · rw [e]; rfl
  unfold putK
  rw [if_pos e]
  refine map_kv hv h fun q m e1 => ?_
  have m2 := lookup_mem hn
  exact fn_of nd (by rw [← e1]; exact m) m2
theorem stepK {label : Option Str} {due : Option Kd} (acc : List (Str × Kd)) (z : Str) (k : Kd) : mrgK label due acc [(z, k)] = (if label = some z then (if due = some k then some acc else none) else
    match acc.lookup z with
    | none => some (acc ++ [(z, k)])
    | some k' => if k' = k then some acc else none) := rfl
theorem mrgK_app (label : Option Str) (due : Option Kd) : ∀ (l m acc : List (Str × Kd)), mrgK label due acc (l ++ m) = (mrgK label due acc l).bind fun r => mrgK label due r m
  | [], m, acc => rfl
  | (z, k) :: l, m, acc => by
    show (if label = some z then (if due = some k then mrgK label due acc (l ++ m) else none) else
      match acc.lookup z with
      | none => mrgK label due (acc ++ [(z, k)]) (l ++ m)
      | some k' => if k' = k then mrgK label due acc (l ++ m) else none) = Option.bind (if label = some z then (if due = some k then mrgK label due acc l else none) else
      match acc.lookup z with
      | none => mrgK label due (acc ++ [(z, k)]) l
      | some k' => if k' = k then mrgK label due acc l else none) _
    by_cases c : label = some z
    · rw [if_pos c, if_pos c]
      by_cases d : due = some k
      · rw [if_pos d, if_pos d]
        exact mrgK_app label due l m acc
      · rw [if_neg d, if_neg d]
        rfl
    · rw [if_neg c, if_neg c]
      cases hl : acc.lookup z with
      | none => exact mrgK_app label due l m _
      | some k' =>
        dsimp only
        by_cases d : k' = k
        · rw [if_pos d, if_pos d]
          exact mrgK_app label due l m acc
        · rw [if_neg d, if_neg d]
          rfl
theorem mrgK_next {label : Option Str} {due : Option Kd} {l acc r : List (Str × Kd)} {i : Nat} {q : Str × Kd} (h : mrgK label due acc (l.take i) = some r) (e : l[i]? = some q) : mrgK label due acc (l.take (i + 1)) = mrgK label due r [q] := by
  rw [List.take_add_one, e, mrgK_app, h]
  rfl
theorem mrgK_stop {label : Option Str} {due : Option Kd} {l acc r : List (Str × Kd)} {i : Nat} {q : Str × Kd} (h : mrgK label due acc (l.take i) = some r) (e : l[i]? = some q) (n : mrgK label due r [q] = none) : mrgK label due acc l = none := by
  have e2 : l = l.take (i + 1) ++ l.drop (i + 1) := (List.take_append_drop _ _).symm
  rw [e2, mrgK_app, mrgK_next h e, n]
  rfl
theorem mrgN_app (skip : Option Str) : ∀ (l m acc : List Str), mrgN skip acc (l ++ m) = mrgN skip (mrgN skip acc l) m
  | [], m, acc => rfl
  | z :: l, m, acc => mrgN_app skip l m _
theorem mrgN_next {skip : Option Str} {l acc : List Str} {i : Nat} {z : Str} (e : l[i]? = some z) : mrgN skip acc (l.take (i + 1)) = mrgN skip (mrgN skip acc (l.take i)) [z] := by
  rw [List.take_add_one, e, mrgN_app]
  rfl
theorem upd_upd {H : Hp} {a : Addr} {x y : HO} : upd (upd H a x) a y = upd H a y := by
  funext b
  by_cases c : b = a
  · rw [c, upd_same, upd_same]
  · rw [upd_ne c, upd_ne c, upd_ne c]
theorem upd_own {H : Hp} {a : Addr} {x : HO} (h : H a = some x) : upd H a x = H := by
  funext b
  by_cases c : b = a
  · rw [c, upd_same, h]
  · rw [upd_ne c]
theorem upd_swap {H : Hp} {a b : Addr} {x y : HO} (n : a ≠ b) : upd (upd H a x) b y = upd (upd H b y) a x := by
  funext c
  by_cases c1 : c = b
  · rw [c1, upd_same, upd_ne n.symm, upd_same]
  · rw [upd_ne c1]
    by_cases c2 : c = a
    · rw [c2, upd_same, upd_same]
    · rw [upd_ne c2, upd_ne c2, upd_ne c1]
theorem tups_dk {H : Hp} {a : Addr} {ms : List (Key × V)} {o : HO} (h : H a = some (.dK ms)) : Tups H (upd H a o) := tups_put fun xs e => by
  rw [h] at e
  cases e
end Kf
set_option Elab.async false
set_option linter.all false
set_option maxRecDepth 100000
set_option maxHeartbeats 8000000
set_option pp.maxSteps 500
/-! A piece judged: the reading. -/
namespace Kf
open PySem PySem.Spec PyProof.Rows L2 Sx RZ
abbrev sJP : Stmt := top 47
abbrev jPN : List Str := ["piece", "place", "inner", "kind", "_", "kinds", "tell", "names", "knowns", "name", "label", "due", "inner_names", "inner_knowns", "word", "fits"]
theorem scJP : FnScope jPN ["piece", "place", "inner"] (defScope sJP) := ⟨rfl, rfl, rfl, by decide +kernel, rfl, by decide +kernel, by decide +kernel⟩
theorem is_name {p : Pg} (h : p.word = "name") : ∃ z, p = .name z := by
  cases p with
  | name z => exact ⟨z, rfl⟩
  | nothing => exact absurd h (show ¬ ("nothing" : Str) = "name" by decide +kernel)
  | num _ => exact absurd h (show ¬ ("num" : Str) = "name" by decide +kernel)
  | next _ => exact absurd h (show ¬ ("next" : Str) = "name" by decide +kernel)
  | plus _ _ => exact absurd h (show ¬ ("plus" : Str) = "name" by decide +kernel)
  | times _ _ => exact absurd h (show ¬ ("times" : Str) = "name" by decide +kernel)
  | known _ _ => exact absurd h (show ¬ ("known" : Str) = "name" by decide +kernel)
  | lets _ _ _ => exact absurd h (show ¬ ("lets" : Str) = "name" by decide +kernel)
  | for_ _ _ => exact absurd h (show ¬ ("for" : Str) = "name" by decide +kernel)
  | call _ _ => exact absurd h (show ¬ ("call" : Str) = "name" by decide +kernel)
  | pair _ _ => exact absurd h (show ¬ ("pair" : Str) = "name" by decide +kernel)
  | first _ => exact absurd h (show ¬ ("first" : Str) = "name" by decide +kernel)
  | second _ => exact absurd h (show ¬ ("second" : Str) = "name" by decide +kernel)
  | parts _ _ _ _ => exact absurd h (show ¬ ("parts" : Str) = "name" by decide +kernel)
  | this _ _ => exact absurd h (show ¬ ("this" : Str) = "name" by decide +kernel)
  | that _ _ => exact absurd h (show ¬ ("that" : Str) = "name" by decide +kernel)
  | cases _ _ _ _ _ => exact absurd h (show ¬ ("cases" : Str) = "name" by decide +kernel)
  | climb _ _ _ _ _ => exact absurd h (show ¬ ("climb" : Str) = "name" by decide +kernel)
theorem is_known {p : Pg} (h : p.word = "known") : ∃ z k, p = .known z k := by
  cases p with
  | known z k => exact ⟨z, k, rfl⟩
  | nothing => exact absurd h (show ¬ ("nothing" : Str) = "known" by decide +kernel)
  | num _ => exact absurd h (show ¬ ("num" : Str) = "known" by decide +kernel)
  | name _ => exact absurd h (show ¬ ("name" : Str) = "known" by decide +kernel)
  | next _ => exact absurd h (show ¬ ("next" : Str) = "known" by decide +kernel)
  | plus _ _ => exact absurd h (show ¬ ("plus" : Str) = "known" by decide +kernel)
  | times _ _ => exact absurd h (show ¬ ("times" : Str) = "known" by decide +kernel)
  | lets _ _ _ => exact absurd h (show ¬ ("lets" : Str) = "known" by decide +kernel)
  | for_ _ _ => exact absurd h (show ¬ ("for" : Str) = "known" by decide +kernel)
  | call _ _ => exact absurd h (show ¬ ("call" : Str) = "known" by decide +kernel)
  | pair _ _ => exact absurd h (show ¬ ("pair" : Str) = "known" by decide +kernel)
  | first _ => exact absurd h (show ¬ ("first" : Str) = "known" by decide +kernel)
  | second _ => exact absurd h (show ¬ ("second" : Str) = "known" by decide +kernel)
  | parts _ _ _ _ => exact absurd h (show ¬ ("parts" : Str) = "known" by decide +kernel)
  | this _ _ => exact absurd h (show ¬ ("this" : Str) = "known" by decide +kernel)
  | that _ _ => exact absurd h (show ¬ ("that" : Str) = "known" by decide +kernel)
  | cases _ _ _ _ _ => exact absurd h (show ¬ ("cases" : Str) = "known" by decide +kernel)
  | climb _ _ _ _ _ => exact absurd h (show ¬ ("climb" : Str) = "known" by decide +kernel)
theorem own_no {p : Pg} (h : p.word ≠ "name") : ownN p = [] := by
  cases p with
  | name z => exact absurd rfl h
  | _ => rfl
theorem ownk_no {p : Pg} (h : p.word ≠ "known") : ownK p = [] := by
  cases p with
  | known z k => exact absurd rfl h
  | _ => rfl
theorem mrgA_next {ns : List Str} {ks : List (Str × Kd)} {cs : List Cl} {js : List Jd} {i : Nat} {c : Cl} {j : Jd} (hc : cs[i]? = some c) (hj : js[i]? = some j) : mrgA ns ks (cs.drop i) (js.drop i) = (match mrgK c.2.1 c.2.2 ks j.knowns with
    | none => none
    | some ks' => mrgA (mrgN c.1 ns j.names) ks' (cs.drop (i + 1)) (js.drop (i + 1))) := by
  obtain ⟨l1, e1⟩ := List.getElem?_eq_some_iff.mp hc
  obtain ⟨l2, e2⟩ := List.getElem?_eq_some_iff.mp hj
  rw [List.drop_eq_getElem_cons l1, List.drop_eq_getElem_cons l2, e1, e2]
  rfl
theorem kd_not {v : V} {k : Kd} {K : PySem.W.Frag} {H : Hp} (h : Dt K H v (kdD k)) : v ≠ .non := fun z => by
  rw [z] at h
  cases k <;> cases h
theorem kd_non (k : Kd) : PyData.eqv (kdD k) .none = false := by cases k <;> rfl
theorem dts1 {K : PySem.W.Frag} {H : Hp} {xs : List V} {z : Str} (h : DtAll K H xs [.str z]) : xs = [.str z] := by
  cases h with
  | cons g1 g2 =>
    cases g1
    cases g2
    rfl
theorem dts2 {K : PySem.W.Frag} {H : Hp} {xs : List V} {z : Str} {d : PyData} (h : DtAll K H xs [.str z, d]) : ∃ x, xs = [.str z, x] ∧ Dt K H x d := by
  cases h with
  | cons g1 g2 =>
    cases g1
    cases g2 with
    | cons g3 g4 =>
      cases g4
      exact ⟨_, rfl, g3⟩
theorem own_nd (p : Pg) : ((ownK p).map (·.1)).Nodup := by
  cases p with
  | known z k => exact List.pairwise_singleton _ _
  | _ => exact .nil
theorem own_len (p : Pg) : (ownN p).length ≤ 1 + 12000 * 0 := by cases p <;> simp [ownN]
theorem ownk_len (p : Pg) : (ownK p).length ≤ 1 + 12000 * 0 := by cases p <;> simp [ownK]
theorem oS_ne {o : Option Str} {z : Str} (h : o ≠ some z) : decide (V.str z = oS o) = false := decide_eq_false fun e => by
  cases o with
  | none => cases e
  | some y =>
    have e : V.str z = V.str y := e
    injection e with e
    exact h (by rw [e])
theorem oS_flat (z : Str) : ∀ o : Option Str, scal (V.str z) (oS o) = true
  | none => rfl
  | some _ => rfl
theorem unlock_eq {W : Hp} {d a : Addr} {u f o : HO} (h : W d = some u) (n : d ≠ a) : upd (upd (upd W d f) a o) d u = upd W a o := by
  rw [upd_swap (a := a) (b := d) n.symm, upd_upd, upd_own h]
theorem clP_len {p : Pg} {ks : List Kd} {k : Kd} (h : kindP p ks = some k) (l : ks.length = p.kids.length) : (closP p ks).length = ks.length := by
  have rep : (List.replicate ks.length noCl).length = ks.length := List.length_replicate
  cases p with
  | nothing => exact rep
  | num _ => exact rep
  | name _ => exact rep
  | next _ => exact rep
  | plus _ _ => exact rep
  | times _ _ => exact rep
  | known _ _ => exact rep
  | call _ _ => exact rep
  | pair _ _ => exact rep
  | first _ => exact rep
  | second _ => exact rep
  | this _ _ => exact rep
  | that _ _ => exact rep
  | lets z k1 a => exact l.symm
  | for_ z a => exact l.symm
  | parts a x u b =>
    match ks, l with
    | [.pair _ _, _], _ => rfl
    | [.none, _], _ => cases h
    | [.number, _], _ => cases h
    | [.frm _ _, _], _ => cases h
    | [.either _ _, _], _ => cases h
  | cases a u b v c =>
    match ks, l with
    | [.either _ _, _, _], _ => rfl
    | [.none, _, _], _ => cases h
    | [.number, _, _], _ => cases h
    | [.frm _ _, _, _], _ => cases h
    | [.pair _ _, _, _], _ => cases h
  | climb a x u b c =>
    match ks, l with
    | [_, _, _], _ => rfl
section
variable {P : Program} {w : World} {K : PySem.W.Frag} {mg : Str → Option Value} {base : Heap} {KV : Addr}
def spJP (K : PySem.W.Frag) (D : Addr → Prop) (NP : Addr) : Sp := fun vs H Q E => ∃ (v pl : V) (l : Addr) (us : List V) (p : Pg) (js : List Jd), vs = [v, pl, .ref l] ∧ Dt K H v (pgD p) ∧ (∀ k ∈ p.kds, k.deep ≤ 110) ∧ H l = some (.lst us) ∧ All2 (JdAt K D H) js us ∧ js.length = p.kids.length ∧ (∀ j ∈ js, (j.knowns.map (·.1)).Nodup) ∧
  (∀ b, H b = none → D b) ∧ (∀ j, jp p js = some j → j.kind.deep ≤ 110 ∧ j.names.length ≤ 12000 ∧ j.knowns.length ≤ 12000) ∧
  (∀ j, jp p js = some j → ∀ q H', Same H H' → JdAt K D H' j q → Q q H') ∧
  (jp p js = none → ∀ dd H', (∀ b o, (¬ D b ∨ ∀ kvs, o ≠ .dK kvs) → H b = some o → H' b = some o) → H' dd = some (.xd [(Str.ofString "place", pl)]) → E (.ref NP) (some dd) H')
theorem kids_few (p : Pg) : p.kids.length ≤ 3 := by
  cases p <;> simp [Pg.kids]
theorem ok_jp {f fc fI NP : Addr} {fd dc dI : FuncData} {Dn : Addr → Prop} (F : Fun K "judged_piece" "judged_piece" sJP f fd) (T : Ko P w K mg base KV) (N : NoPr K mg NP fI dI) (zZip : mg "zip" = none)
    (GC : FnOk P w K mg base CX0 1 fc dc ["piece", "kinds"] (spCl K)) (bC : Binds K dc ["piece", "kinds"] []) (kC : PySem.W.keepIn K (.ref fc) = true) (mC : mg "closings" = some (.ref fc)) :
    FnOk P w K mg base (L2.CX P w) 3 f fd ["piece", "place", "inner"] (spJP K Dn NP) := by
  have gI := ok_iniP (P := P) (w := w) (base := base) N
  obtain ⟨es, n, D⟩ := T.dict
  refine F.okX scJP (fun vs H Q E h => ?_) (fun cdv A outer s H vs Q E hr h => ?_)
  · obtain ⟨v, pl, l, us, p, js, rfl, _⟩ := h
    rfl
  obtain ⟨v, pl, l, us, p, js, rfl, hd, dk, hl, hj, len, ndj, hDn, small, q, qe⟩ := h
  have h1 : Room 1 _ := hr.mono (by decide)
  have h2 : Room 2 _ := hr
  have u1 : (A.deeper (envOfC "judged_piece" (defScope sJP) s.heap.objs.size f cdv)).units + 130 < cLine := by
    have := hr.un
    omega
  have u2 : (A.deeper (envOfC "judged_piece" (defScope sJP) s.heap.objs.size f cdv)).units + 1 < cLine := by omega
  refine ⟨_, (pss_cons (ps_setLc (i := 5) (own := [("kind", 3), ("_", 4)]) (g := gTup K 3 (gCons (gName 3) (gCons (gName 4) (gCons (gName 4) gNil)))) (tt := tYes) rfl scJP.nd rfl rfl (sw_true rfl rfl (by rfl) (by decide +kernel)) (pi_list (pv 2)) (blkOk_by (N := jPN) (sc := defScope sJP) (by decide +kernel)) (fun _ _ _ _ _ => pg_tup (by rfl) (pgs_cons (pg_name (i := 3) scJP.nd rfl (Or.inl rfl)) (pgs_cons (pg_name (i := 4) scJP.nd rfl (Or.inl rfl)) (pgs_cons (pg_name (i := 4) scJP.nd rfl (Or.inl rfl)) pgs_nil)))) (fun _ _ _ _ _ => pts_nil) (fun _ _ _ _ _ => (pv 3)))
    (pss_cons (ps_set (i := 6) scJP.nd rfl (.inl rfl) (pe_ix ix_kdict (pe_glob (v := .ref KV) (by rfl) T.mK rfl) (pe_ix ix_tup (pv 0) pe_int (fun _ _ => rfl)) (fun _ _ => rfl)))
    (pss_cons (ps_set (i := 3) scJP.nd rfl (.inl rfl) (pe_callH (i := 6) (k := 2) h2 rfl (.inl rfl) (pa_cons (pv 0) (pa_cons (pv 5) pa_nil))))
    (pss_cons (ps_if (pt_cmpR op_isN (pv 3) pe_non (nomark _)) (pss_one (ps_raise rfl (takes_of rfl rfl rfl rfl) (pmk_oex N.ox N.ini N.tyI gI h2 N.b .nil pass0 (by rfl) N.at_ (pa_cons (pv 1) pa_nil)))) pss_nil)
    (pss_cons (ps_set (i := 7) scJP.nd rfl (.inl rfl) (pe_ifExp (pt_cmpR op_eq (pe_ix ix_tup (pv 0) pe_int (fun _ _ => rfl)) pe_str (nomark _)) (pe_disp (pps_cons (pe_ix ix_tup (pv 0) pe_int (fun _ _ => rfl)) pe_bl pps_nil) (by rfl) (by rfl) (fun z => by cases z) (by decide)) pe_dnewK))
    (pss_cons (ps_set (i := 8) scJP.nd rfl (.inl rfl) (pe_ifExp (pt_cmpR op_eq (pe_ix ix_tup (pv 0) pe_int (fun _ _ => rfl)) pe_str (nomark _)) (pe_disp (pps_cons (pe_ix ix_tup (pv 0) pe_int (fun _ _ => rfl)) (pe_ix ix_tup (pv 0) pe_int (fun _ _ => rfl)) pps_nil) (by rfl) (by rfl) (fun z => by cases z) (by decide)) pe_dnewK))
    (pss_cons (ps_for (passes_of rfl) rfl (pi_zip (by rfl) zZip (pa_cons (pe_call GC h1 (by rfl) mC kC bC .nil pass0 (pa_cons (pv 0) (pa_cons (pv 5) pa_nil))) (pa_cons (pv 2) pa_nil))) (pg_tup (by rfl) (pgs_cons (pg_tup (by rfl) (pgs_cons (pg_name (i := 9) scJP.nd rfl (.inl rfl)) (pgs_cons (pg_name (i := 10) scJP.nd rfl (.inl rfl)) (pgs_cons (pg_name (i := 11) scJP.nd rfl (.inl rfl)) pgs_nil)))) (pgs_cons (pg_tup (by rfl) (pgs_cons (pg_name (i := 4) scJP.nd rfl (.inl rfl)) (pgs_cons (pg_name (i := 12) scJP.nd rfl (.inl rfl)) (pgs_cons (pg_name (i := 13) scJP.nd rfl (.inl rfl)) pgs_nil)))) pgs_nil))) (pss_cons (ps_lock (ps_for (passes_of rfl) rfl (pi_keys (pv 12)) (pg_name (i := 14) scJP.nd rfl (.inl rfl)) (pss_one (ps_if (pt_cmpR op_ne (pv 14) (pv 9) (nomark _)) (pss_one (ps_dput u2 (pv 7) (pv 14) pe_bl rfl)) pss_nil))))
    (pss_one (ps_lock (ps_for (passes_of rfl) rfl (pi_keys (pv 13)) (pg_name (i := 14) scJP.nd rfl (.inl rfl)) (pss_cons (ps_if (pt_cmpR op_eq (pv 14) (pv 10) (nomark _)) (pss_one (ps_set (i := 15) scJP.nd rfl (.inl rfl) (pe_cmpR (op_eqW u1) (pe_dget u2 (pv 13) (pv 14) (fun _ _ => rfl)) (pv 11) (nomark _)))) (pss_cons (ps_set (i := 15) scJP.nd rfl (.inl rfl) (pe_or (pe_cmp (pc_dnotin u2 (pv 14) (pv 8)) rfl) (pe_one (pe_cmpR (op_eqW u1) (pe_dget u2 (pv 8) (pv 14) (fun _ _ => rfl)) (pe_dget u2 (pv 13) (pv 14) (fun _ _ => rfl)) (nomark _)))))
    (pss_one (ps_dput u2 (pv 8) (pv 14) (pe_dget u2 (pv 13) (pv 14) (fun _ _ => rfl)) rfl))))
    (pss_one (ps_if (pt_not (pt_val (pv 15))) (pss_one (ps_raise rfl (takes_of rfl rfl rfl rfl) (pmk_oex N.ox N.ini N.tyI gI h2 N.b .nil pass0 (by rfl) N.at_ (pa_cons (pv 1) pa_nil)))) pss_nil))))))))
    (pss_one (ps_ret (pe_tup (pa_cons (pv 3) (pa_cons (pv 7) (pa_cons (pv 8) pa_nil))))))))))))), ?_⟩
  have few := kids_few p
  obtain ⟨pp, xs, rfl, hs, hx⟩ := pg_view hd
  obtain ⟨spK, ⟨fK, nK, heldK⟩, byK⟩ := kind_by T p
  -- kinds
  refine ⟨_, rfl, l, rfl, ⟨_, .inl (.inl hl)⟩, fun D0 nD => ?_⟩
  have s1 : Same H (upd H D0 (.lst [])) := same_new nD
  refine lc_list (K := K) (a := l) (xs := us) (fun i H' => ∃ acc, H' D0 = some (.lst acc) ∧ Same H H' ∧ All2 (KAt K H') acc ((js.take i).map Jd.kind)) ⟨[], upd_same, s1, .nil⟩ (fun i H' _ ⟨_, _, sm, _⟩ => .inl (.inl (sm _ _ hl))) ?_ ?_
  · rintro i x1 H' hx1 ⟨acc, hD, sm, al⟩
    obtain ⟨j, hji, ja⟩ := all2_get' hj hx1
    obtain ⟨q0, n0, m0, kv, ms, rfl, hq, hk, hn, hm, hms, _⟩ := ja
    have la := al.len
    rw [List.length_map, List.length_take] at la
    refine ⟨q0, _, rfl, .inl (.inl (sm _ _ hq)), rfl, kv, [.ref n0, .ref m0], rfl, .ref n0, [.ref m0], rfl, .ref m0, [], rfl, rfl, rfl, _, rfl, acc, hD, few_of' (by omega), acc ++ [kv], upd_same, same_own sm nD, ?_⟩
    have k6 : Tups H' (upd H' D0 (.lst (acc ++ [kv]))) := tups_lst hD
    rw [List.take_add_one, hji, List.map_append]
    exact (al.mono fun _ _ h => h.keep k6).app (.one ((hk.keep (tups_same sm)).keep k6))
  rintro H1 ⟨ks0, hD1, sm1, al1⟩
  have ej : js.take us.length = js := List.take_of_length_le (Nat.le_of_eq hj.len)
  rw [ej] at al1
  generalize hks : js.map Jd.kind = ks at al1
  have lks : ks.length = p.kids.length := by rw [← hks, List.length_map, len]
  -- tell
  have hs1 := sqT_of_tups (sqT_keep (tups_same sm1) hs)
  refine ⟨_, rfl, pp, _, 0, _, rfl, rfl, hs1, head_at _ _, KV, _, .ref fK, rfl, rfl, ⟨es, n, _, D.at_, D.lit, nK, rfl⟩, ?_⟩
  -- kind
  refine ⟨fK, spK, rfl, heldK, _, rfl, _, rfl, byK H1 (.ref pp) D0 ks0 ks _ _ (hd.keep (tups_same sm1)) dk hD1 al1 lks fun kv H2 s2 rk => ?_⟩
  have sm2 := sm1.trans s2
  have ekj : kindP p (js.map Jd.kind) = kindP p ks := by rw [hks]
  refine ⟨_, rfl, rfl, _, rfl, ?_⟩
  cases hk : kindP p ks with
  | none =>
    rw [hk] at rk ekj
    have rk : kv = .non := rk
    subst rk
    have ejp : jp p js = none := by unfold jp; rw [ekj]
    refine iteT ⟨_, rfl, mk_place fun dd H' sE hdd => qe ejp dd H' (fun b o _ e => sE _ _ (sm2 _ _ e)) hdd⟩
  | some k =>
  rw [hk] at rk ekj
  have rk : Dt K H2 kv (kdD k) := rk
  rw [show decide (kv = V.non) = false from decide_eq_false (kd_not rk)]
  refine iteF ?_
  have hs2 := sqT_keep (tups_same sm2) hs
  have hx2 := hx.keep (tups_same sm2)
  -- names
  apply join2 (C := fun x X => ∃ n0, x = .ref n0 ∧ H2 n0 = none ∧ X = upd H2 n0 (.dK (nkv (ownN p))))
  · intro rest
    refine ⟨_, rfl, pp, _, 0, _, rfl, rfl, sqT_of_tups hs2, head_at _ _, rfl, _, rfl, eqS (fun e => ?_) (fun e => ?_)⟩
    · obtain ⟨z, ep⟩ := is_name e
      have exs := dts1 (z := z) (xs := xs) (K := K) (H := H2) (by rw [show ([.str z] : List PyData) = p.ps by rw [ep]; rfl]; exact hx2)
      have on : ownN p = [z] := by rw [ep]; rfl
      refine fun n0 nn => ?_
      have s3 := same_new (o := .dK []) nn
      refine ⟨_, rfl, pp, _, 1, .str z, rfl, rfl, sqT_up s3 (sqT_of_tups hs2), atI_nat (j := 1) (by rw [exs]; rfl), upd_same, [(Sum.inr z, .bl true)], rfl, (by show 1 ≤ 15; decide), ?_⟩
      rw [upd_upd]
      generalize hv : V.ref n0 = x1
      generalize hX : upd H2 n0 (.dK (mergeK [] [((Sum.inr z : Key), V.bl true)])) = X1
      exact rest x1 X1 ⟨n0, hv.symm, nn, by rw [← hX, on]; rfl⟩
    · refine fun n0 nn => ?_
      generalize hv : V.ref n0 = x1
      generalize hX : upd H2 n0 (.dK []) = X1
      exact rest x1 X1 ⟨n0, hv.symm, nn, by rw [← hX, own_no e]; rfl⟩
  rintro x X ⟨n0, rfl, nn0, hX⟩
  have s3 : Same H2 X := by rw [hX]; exact same_new nn0
  have hn0 : X n0 = some (.dK (nkv (ownN p))) := by rw [hX]; exact upd_same
  clear hX
  have sm3 := sm2.trans s3
  have fn0 : H n0 = none := sm2.free nn0
  have hs3 := sqT_keep (tups_same s3) hs2
  have hx3 := hx2.keep (tups_same s3)
  -- knowns
  apply join2 (C := fun x Y => ∃ m0 ms, x = .ref m0 ∧ X m0 = none ∧ Y = upd X m0 (.dK ms) ∧ All2 (KvAt K Y) (ownK p) ms)
  · intro rest
    refine ⟨_, rfl, pp, _, 0, _, rfl, rfl, sqT_of_tups hs3, head_at _ _, rfl, _, rfl, eqS (fun e => ?_) (fun e => ?_)⟩
    · obtain ⟨z, k1, ep⟩ := is_known e
      obtain ⟨x2, exs, g2⟩ := dts2 (z := z) (d := kdD k1) (xs := xs) (K := K) (H := X) (by rw [show ([.str z, kdD k1] : List PyData) = p.ps by rw [ep]; rfl]; exact hx3)
      have on : ownK p = [(z, k1)] := by rw [ep]; rfl
      have dk1 : k1.deep ≤ 110 := dk k1 (by rw [ep]; exact List.mem_cons_self)
      refine fun m0 nm => ?_
      have s4 := same_new (o := .dK []) nm
      refine ⟨_, rfl, pp, _, 1, .str z, rfl, rfl, sqT_up s4 (sqT_of_tups hs3), atI_nat (j := 1) (by rw [exs]; rfl), _, rfl, pp, _, 2, x2, rfl, rfl, sqT_up s4 (sqT_of_tups hs3), atI_nat (j := 2) (by rw [exs]; rfl), upd_same, [(Sum.inr z, x2)], rfl, (by show 1 ≤ 15; decide), ?_⟩
      rw [upd_upd]
      generalize hv : V.ref m0 = x1
      generalize hX : upd X m0 (.dK (mergeK [] [((Sum.inr z : Key), x2)])) = X1
      exact rest x1 X1 ⟨m0, [(Sum.inr z, x2)], hv.symm, nm, hX.symm, by rw [on, ← hX]; exact .one ⟨rfl, Dt.keep g2 (tups_same (same_new nm)), dk1⟩⟩
    · refine fun m0 nm => ?_
      generalize hv : V.ref m0 = x1
      generalize hX : upd X m0 (.dK []) = X1
      exact rest x1 X1 ⟨m0, [], hv.symm, nm, hX.symm, by rw [ownk_no e]; exact .nil⟩
  rintro x Y ⟨m0, ms0, rfl, nm0, hY, al0⟩
  have s4 : Same X Y := by rw [hY]; exact same_new nm0
  have hm0 : Y m0 = some (.dK ms0) := by rw [hY]; exact upd_same
  clear hY
  have nnm : n0 ≠ m0 := ne_of_none hn0 nm0
  have hn0 := s4 _ _ hn0
  have sm4 := sm3.trans s4
  have fm0 : H m0 = none := sm3.free nm0
  -- closings
  have al4 := al1.mono fun _ _ h => h.keep (tups_same (s2.trans (s3.trans s4)))
  have hD4 := (s2.trans (s3.trans s4)) _ _ hD1
  have hs4 := sqT_keep (tups_same s4) hs3
  have hx4 := hx3.keep (tups_same s4)
  have rk4 := rk.keep (tups_same (s3.trans s4))
  have cl1 := cl_by (q := pp) hx4 dk al4 lks hk
  have lcl := clP_len hk lks
  refine ⟨_, rfl, _, rfl, pp, D0, p.word, xs, ks0, ks, closP p ks, rfl, sqT_of_tups hs4, hD4, al4, by omega, cl1, fun qc Z ws s5 nq hq5 hcl => ?_⟩
  have sm5 := sm4.trans s5
  have hlZ := sm5 _ _ hl
  have nqn : qc ≠ n0 := (ne_of_none hn0 nq).symm
  have nqm : qc ≠ m0 := (ne_of_none hm0 nq).symm
  have hn0 := s5 _ _ hn0
  have hm0 := s5 _ _ hm0
  have al0 := al0.mono (KvAt.keep (tups_same s5))
  have rkZ := rk4.keep (tups_same s5)
  have ljs := hj.len
  refine ⟨_, rfl, qc, l, ws, us, rfl, .inl (.inl hq5), .inl (.inl hlZ), ?_⟩
  refine for_zipL (K := K) (xs := ws) (ys := us) (by rw [← hcl.len, ← hj.len, lcl, lks, len]) (fun i σ' Z' => ∃ (y4 y9 y10 y11 y12 y13 y14 y15 : Option V) (ns : List Str) (kn : List (Str × Kd)) (ms : List (Key × V)), σ' = [some (.ref pp), some pl, some (.ref l), some kv, y4, some (.ref D0), some (.ref fK), some (.ref n0), some (.ref m0), y9, y10, y11, y12, y13, y14, y15] ∧
      mrgA (ownN p) (ownK p) (closP p ks) js = mrgA ns kn ((closP p ks).drop i) (js.drop i) ∧ Z' n0 = some (.dK (nkv ns)) ∧ Z' m0 = some (.dK ms) ∧ All2 (KvAt K Z') kn ms ∧ (kn.map (·.1)).Nodup ∧ ns.length ≤ 1 + 12000 * i ∧ kn.length ≤ 1 + 12000 * i ∧ (∀ b o, b ≠ n0 → b ≠ m0 → Z b = some o → Z' b = some o))
    ⟨_, _, _, _, _, _, _, _, ownN p, ownK p, ms0, rfl, rfl, hn0, hm0, al0, own_nd p, own_len p, ownk_len p, fun _ _ _ _ e => e⟩ ?_ ?_ ?_
  · rintro i σ' Z' ⟨_, _, _, _, _, _, _, _, _, _, _, _, _, _, _, _, _, _, _, kp⟩
    exact ⟨.inl (.inl (kp _ _ nqn nqm hq5)), .inl (.inl (kp _ _ (ne_of_none hl fn0) (ne_of_none hl fm0) hlZ))⟩
  · rintro i x y T0 σ' Z' hx1 hy1 ⟨y4, y9, y10, y11, y12, y13, y14, y15, ns, kn, ms, rfl, eA, zn, zm, alk, ndk, ln, lk, kp⟩ nT
    obtain ⟨c, hci, ca⟩ := all2_get' hcl hx1
    obtain ⟨j, hji, ja⟩ := all2_get' hj hy1
    have ndi := ndj j (List.mem_of_getElem? hji)
    have il : i < us.length := (List.getElem?_eq_some_iff.mp hy1).1
    obtain ⟨qc1, dv, rfl, hqc, hdue⟩ := ca
    obtain ⟨q1, n1, m1, kv1, msj, rfl, hq1, hk1, hn1, hm1, hms1, dn1, dm1, ln1, lk1⟩ := ja
    -- what stood ahead of the call
    have old : ∀ {b : Addr} {o : HO}, H b = some o → Z' b = some o := fun {b o} e => kp _ _ (ne_of_none e fn0) (ne_of_none e fm0) (sm5 _ _ e)
    have tZ : Tups H Z' := fun b xs e => old e
    have tZZ : Tups Z Z' := fun b xs e => kp _ _ (ne_of e hn0 (by intro z; cases z)) (ne_of e hm0 (by intro z; cases z)) e
    have nn1 : n1 ≠ n0 := ne_of_none hn1 fn0
    have nm1 : n1 ≠ m0 := ne_of_none hn1 fm0
    have mn1 : m1 ≠ n0 := ne_of_none hm1 fn0
    have mm1 : m1 ≠ m0 := ne_of_none hm1 fm0
    have sT := same_new (o := .tup [.ref qc1, .ref q1]) nT
    have hT : upd Z' T0 (.tup [.ref qc1, .ref q1]) T0 = _ := upd_same
    have cq := sT _ _ (tZZ _ _ hqc)
    have jq := sT _ _ (old hq1)
    have wn1 := sT _ _ (old hn1)
    have wm1 := sT _ _ (old hm1)
    have wn := sT _ _ zn
    have wm := sT _ _ zm
    have hdue := (hdue.keep tZZ).keep (tups_same sT)
    have hms1 := hms1.mono (KvAt.keep (tZ.trans (tups_same sT)))
    have alk := alk.mono (KvAt.keep (tups_same sT))
    have kpW : ∀ b o, b ≠ n0 → b ≠ m0 → Z b = some o → upd Z' T0 (.tup [.ref qc1, .ref q1]) b = some o := fun b o a1 a2 e => sT _ _ (kp b o a1 a2 e)
    generalize upd Z' T0 (.tup [.ref qc1, .ref q1]) = W at hT cq jq wn1 wm1 wn wm hdue hms1 alk kpW ⊢
    refine ⟨T0, _, rfl, .inl (.inl hT), rfl, .ref qc1, [.ref q1], rfl, qc1, _, rfl, .inl (.inl cq), rfl, oS c.1, [oS c.2.1, dv], rfl, oS c.2.1, [dv], rfl, dv, [], rfl, rfl, .ref q1, [], rfl, q1, _, rfl, .inl (.inl jq), rfl, kv1, [.ref n1, .ref m1], rfl, .ref n1, [.ref m1], rfl, .ref m1, [], rfl, rfl, rfl, ?_⟩
    -- the names
    refine ⟨n1, .dK (nkv j.names), wn1, trivial, fun od => ⟨_, rfl, n1, od, rfl, .inl ⟨nkv j.names, upd_same, ?_⟩⟩⟩
    refine for_keys (fun i2 σ2 X2 => ∃ y14, σ2 = [some (.ref pp), some pl, some (.ref l), some kv, some kv1, some (.ref D0), some (.ref fK), some (.ref n0), some (.ref m0), some (oS c.1), some (oS c.2.1), some dv, some (.ref n1), some (.ref m1), y14, y15] ∧
        X2 = upd (upd W n1 (.frz od (.dK (nkv j.names)))) n0 (.dK (nkv (mrgN c.1 ns (j.names.take i2)))))
      ⟨_, rfl, (upd_own (by rw [upd_ne nn1.symm]; exact wn)).symm⟩ ?_ ?_ ?_
    · rintro i2 σ2 X2 ⟨_, rfl, rfl⟩
      rw [upd_ne nn1, upd_same]
    · rintro i2 kk vv σ2 X2 hkk ⟨y14, rfl, rfl⟩
      obtain ⟨z, hz, e0⟩ : ∃ z, j.names[i2]? = some z ∧ ((Sum.inr z : Key), V.bl true) = (kk, vv) := by
        unfold nkv at hkk
        rw [List.getElem?_map] at hkk
        exact Option.map_eq_some_iff.mp hkk
      cases e0
      have e2 : mrgN c.1 ns (j.names.take (i2 + 1)) = (if c.1 = some z then mrgN c.1 ns (j.names.take i2) else if z ∈ mrgN c.1 ns (j.names.take i2) then mrgN c.1 ns (j.names.take i2) else mrgN c.1 ns (j.names.take i2) ++ [z]) := mrgN_next hz
      refine ⟨_, rfl, _, rfl, oS_flat _ c.1, _, rfl, ?_⟩
      by_cases cz : c.1 = some z
      · rw [if_pos cz] at e2
        have ez : (!decide (V.str z = oS c.1)) = false := by rw [cz]; show (!decide (V.str z = V.str z)) = false; rw [decide_eq_true rfl]; rfl
        show if (!decide (V.str z = oS c.1)) = true then _ else _
        rw [ez]
        exact iteF ⟨_, rfl, by rw [e2]⟩
      · rw [if_neg cz] at e2
        have ez : (!decide (V.str z = oS c.1)) = true := by rw [oS_ne cz]; rfl
        show if (!decide (V.str z = oS c.1)) = true then _ else _
        rw [ez]
        refine iteT ⟨_, rfl, _, rfl, n0, _, rfl, DPut.k (k := Sum.inr z) upd_same (few_of' ?_), ?_⟩
        · unfold nkv
          rw [List.length_map]
          have g1 := mrgN_len c.1 (j.names.take i2) ns
          have g2 : (j.names.take i2).length ≤ j.names.length := List.length_take_le' _ _
          omega
        · refine ⟨_, rfl, ?_⟩
          rw [upd_upd, putK_nkv, e2]
    rintro σ2 X2 ⟨y14, rfl, rfl⟩
    refine ⟨by rw [upd_ne nn1, upd_same], ?_⟩
    rw [show (nkv j.names).length = j.names.length from List.length_map .., List.take_length, unlock_eq wn1 nn1]
    have hN : upd W n0 (.dK (nkv (mrgN c.1 ns j.names))) n0 = some (.dK (nkv (mrgN c.1 ns j.names))) := upd_same
    have tW : Tups W (upd W n0 (.dK (nkv (mrgN c.1 ns j.names)))) := tups_dk wn
    have hM : upd W n0 (.dK (nkv (mrgN c.1 ns j.names))) m0 = some (.dK ms) := by rw [upd_ne nnm.symm]; exact wm
    have hM1 : upd W n0 (.dK (nkv (mrgN c.1 ns j.names))) m1 = some (.dK msj) := by rw [upd_ne mn1]; exact wm1
    have kpV : ∀ b o, b ≠ n0 → b ≠ m0 → Z b = some o → upd W n0 (.dK (nkv (mrgN c.1 ns j.names))) b = some o := fun b o a1 a2 e => by rw [upd_ne a1]; exact kpW b o a1 a2 e
    have hdue := hdue.keep tW
    have hms1 := hms1.mono (KvAt.keep tW)
    have alk := alk.mono (KvAt.keep tW)
    have lN := mrgN_len c.1 j.names ns
    generalize eN : mrgN c.1 ns j.names = ns' at hN hM hM1 kpV hdue hms1 alk lN tW ⊢
    generalize upd W n0 (.dK (nkv ns')) = W1 at hN hM hM1 kpV hdue hms1 alk ⊢
    clear tW
    -- the knowns
    have lms := hms1.len
    refine ⟨m1, .dK msj, hM1, trivial, fun od => ⟨_, rfl, m1, od, rfl, .inl ⟨msj, upd_same, ?_⟩⟩⟩
    refine for_keys (fun i2 σ2 X2 => ∃ (y14 y15 : Option V) (r : List (Str × Kd)) (ms2 : List (Key × V)), σ2 = [some (.ref pp), some pl, some (.ref l), some kv, some kv1, some (.ref D0), some (.ref fK), some (.ref n0), some (.ref m0), some (oS c.1), some (oS c.2.1), some dv, some (.ref n1), some (.ref m1), y14, y15] ∧
        mrgK c.2.1 c.2.2 kn (j.knowns.take i2) = some r ∧ X2 = upd (upd W1 m1 (.frz od (.dK msj))) m0 (.dK ms2) ∧ All2 (KvAt K W1) r ms2)
      ⟨_, _, kn, ms, rfl, rfl, (upd_own (by rw [upd_ne mm1.symm]; exact hM)).symm, alk⟩ ?_ ?_ ?_
    · rintro i2 σ2 X2 ⟨_, _, _, _, rfl, _, rfl, _⟩
      rw [upd_ne mm1, upd_same]
    · rintro i2 kk vv σ2 X2 hkk ⟨y14, y15, r, ms2, rfl, er, rfl, alr⟩
      obtain ⟨⟨z, k1⟩, hz, ez⟩ := all2_get' hms1 hkk
      obtain ⟨ez1, ez2⟩ := ez
      have ez1 : kk = Sum.inr z := ez1
      subst ez1
      have step := stepK (label := c.2.1) (due := c.2.2) r z k1
      obtain ⟨lr, ndr⟩ := mrgK_len _ _ _ _ _ er
      have ndr := ndr ndk
      have lr2 := alr.len
      have lt2 : (j.knowns.take i2).length ≤ j.knowns.length := List.length_take_le' _ _
      -- what inner_knowns tells
      have get : ∀ ms3 : List (Key × V), ∃ v1, DGet (upd (upd W1 m1 (.frz od (.dK msj))) m0 (.dK ms3)) m1 (.str z) (some v1) ∧ KAt K W1 v1 k1 := fun ms3 => by
        rcases valV_kv (z := z) hms1 with ⟨e, _⟩ | ⟨k2, v2, e, e2, h2⟩
        · have m := lookup_none e (z, k1) (List.mem_of_getElem? hz)
          exact absurd rfl m
        · have ek := fn_of ndi (lookup_mem e) (List.mem_of_getElem? hz)
          subst ek
          exact ⟨v2, .inl ⟨msj, Sum.inr z, .inr ⟨od, by rw [upd_ne mm1, upd_same]⟩, rfl, e2.symm⟩, h2⟩
      have up : ∀ (ms3 : List (Key × V)) {v1 : V} {k2 : Kd}, KAt K W1 v1 k2 → KAt K (upd (upd W1 m1 (.frz od (.dK msj))) m0 (.dK ms3)) v1 k2 := fun ms3 {v1 k2} h => by
        refine (h.keep (tups_dk hM1)).keep (tups_dk (ms := ms) ?_)
        rw [upd_ne mm1.symm]
        exact hM
      have bad : ∀ ms3 : List (Key × V), mrgK c.2.1 c.2.2 r [(z, k1)] = none → ∀ dd H', Same (upd (upd W1 m1 (.frz od (.dK msj))) m0 (.dK ms3)) H' → H' dd = some (.xd [(Str.ofString "place", pl)]) → E (.ref NP) (some dd) H' := fun ms3 en dd H' sE hdd => by
        refine qe ?_ dd H' (fun b o nb e => sE _ _ ?_) hdd
        · unfold jp
          rw [ekj]
          dsimp only
          rw [hks, eA, mrgA_next hci hji, mrgK_stop er hz en]
        · rw [upd_ne (ne_of_none e fm0), upd_ne (fun w => nb.elim (fun nb => nb (by rw [w]; exact dm1)) fun nb => nb msj (by rw [w, hm1] at e; exact (Option.some.inj e).symm))]
          exact kpV _ _ (ne_of_none e fn0) (ne_of_none e fm0) (sm5 _ _ e)
      have good : ∀ ms3 r2, mrgK c.2.1 c.2.2 r [(z, k1)] = some r2 → All2 (KvAt K W1) r2 ms3 → ∀ y14 y15 : Option V, ∃ (y14' y15' : Option V) (r : List (Str × Kd)) (ms2 : List (Key × V)), [some (.ref pp), some pl, some (.ref l), some kv, some kv1, some (.ref D0), some (.ref fK), some (.ref n0), some (.ref m0), some (oS c.1), some (oS c.2.1), some dv, some (.ref n1), some (.ref m1), y14, y15] = [some (.ref pp), some pl, some (.ref l), some kv, some kv1, some (.ref D0), some (.ref fK), some (.ref n0), some (.ref m0), some (oS c.1), some (oS c.2.1), some dv, some (.ref n1), some (.ref m1), y14', y15'] ∧
        mrgK c.2.1 c.2.2 kn (j.knowns.take (i2 + 1)) = some r ∧ upd (upd W1 m1 (.frz od (.dK msj))) m0 (.dK ms3) = upd (upd W1 m1 (.frz od (.dK msj))) m0 (.dK ms2) ∧ All2 (KvAt K W1) r ms2 := fun ms3 r2 e2 al2 y14 y15 => ⟨y14, y15, r2, ms3, rfl, by rw [mrgK_next er hz]; exact e2, rfl, al2⟩
      refine ⟨_, rfl, _, rfl, oS_flat _ c.2.1, _, rfl, ?_⟩
      by_cases cz : c.2.1 = some z
      · rw [if_pos cz] at step
        have ez : decide (V.str z = oS c.2.1) = true := by rw [cz]; exact decide_eq_true rfl
        show if decide (V.str z = oS c.2.1) = true then _ else _
        rw [ez]
        obtain ⟨v1, g1, g2⟩ := get ms2
        have g2 := up ms2 g2
        refine iteT ⟨_, rfl, _, rfl, m1, v1, rfl, g1, _, rfl, ?_⟩
        obtain ⟨od2, ed⟩ : ∃ o, c.2.2 = o := ⟨_, rfl⟩
        cases od2 with
        | none =>
          rw [ed] at hdue step
          have ev : dv = .non := hdue
          subst ev
          rw [if_neg (fun h => by cases h)] at step
          refine ⟨kdD k1, .none, g2.dp, .non, kd_lay _, rfl, by rw [kd_depth]; have := g2.deep; omega, ?_⟩
          rw [kd_non]
          refine ⟨_, rfl, _, rfl, iteT ⟨_, rfl, mk_place ?_⟩⟩
          exact bad ms2 (by rw [ed]; exact step)
        | some k2 =>
          rw [ed] at hdue step
          have hk2 : KAt K W1 dv k2 := hdue
          have hk2 := up ms2 hk2
          refine ⟨kdD k1, kdD k2, g2.dp, hk2.dp, kd_lay _, kd_lay _, by rw [kd_depth]; have := g2.deep; omega, ?_⟩
          rw [kd_eq]
          by_cases e12 : k1 = k2
          · rw [if_pos (by rw [e12])] at step
            rw [decide_eq_true e12]
            exact ⟨_, rfl, _, rfl, iteF (good ms2 r (by rw [ed]; exact step) alr _ _)⟩
          · rw [if_neg (fun h => e12 (by injection h with h; exact h.symm))] at step
            rw [decide_eq_false e12]
            exact ⟨_, rfl, _, rfl, iteT ⟨_, rfl, mk_place (bad ms2 (by rw [ed]; exact step))⟩⟩
      · rw [if_neg cz] at step
        have ez : decide (V.str z = oS c.2.1) = false := oS_ne cz
        show if decide (V.str z = oS c.2.1) = true then _ else _
        rw [ez]
        refine iteF ⟨_, rfl, _, rfl, m0, _, rfl, DGet.k (k := Sum.inr z) upd_same, _, rfl, ?_⟩
        have fewK : ms2.length < sizeLine := few_of' (by
          have : j.knowns.length ≤ 12000 := lk1
          omega)
        rcases valV_kv (z := z) alr with ⟨e, ev⟩ | ⟨k2, v2, e, ev, h2⟩
        · rw [e] at step
          rw [ev]
          obtain ⟨v1, g1, g2⟩ := get ms2
          refine iteT ⟨_, rfl, _, rfl, m1, v1, rfl, g1, _, rfl, _, rfl, m0, _, rfl, DPut.k (k := Sum.inr z) upd_same fewK, ?_⟩
          rw [upd_upd]
          exact ⟨_, rfl, _, rfl, iteF (good _ _ step (putK_kv g2 alr e) _ _)⟩
        · rw [e] at step
          rw [ev]
          obtain ⟨v1, g1, g2⟩ := get ms2
          have g3 := up ms2 g2
          have h3 := up ms2 h2
          refine iteF ⟨_, rfl, _, rfl, m0, v2, rfl, by rw [← ev]; exact DGet.k (k := Sum.inr z) upd_same, _, rfl, _, rfl, m1, v1, rfl, g1, kdD k2, kdD k1, h3.dp, g3.dp, kd_lay _, kd_lay _, by rw [kd_depth]; have := h3.deep; omega, ?_⟩
          rw [kd_eq]
          refine ⟨_, rfl, _, rfl, m1, v1, rfl, g1, _, rfl, _, rfl, m0, _, rfl, DPut.k (k := Sum.inr z) upd_same fewK, ?_⟩
          rw [upd_upd]
          dsimp only at step
          by_cases e12 : k2 = k1
          · rw [if_pos e12] at step
            rw [decide_eq_true e12]
            subst e12
            exact ⟨_, rfl, _, rfl, iteF (good _ _ step (put_same g2 alr e ndr) _ _)⟩
          · rw [if_neg e12] at step
            rw [decide_eq_false e12]
            exact ⟨_, rfl, _, rfl, iteT ⟨_, rfl, mk_place (bad _ step)⟩⟩
    rintro σ2 X2 ⟨y14, y15, r, ms2, rfl, er, rfl, alr⟩
    refine ⟨by rw [upd_ne mm1, upd_same], ?_⟩
    rw [← lms, List.take_length] at er
    rw [unlock_eq hM1 mm1]
    have tW : Tups W1 (upd W1 m0 (.dK ms2)) := tups_dk hM
    obtain ⟨lr, ndr⟩ := mrgK_len _ _ _ _ _ er
    refine ⟨_, _, _, _, _, _, _, _, ns', r, ms2, rfl, ?_, by rw [upd_ne nnm]; exact hN, upd_same, alr.mono (KvAt.keep tW), ndr ndk, by omega, by omega, fun b o a1 a2 e => ?_⟩
    · rw [eA, mrgA_next hci hji, er]
      show mrgA (mrgN c.1 ns j.names) r _ _ = _
      rw [eN]
    · rw [upd_ne a2]
      exact kpV b o a1 a2 e
  · rintro σ' Z' ⟨y4, y9, y10, y11, y12, y13, y14, y15, ns, kn, ms, rfl, eA, zn, zm, alk, ndk, ln, lk, kp⟩
    have ew : (closP p ks).drop ws.length = [] := List.drop_eq_nil_of_le (Nat.le_of_eq hcl.len)
    rw [ew] at eA
    have eA2 : mrgA (ownN p) (ownK p) (closP p ks) js = some (ns, kn) := by rw [eA]; rfl
    have ejp : jp p js = some ⟨k, ns, kn⟩ := by
      unfold jp
      rw [ekj]
      dsimp only
      rw [hks, eA2]
    obtain ⟨d1, d2, d3⟩ := small _ ejp
    have tZZ : Tups Z Z' := fun b xs e => kp _ _ (ne_of e hn0 (by intro z; cases z)) (ne_of e hm0 (by intro z; cases z)) e
    refine ⟨_, rfl, _, rfl, _, rfl, (by show 3 ≤ sizeLine; decide), fun qr nr => ?_⟩
    have sR := same_new (o := .tup [kv, .ref n0, .ref m0]) nr
    have sAll : Same H (upd Z' qr (.tup [kv, .ref n0, .ref m0])) := fun b o e => sR _ _ (kp _ _ (ne_of_none e fn0) (ne_of_none e fm0) (sm5 _ _ e))
    exact q _ ejp _ _ sAll ⟨qr, n0, m0, kv, ms, rfl, upd_same, ⟨(rkZ.keep tZZ).keep (tups_same sR), d1⟩, sR _ _ zn, sR _ _ zm, alk.mono (KvAt.keep (tups_same sR)), hDn _ fn0, hDn _ fm0, d2, d3⟩
end
end Kf
set_option Elab.async false
set_option linter.all false
set_option maxRecDepth 100000
set_option maxHeartbeats 8000000
set_option pp.maxSteps 500
/-! judged. -/
namespace Kf
open PySem PySem.Spec PyProof.Rows L2 Sx RZ
abbrev sJud : Stmt := top 48
abbrev judN : List Str := ["thing", "rows", "fault", "done", "piece", "place", "kind", "names", "knowns", "label"]
theorem scJud : FnScope judN ["thing"] (defScope sJud) := ⟨rfl, rfl, rfl, by decide +kernel, rfl, by decide +kernel, by decide +kernel⟩
def jrun : List (Pg × List Nat) → List Jd → List Jd ⊕ List Nat
  | [], done => .inl done
  | (p, pl) :: r, done => match jp p (done.drop (done.length - p.kids.length)) with
    | none => .inr pl
    | some j => jrun r (done.take (done.length - p.kids.length) ++ [j])
/-- what must hold that the pieces are gone through -/
def Steps : List (Pg × List Nat) → List Jd → Prop
  | [], _ => True
  | (p, _) :: r, done => p.Good ∧ p.kids.length ≤ done.length ∧ (∀ k ∈ p.kds, k.deep ≤ 110) ∧ ∀ j, jp p (done.drop (done.length - p.kids.length)) = some j → (j.kind.deep ≤ 110 ∧ j.names.length ≤ 12000 ∧ j.knowns.length ≤ 12000) ∧ (j.knowns.map (·.1)).Nodup ∧ Steps r (done.take (done.length - p.kids.length) ++ [j])
def judD (k : Kd) (ys : List Str) (zs : List (Str × Kd)) : PyData := .tuple [kdD k, .tuple (ys.map .str), .tuple (zs.map fun q => .tuple [.str q.1, kdD q.2])]
structure TJ (mg : Str → Option Value) (t1 t2 : Tok) : Prop where
  mP : mg "MOST_PIECES" = some (.int 12000 t1)
  mW : mg "MOST_WITHIN_programs" = some (.int 250 t2)
  zLen : mg "len" = none
  zTuple : mg "tuple" = none
  zSorted : mg "sorted" = none
theorem JdAt.but {K : PySem.W.Frag} {D : Addr → Prop} {H H' : Hp} {f : Addr} {xs : List V} (b : But f H H') (h : H f = some (.lst xs)) (j : Jd) (v : V) (a : JdAt K D H j v) : JdAt K D H' j v := by
  obtain ⟨q, n, m, kv, ms, e, hq, hk, hn, hm, hms, r⟩ := a
  have t := b.tups h
  exact ⟨q, n, m, kv, ms, e, t _ _ hq, hk.keep t, b _ _ (ne_of hn h (by intro z; cases z)) hn, b _ _ (ne_of hm h (by intro z; cases z)) hm, hms.mono (KvAt.keep t), r⟩
theorem JdAt.same {K : PySem.W.Frag} {D : Addr → Prop} {H H' : Hp} (b : Same H H') (j : Jd) (v : V) (a : JdAt K D H j v) : JdAt K D H' j v := by
  obtain ⟨q, n, m, kv, ms, e, hq, hk, hn, hm, hms, r⟩ := a
  have t := tups_same b
  exact ⟨q, n, m, kv, ms, e, t _ _ hq, hk.keep t, b _ _ hn, b _ _ hm, hms.mono (KvAt.keep t), r⟩
theorem all2_take {α β : Type} {F : α → β → Prop} : ∀ (n : Nat) {l : List α} {m : List β}, All2 F l m → All2 F (l.take n) (m.take n)
  | 0, _, _, _ => .nil
  | n + 1, _, _, .nil => .nil
  | n + 1, _, _, .cons a b => .cons a (all2_take n b)
theorem all2_drop {α β : Type} {F : α → β → Prop} : ∀ (n : Nat) {l : List α} {m : List β}, All2 F l m → All2 F (l.drop n) (m.drop n)
  | 0, _, _, h => h
  | n + 1, _, _, .nil => .nil
  | n + 1, _, _, .cons a b => all2_drop n b
section
variable {P : Program} {w : World} {K : PySem.W.Frag} {mg : Str → Option Value} {base : Heap} {KV PT PV : Addr}
def spJudged (K : PySem.W.Frag) (PT NP : Addr) : Sp := fun vs H Q E => ∃ (v : V) (d : PyData) (rows : List (Pg × List Nat)) (fault : Option (List Nat)), vs = [v] ∧ Dt K H v d ∧ Okd d ∧ GxR.TabG H PT ∧ inOrd innP 12000 250 d = (rows.map rowD, fault) ∧ Steps rows [] ∧ rows.length ≤ 12000 ∧
  (fault = none → ∀ js, jrun rows [] = .inl js → ∃ j r, js = j :: r) ∧
  (∀ j r, jrun rows [] = .inl (j :: r) → fault = none → j.names.length < 64 ∧ j.knowns.length < 64 ∧ ∀ ys zs v' H', Gen PT H H' → ys.Perm j.names → sortedS ys = true → (zs.map (·.1)).Perm (j.knowns.map (·.1)) → sortedS (zs.map (·.1)) = true → (∀ q ∈ zs, q ∈ j.knowns) → Dt K H' v' (judD j.kind ys zs) → Q v' H') ∧
  (∀ pl, (jrun rows [] = .inr pl ∨ (∃ js, jrun rows [] = .inl js ∧ fault = some pl)) → ∀ dd H' y, Gen PT H H' → H' dd = some (.xd [(Str.ofString "place", y)]) → PlAt K H' y pl → E (.ref NP) (some dd) H')
theorem strs_dt {H : Hp} : ∀ ys : List Str, DtAll K H (ys.map V.str) (ys.map PyData.str)
  | [] => .nil
  | y :: r => .cons (.str y) (strs_dt r)
theorem kv_keys {H : Hp} : ∀ {ks : List (Str × Kd)} {ms : List (Key × V)}, All2 (KvAt K H) ks ms → ms.map (·.1) = (ks.map (·.1)).map Sum.inr
  | _, _, .nil => rfl
  | _, _, .cons r t => by
    rw [List.map_cons, List.map_cons, List.map_cons, kv_keys t, r.1]
theorem row_map {H0 H : Hp} : ∀ {rows : List (Pg × List Nat)} {rs : List V}, All2 (RowP K H0 H) (rows.map rowD) rs → ∀ {i : Nat} {x : V}, rs[i]? = some x → ∃ p pl q a y, rows[i]? = some (p, pl) ∧ x = .ref q ∧ H q = some (.tup [a, y]) ∧ Dp K H0 a (pgD p) ∧ PlAt K H y pl
  | [], _, h, i, x, e => by
    cases h
    cases e
  | (p, pl) :: r, _, h, i, x, e => by
    cases h with
    | cons h1 h2 =>
      cases i with
      | zero =>
        cases e
        obtain ⟨q, a, y, e1, e2, e3, e4⟩ := h1
        exact ⟨p, pl, q, a, y, rfl, e1, e2, e3, e4⟩
      | succ i => exact row_map h2 (i := i) e
theorem ok_judged {f fo fi fj fp fg fI NP : Addr} {fd do_ dj dp dg dI : FuncData} {t1 t2 : Tok} (F : Fun K "judged" "judged" sJud f fd) (N : NoPr K mg NP fI dI) (T : TJ mg t1 t2)
    (mI : mg "inner_of" = some (.ref fi))
    (GO : FnOk P w K mg base CX0 5 fo do_ ["thing", "inner_of", "most_pieces", "most_within"] (spInOrder K PT fi Okd innP)) (bO : Binds K do_ ["thing", "inner_of", "most_pieces", "most_within"] []) (kO : PySem.W.keepIn K (.ref fo) = true) (mO : mg "in_order" = some (.ref fo))
    (GJ : ∀ D : Addr → Prop, FnOk P w K mg base (L2.CX P w) 3 fj dj ["piece", "place", "inner"] (spJP K D NP)) (bJ : Binds K dj ["piece", "place", "inner"] []) (kJ : PySem.W.keepIn K (.ref fj) = true) (mJ : mg "judged_piece" = some (.ref fj))
    (GPo : FnOk P w K mg base CX0 1 fp dp ["done", "many"] spPopped) (bPo : Binds K dp ["done", "many"] []) (kPo : PySem.W.keepIn K (.ref fp) = true) (mPo : mg "popped" = some (.ref fp))
    (GPr : FnOk P w K mg base CX0 1 fg dg ["program"] (spProgs K)) (bPr : Binds K dg ["program"] []) (kPr : PySem.W.keepIn K (.ref fg) = true) (mPr : mg "programs_of" = some (.ref fg)) :
    FnOk P w K mg base (L2.CX P w) 6 f fd ["thing"] (spJudged K PT NP) := by
  have gI := ok_iniP (P := P) (w := w) (base := base) N
  refine F.okX scJud (fun vs H Q E h => ?_) (fun cdv A outer s H vs Q E hr h => ?_)
  · obtain ⟨v, d, rows, fault, rfl, _⟩ := h
    rfl
  obtain ⟨v, d, rows, fault, rfl, hd, od, hT, hin, st, lrows, qne, q, qe⟩ := h
  have h5 : Room 5 _ := hr
  have h3 : Room 3 _ := hr.mono (by decide)
  have h2 : Room 2 _ := hr.mono (by decide)
  have h1 : Room 1 _ := hr.mono (by decide)
  have u2 : (A.deeper (envOfC "judged" (defScope sJud) s.heap.objs.size f cdv)).units + 1 < cLine := by
    have := hr.un
    omega
  have GJ := GJ fun b => H b = none
  refine ⟨_, (pss_cons (ps_asg (pe_call GO h5 (by rfl) mO kO bO .nil pass0 (pa_cons (pv 0) (pa_cons (pe_glob (v := .ref fi) (by rfl) mI rfl) (pa_cons (pe_glob (v := .int 12000) (by rfl) T.mP ⟨_, rfl⟩) (pa_cons (pe_glob (v := .int 250) (by rfl) T.mW ⟨_, rfl⟩) pa_nil))))) (pg_tup (by rfl) (pgs_cons (pg_name (i := 1) scJud.nd rfl (.inl rfl)) (pgs_cons (pg_name (i := 2) scJud.nd rfl (.inl rfl)) pgs_nil))))
    (pss_cons (ps_set (i := 3) scJud.nd rfl (.inl rfl) (pe_lst pa_nil))
    (pss_cons (ps_for (passes_of rfl) rfl (pi_list (pv 1)) (pg_tup (by rfl) (pgs_cons (pg_name (i := 4) scJud.nd rfl (.inl rfl)) (pgs_cons (pg_name (i := 5) scJud.nd rfl (.inl rfl)) pgs_nil))) (pss_one (ps_expr (pe_bm PySem.F.plainAttrs_list PySem.F.slot_list_append PySem.F.type_list_append mt_append (pv 3) (pa_cons (pe_call GJ h3 (by rfl) mJ kJ bJ .nil (passes_call (takes_of rfl rfl rfl rfl) (fun _ _ _ _ h => h)) (pa_cons (pv 4) (pa_cons (pv 5) (pa_cons (pe_call GPo h1 (by rfl) mPo kPo bPo .nil pass0 (pa_cons (pv 3) (pa_cons (pe_callB call_len_seq (by rfl) T.zLen PySem.boot_len (pa_cons (pe_call GPr h1 (by rfl) mPr kPr bPr .nil pass0 (pa_cons (pv 4) pa_nil)) pa_nil)) pa_nil))) pa_nil)))) pa_nil)))))
    (pss_cons (ps_if (pt_cmpR op_notN (pv 2) pe_non (nomark _)) (pss_one (ps_raise rfl (takes_of rfl rfl rfl rfl) (pmk_oex N.ox N.ini N.tyI gI h2 N.b .nil pass0 (by rfl) N.at_ (pa_cons (pv 2) pa_nil)))) pss_nil)
    (pss_cons (ps_asg (pe_ix ix_list (pv 3) pe_int (fun _ _ => rfl)) (pg_tup (by rfl) (pgs_cons (pg_name (i := 6) scJud.nd rfl (.inl rfl)) (pgs_cons (pg_name (i := 7) scJud.nd rfl (.inl rfl)) (pgs_cons (pg_name (i := 8) scJud.nd rfl (.inr rfl)) pgs_nil)))))
    (pss_one (ps_ret (pe_tup (pa_cons (pv 6) (pa_cons (pe_tupleOf (by rfl) T.zTuple (pe_callB (call_sortedD rfl) (by rfl) T.zSorted (by decide +kernel) (pa_cons (pv 7) pa_nil))) (pa_cons (pe_tupleOf (by rfl) T.zTuple (pe_lc (own := [("label", 9)]) (g := gName 9) (tt := tYes) (by rfl) scJud.nd (pi_list (pe_callB (call_sortedD rfl) (by rfl) T.zSorted (by decide +kernel) (pa_cons (pv 8) pa_nil))) (blkOk_by (N := judN) (sc := defScope sJud) (by decide +kernel)) (fun _ _ _ _ _ => pg_name (i := 9) scJud.nd rfl (Or.inl rfl)) (fun _ _ _ _ _ => pts_nil) (fun _ _ _ _ _ => (pe_tup (pa_cons (pv 9) (pa_cons (pe_dget u2 (pv 8) (pv 9) (fun _ _ => rfl)) pa_nil)))))) pa_nil))))))))))), ?_⟩
  refine ⟨_, rfl, v, d, 12000, 250, tups H, rfl, nt_same tups_in, hd, od, hT, Nat.le_refl _, Nat.le_refl _, fun p0 lr rs fv X1 g1 hp0 nlr hlr hrs hfv => ?_⟩
  rw [hin] at hrs hfv
  refine ⟨p0, _, rfl, .inl (.inl hp0), rfl, .ref lr, [fv], rfl, fv, [], rfl, rfl, ?_⟩
  refine ⟨Nat.zero_le _, fun ld nld => ?_⟩
  have s2 := same_new (o := .lst []) nld
  have hld : upd X1 ld (.lst []) ld = some (.lst []) := upd_same
  have lds : H ld = none := g1.free hT nld
  have nrd : lr ≠ ld := ne_of_none hlr nld
  refine ⟨_, rfl, lr, rfl, ⟨_, .inl (.inl (s2 _ _ hlr))⟩, ?_⟩
  refine for_list (K := K) (a := lr) (xs := rs) (fun i σ' X => ∃ (done : List Jd) (us : List V) (y4 y5 : Option V), σ' = [some v, some (.ref lr), some fv, some (.ref ld), y4, y5, none, none, none, none] ∧ X ld = some (.lst us) ∧ All2 (JdAt K (fun b => H b = none) X) done us ∧
      jrun rows [] = jrun (rows.drop i) done ∧ Steps (rows.drop i) done ∧ (∀ j ∈ done, (j.knowns.map (·.1)).Nodup) ∧ But ld X1 X ∧ done.length ≤ i)
    ⟨[], [], none, none, rfl, hld, .nil, rfl, st, (fun _ m => nomatch m), but_same s2, Nat.le_refl _⟩ ?_ ?_ ?_
  · rintro i σ' X _ ⟨done, us, y4, y5, rfl, _, _, _, _, _, kp, _⟩
    exact .inl (.inl (kp _ _ nrd hlr))
  · rintro i x σ' X hx ⟨done, us, y4, y5, rfl, hus, hj, er, ss, nd, kp, ldn⟩
    obtain ⟨p, pl, qr, a, y, hrow, rfl, hqr, hda, hpl⟩ := row_map hrs hx
    have er2 : rows.drop i = (p, pl) :: rows.drop (i + 1) := by
      obtain ⟨l1, e1⟩ := List.getElem?_eq_some_iff.mp hrow
      rw [List.drop_eq_getElem_cons l1, e1]
    rw [er2] at er ss
    obtain ⟨good, few, dk, next⟩ := ss
    have il : i < rows.length := (List.getElem?_eq_some_iff.mp hrow).1
    have tX : Tups X1 X := fun b xs e => kp _ _ (ne_of_none e nld) e
    have tH : Tups H X := (g1.tups hT).trans tX
    have hdX : Dt K X a (pgD p) := Dt.keep hda tH
    have hplX := hpl.keep tX
    refine ⟨qr, _, rfl, .inl (.inl (tX _ _ hqr)), rfl, a, [y], rfl, y, [], rfl, rfl, ?_⟩
    refine ⟨_, rfl, .inl ⟨rfl, _, .inl (.inl hus)⟩, _, rfl, _, rfl, _, rfl, _, rfl, ?_⟩
    -- its programs
    have hinn := inn_pg p good
    obtain ⟨w1, ds, ws, ed, hl, hlen, _, eprog⟩ := inn_is hinn
    have hd1 : Dp K X a (.tuple (.str w1 :: ds)) := by rw [← ed]; exact hdX.dp
    refine ⟨a, X, w1, ds, ws, rfl, hd1, hd1, (fun _ _ h => h), hl, hlen, fun lp X2 ups s3 nlp hlp hups => ?_⟩
    rw [← eprog] at hups
    have lup := dps_len hups
    rw [List.length_map] at lup
    have hus2 := s3 _ _ hus
    have lus := hj.len
    have hb : (us.drop (us.length - p.kids.length)).length = p.kids.length := by rw [List.length_drop]; omega
    refine ⟨lp, _, rfl, .inl (.inl (.inl hlp)), ld, us.take (us.length - p.kids.length), us.drop (us.length - p.kids.length), (by rw [lup, hb]; rfl), (by rw [List.take_append_drop]; exact hus2), fun lq nlq => ?_⟩
    have ndq : ld ≠ lq := ne_of_none hus2 nlq
    have b4 : But ld X2 (upd (upd X2 lq (.lst (us.drop (us.length - p.kids.length)))) ld (.lst (us.take (us.length - p.kids.length)))) := (but_same (same_new nlq)).own
    have hl4 : upd (upd X2 lq (.lst (us.drop (us.length - p.kids.length)))) ld (.lst (us.take (us.length - p.kids.length))) ld = some (.lst (us.take (us.length - p.kids.length))) := upd_same
    have hq4 : upd (upd X2 lq (.lst (us.drop (us.length - p.kids.length)))) ld (.lst (us.take (us.length - p.kids.length))) lq = some (.lst (us.drop (us.length - p.kids.length))) := by rw [upd_ne ndq.symm]; exact upd_same
    generalize upd (upd X2 lq (.lst (us.drop (us.length - p.kids.length)))) ld (.lst (us.take (us.length - p.kids.length))) = X4 at b4 hl4 hq4 ⊢
    have hj2 := hj.mono (JdAt.same s3)
    have hj4 := hj2.mono (JdAt.but b4 hus2)
    have bX4 : But ld X X4 := (but_same s3).trans b4
    have t4 : Tups X X4 := bX4.tups hus
    have kp4 : But ld X1 X4 := kp.trans bX4
    have hplX4 := hplX.keep t4
    have fresh : ∀ b, X4 b = none → H b = none := fun b e => by
      cases h : H b with
      | none => rfl
      | some o =>
        by_cases c : b = PT
        · subst c
          obtain ⟨ps, h1, _⟩ := g1.g
          rw [kp4 _ _ (ne_of_none h1 nld) h1] at e
          cases e
        · rw [kp4 _ _ (ne_of_none h lds) (g1.but _ _ c h)] at e
          cases e
    have ednd : done.drop (done.length - p.kids.length) = done.drop (us.length - p.kids.length) := by rw [← lus]
    refine ⟨a, y, lq, _, p, done.drop (us.length - p.kids.length), rfl, hdX.keep t4, dk, hq4, all2_drop _ hj4, (by rw [List.length_drop]; omega), (fun j m => nd j (List.mem_of_mem_drop m)), fresh, fun j ej => ?_, fun j ej vj X5 s5 hjv => ?_, fun en dd X5 sE hdd => ?_⟩
    · rw [← ednd] at ej
      exact (next j ej).1
    · rw [← ednd] at ej
      obtain ⟨_, ndj, ss2⟩ := next j ej
      have hl5 := s5 _ _ hl4
      refine ⟨ld, _, vj, rfl, rfl, hl5, few_of' (by rw [List.length_take]; omega), ?_⟩
      have b6 : But ld X5 (upd X5 ld (.lst (us.take (us.length - p.kids.length) ++ [vj]))) := (But.refl _ _).own
      refine ⟨done.take (done.length - p.kids.length) ++ [j], _, _, _, rfl, upd_same, ?_, ?_, ss2, ?_, (kp4.trans (but_same s5)).trans b6, ?_⟩
      · rw [lus]
        exact ((all2_take _ (hj4.mono (JdAt.same s5))).app (.one hjv)).mono (JdAt.but b6 hl5)
      · rw [er]
        show (match jp p (done.drop (done.length - p.kids.length)) with | none => _ | some j => jrun (rows.drop (i + 1)) (done.take (done.length - p.kids.length) ++ [j])) = _
        rw [ej]
      · intro j2 m
        rcases List.mem_append.mp m with m | m
        · exact nd j2 (List.mem_of_mem_take m)
        · rw [List.mem_singleton.mp m]
          exact ndj
      · rw [List.length_append, List.length_take]
        show _ + 1 ≤ i + 1
        omega
    · rw [← ednd] at en
      have e9 : jrun rows [] = .inr pl := by
        rw [er]
        show (match jp p (done.drop (done.length - p.kids.length)) with | none => _ | some j => jrun (rows.drop (i + 1)) (done.take (done.length - p.kids.length) ++ [j])) = _
        rw [en]
      have g4 : Gen PT H X4 := ⟨fun b o nb e => kp4 _ _ (ne_of_none e lds) (g1.but _ _ nb e), by
        obtain ⟨ps, h1, h2⟩ := g1.g
        exact ⟨ps, kp4 _ _ (ne_of_none h1 nld) h1, h2⟩⟩
      refine qe pl (.inl e9) dd X5 y ⟨fun b o nb e => sE _ _ (.inl fun z => by
        have z : H b = none := z
        rw [e] at z
        cases z) (g4.but _ _ nb e), ?_⟩ hdd (hplX4.keep fun b xs e => sE _ _ (.inr fun _ z => by cases z) e)
      obtain ⟨ps, h1, h2⟩ := g4.g
      exact ⟨ps, sE _ _ (.inr fun _ z => by cases z) h1, h2⟩
  · rintro σ' X ⟨done, us, y4, y5, rfl, hus, hj, er, _, nd, kp, ldn⟩
    have ers : rows.drop rs.length = [] := List.drop_eq_nil_of_le (by rw [← hrs.len, List.length_map]; exact Nat.le_refl _)
    rw [ers] at er
    have er : jrun rows [] = .inl done := er
    have tX : Tups X1 X := fun b xs e => kp _ _ (ne_of_none e nld) e
    have gX : Gen PT H X := ⟨fun b o nb e => kp _ _ (ne_of_none e lds) (g1.but _ _ nb e), by
      obtain ⟨ps, h1, h2⟩ := g1.g
      exact ⟨ps, kp _ _ (ne_of_none h1 nld) h1, h2⟩⟩
    cases fault with
    | some pl =>
      obtain ⟨ap, eap, sap⟩ : PlAt K X1 fv pl := hfv
      subst eap
      refine ⟨_, rfl, rfl, _, rfl, ?_⟩
      refine iteT ⟨_, rfl, mk_place fun dd H' sE hdd => ?_⟩
      refine qe pl (.inr ⟨done, er, rfl⟩) dd H' (.ref ap) ⟨gX.but.trans (but_same sE), ?_⟩ hdd ⟨ap, rfl, sqT_keep (tX.trans (tups_same sE)) sap⟩
      obtain ⟨ps, h1, h2⟩ := gX.g
      exact ⟨ps, sE _ _ h1, h2⟩
    | none =>
      have hfv : fv = .non := hfv
      subst hfv
      refine ⟨_, rfl, rfl, _, rfl, iteF ?_⟩
      obtain ⟨j, r, rfl⟩ := qne rfl done er
      cases hj with
      | @cons _ vj _ us' hj0 hj =>
      obtain ⟨q0, n0, m0, kv, ms, rfl, hq0, hk0, hn0, hm0, hms, _⟩ := hj0
      obtain ⟨few1, few2, qq⟩ := q j r er rfl
      refine ⟨_, rfl, ld, _, 0, _, rfl, rfl, .inl (.inl hus), atI_nat (j := 0) rfl, q0, _, rfl, .inl (.inl hq0), rfl, kv, [.ref n0, .ref m0], rfl, .ref n0, [.ref m0], rfl, .ref m0, [], rfl, rfl, ?_⟩
      refine ⟨_, rfl, _, rfl, n0, nkv j.names, j.names, rfl, .inl hn0, by unfold nkv; rw [List.map_map]; rfl, few1, fun ys ly pys sys nly => ?_⟩
      have s1 := same_new (o := .lst (ys.map V.str)) nly
      refine .inl ⟨ly, _, rfl, .inl (.inl upd_same), fun ta nta => ?_⟩
      have s2 := s1.trans (same_new (o := .tup (ys.map V.str)) nta)
      have hta : upd (upd X ly (.lst (ys.map V.str))) ta (.tup (ys.map V.str)) ta = _ := upd_same
      generalize upd (upd X ly (.lst (ys.map V.str))) ta (.tup (ys.map V.str)) = Y at s2 hta ⊢
      clear s1 nly nta
      have hm2 := s2 _ _ hm0
      have hms2 := hms.mono (KvAt.keep (tups_same s2))
      have keys : ms.map (·.1) = (j.knowns.map (·.1)).map Sum.inr := kv_keys hms
      refine ⟨_, rfl, m0, ms, j.knowns.map (·.1), rfl, .inl hm2, keys, by rw [List.length_map]; exact few2, fun zz lz pzz szz nlz => ?_⟩
      have s3 := same_new (o := .lst (zz.map V.str)) nlz
      have hlz : upd Y lz (.lst (zz.map V.str)) lz = _ := upd_same
      generalize upd Y lz (.lst (zz.map V.str)) = Z at s3 hlz ⊢
      have hm3 := s3 _ _ hm2
      have hms3 := hms2.mono (KvAt.keep (tups_same s3))
      refine ⟨lz, rfl, ⟨_, .inl (.inl hlz)⟩, fun D0 nD => ?_⟩
      have s4 : Same Z (upd Z D0 (.lst [])) := same_new nD
      refine lc_list (K := K) (a := lz) (xs := zz.map V.str) (fun i X' => ∃ (acc : List V) (zs : List (Str × Kd)), X' D0 = some (.lst acc) ∧ Same Z X' ∧ DtAll K X' acc (zs.map fun q => .tuple [.str q.1, kdD q.2]) ∧ zs.map (·.1) = zz.take i ∧ ∀ q ∈ zs, q ∈ j.knowns) ⟨[], [], upd_same, s4, .nil, rfl, fun _ m => nomatch m⟩ (fun i X' _ ⟨_, _, _, sm, _⟩ => .inl (.inl (sm _ _ hlz))) ?_ ?_
      · rintro i x X' hx ⟨acc, zs, hD, sm, al, ez, mz⟩
        rw [List.getElem?_map] at hx
        obtain ⟨z, hz, rfl⟩ := Option.map_eq_some_iff.mp hx
        have mem : z ∈ j.knowns.map (·.1) := pzz.mem_iff.mp (List.mem_of_getElem? hz)
        obtain ⟨⟨z2, k2⟩, mq, e2⟩ := List.mem_map.mp mem
        have e2 : z2 = z := e2
        subst e2
        have la : acc.length = zs.length := by
          have := dps_len al
          rw [List.length_map] at this
          exact this
        have lz2 : zs.length ≤ zz.length := by
          have := congrArg List.length ez
          rw [List.length_map, List.length_take] at this
          omega
        have lzz : zz.length < 64 := by
          rw [pzz.length_eq, List.length_map]
          exact few2
        rcases valV_kv (z := z2) hms3 with ⟨e, _⟩ | ⟨k3, v3, e, e3, h3⟩
        · exact absurd rfl (lookup_none e _ mq)
        have ek := fn_of (nd j List.mem_cons_self) (lookup_mem e) mq
        subst ek
        refine ⟨rfl, _, rfl, _, rfl, _, rfl, m0, v3, rfl, by rw [← e3]; exact DGet.k (k := Sum.inr z2) (sm _ _ hm3), (by show 2 ≤ sizeLine; decide), fun p9 n9 => ?_⟩
        have t9 := same_new (o := .tup [.str z2, v3]) n9
        have n9D : p9 ≠ D0 := (ne_of_none hD n9).symm
        have k6 : Tups X' (upd (upd X' p9 (.tup [.str z2, v3])) D0 (.lst (acc ++ [.ref p9]))) := (tups_same t9).trans (tups_lst (t9 _ _ hD))
        refine ⟨acc, t9 _ _ hD, few_of' (by omega), acc ++ [.ref p9], zs ++ [(z2, k3)], upd_same, same_own (sm.trans t9) nD, ?_, ?_, ?_⟩
        · rw [List.map_append]
          refine dps_app (DtAll.keep al k6) (.cons (dt_tup (by rw [upd_ne n9D]; exact upd_same) (.cons (.str _) (.cons ((h3.keep (tups_same sm)).keep k6).at_ .nil))) .nil)
        · rw [List.map_append, ez, List.take_add_one, hz]
          rfl
        · intro q2 m
          rcases List.mem_append.mp m with m | m
          · exact mz q2 m
          · rw [List.mem_singleton.mp m]
            exact mq
      · rintro X' ⟨acc, zs, hD, sm, al, ez, mz⟩
        rw [List.length_map, List.take_length] at ez
        refine .inl ⟨D0, _, rfl, .inl (.inl hD), fun tb ntb => ?_⟩
        have s5 := same_new (o := .tup acc) ntb
        refine ⟨(by show 3 ≤ sizeLine; decide), fun tr ntr => ?_⟩
        have s6 := same_new (o := .tup [kv, .ref ta, .ref tb]) ntr
        have s56 := s5.trans s6
        have sA : Same X _ := s2.trans (s3.trans (sm.trans s56))
        have gA : Gen PT H (upd (upd X' tb (.tup acc)) tr (.tup [kv, .ref ta, .ref tb])) := ⟨gX.but.trans (but_same sA), by
          obtain ⟨ps, h1, h2⟩ := gX.g
          exact ⟨ps, sA _ _ h1, h2⟩⟩
        refine qq ys zs _ _ gA pys sys (by rw [ez]; exact pzz) (by rw [ez]; exact szz) mz ?_
        refine dt_tup upd_same (.cons (hk0.keep (tups_same sA)).at_ (.cons (dt_tup ((s3.trans (sm.trans s56)) _ _ hta) (strs_dt ys)) (.cons (dt_tup (s6 _ _ upd_same) (DtAll.keep al (tups_same s56))) .nil)))
end
end Kf
set_option Elab.async false
set_option linter.all false
set_option maxRecDepth 100000
set_option maxHeartbeats 4000000
set_option pp.maxSteps 500
/-! Right programs are judged to be right. -/
namespace Kf
open PySem PySem.Spec PyProof.Rows L2 Sx RZ
theorem kd_ds : ∀ k : Kd, k.deep ≤ k.size
  | .none => Nat.le_refl _
  | .number => Nat.le_refl _
  | .pair a b => by
    have h := kd_ds a
    have h2 := kd_ds b
    show max a.deep b.deep + 1 ≤ a.size + b.size + 1
    omega
  | .frm a b => by
    have h := kd_ds a
    have h2 := kd_ds b
    show max a.deep b.deep + 1 ≤ a.size + b.size + 1
    omega
  | .either a b => by
    have h := kd_ds a
    have h2 := kd_ds b
    show max a.deep b.deep + 1 ≤ a.size + b.size + 1
    omega
theorem Kd.Okz.deep {k : Kd} (h : k.Okz) : k.deep ≤ 40 := Nat.le_trans (kd_ds k) h.2
theorem Ty.kds {s : Sc} {p : Pg} {k : Kd} (h : Ty s p k) : ∀ q ∈ p.kds, q.deep ≤ 110 := by
  cases h with
  | known _ _ ok => intro q m; rw [List.mem_singleton.mp m]; exact Nat.le_trans ok.deep (by decide)
  | lets _ ok _ _ _ => intro q m; rw [List.mem_singleton.mp m]; exact Nat.le_trans ok.deep (by decide)
  | this ok _ => intro q m; rw [List.mem_singleton.mp m]; exact Nat.le_trans ok.deep (by decide)
  | that ok _ => intro q m; rw [List.mem_singleton.mp m]; exact Nat.le_trans ok.deep (by decide)
  | _ => intro q m; cases m
/-- how deep a program's kind is -/
theorem Ty.kdeep {s : Sc} {p : Pg} {k : Kd} (h : Ty s p k) : k.deep ≤ 40 + p.deep := by
  induction h with
  | nothing => show 1 ≤ _; omega
  | num _ _ => show 1 ≤ _; omega
  | name _ _ => show 1 ≤ _; omega
  | next _ _ => show 1 ≤ _; omega
  | plus _ _ _ _ => show 1 ≤ _; omega
  | times _ _ _ _ => show 1 ≤ _; omega
  | known _ _ ok => have := ok.deep; omega
  | @lets s z k r a _ ok _ _ _ ih =>
    have := ok.deep
    show max k.deep r.deep + 1 ≤ 40 + (a.deep + 1)
    omega
  | @for_ s z r a _ _ _ ih =>
    show max 1 r.deep + 1 ≤ 40 + (a.deep + 1)
    omega
  | @call s a b k r _ _ ih _ =>
    have ih : max k.deep r.deep + 1 ≤ 40 + a.deep := ih
    show r.deep ≤ 40 + (max a.deep b.deep + 1)
    omega
  | @pair s a b k r _ _ _ _ i1 i2 =>
    show max k.deep r.deep + 1 ≤ 40 + (max a.deep b.deep + 1)
    omega
  | @first s a k r _ ih =>
    have ih : max k.deep r.deep + 1 ≤ 40 + a.deep := ih
    show k.deep ≤ 40 + (a.deep + 1)
    omega
  | @second s a k r _ ih =>
    have ih : max k.deep r.deep + 1 ≤ 40 + a.deep := ih
    show r.deep ≤ 40 + (a.deep + 1)
    omega
  | @parts s a b x u o r _ _ _ _ _ ih =>
    show r.deep ≤ 40 + (max a.deep b.deep + 1)
    omega
  | @this s a k r ok _ ih =>
    have := ok.deep
    show max k.deep r.deep + 1 ≤ 40 + (a.deep + 1)
    omega
  | @that s a k r ok _ ih =>
    have := ok.deep
    show max k.deep r.deep + 1 ≤ 40 + (a.deep + 1)
    omega
  | @cases s a b c u v k o r _ _ _ _ _ _ ih _ =>
    show r.deep ≤ 40 + (max (max a.deep b.deep) c.deep + 1)
    omega
  | @climb s a b c x u k _ _ _ _ _ _ ih _ _ =>
    show k.deep ≤ 40 + (max (max a.deep b.deep) c.deep + 1)
    omega
/-- a piece in a piece -/
structure Kid (s : Sc) (p a : Pg) (t : Sc) : Prop where
  ty : Ty t a (kdOf a)
  fn : t.Fn
  n1 : t.1.length ≤ s.1.length + 1
  n2 : t.2.length ≤ s.2.length + 1
theorem lb_len (s : Sc) (z : Str) (k : Kd) : (s.lb z k).2.length ≤ s.2.length + 1 := Nat.add_le_add_right (List.length_filter_le _ _) 1
theorem Ty.own {s : Sc} {a p : Pg} {k : Kd} (h : Ty s a k) (F : s.Fn) : Kid s p a s := ⟨by rw [h.kd]; exact h, F, Nat.le_succ _, Nat.le_succ _⟩
theorem Ty.inLb {s : Sc} {a p : Pg} {k o : Kd} {u : Str} (h : Ty (s.lb u o) a k) (F : s.Fn) : Kid s p a (s.lb u o) := ⟨by rw [h.kd]; exact h, F.lb _ _, Nat.le_succ _, lb_len _ _ _⟩
theorem Ty.inNm {s : Sc} {a p : Pg} {k : Kd} {x : Str} (h : Ty (s.nm x) a k) (F : s.Fn) : Kid s p a (s.nm x) := ⟨by rw [h.kd]; exact h, F.nm _, Nat.le_refl _, Nat.le_succ _⟩
theorem Ty.inBo {s : Sc} {a p : Pg} {k o : Kd} {x u : Str} (h : Ty ((s.nm x).lb u o) a k) (F : s.Fn) : Kid s p a ((s.nm x).lb u o) := ⟨by rw [h.kd]; exact h, (F.nm _).lb _ _, Nat.le_refl _, lb_len _ _ _⟩
theorem Ty.kids {s : Sc} {p : Pg} {k : Kd} (h : Ty s p k) (F : s.Fn) : ∀ a ∈ p.kids, ∃ t, Kid s p a t := by
  cases h with
  | nothing => intro a m; cases m
  | num _ _ => intro a m; cases m
  | name _ _ => intro a m; cases m
  | known _ _ _ => intro a m; cases m
  | next ha => intro a m; rw [kids1 m]; exact ⟨_, ha.own F⟩
  | plus ha hb => intro a m; rcases kids2 m with e | e <;> rw [e]; exact ⟨_, ha.own F⟩; exact ⟨_, hb.own F⟩
  | times ha hb => intro a m; rcases kids2 m with e | e <;> rw [e]; exact ⟨_, ha.own F⟩; exact ⟨_, hb.own F⟩
  | lets _ _ _ _ ha => intro a m; rw [kids1 m]; exact ⟨_, ha.inLb F⟩
  | for_ _ _ ha => intro a m; rw [kids1 m]; exact ⟨_, ha.inNm F⟩
  | call ha hb => intro a m; rcases kids2 m with e | e <;> rw [e]; exact ⟨_, ha.own F⟩; exact ⟨_, hb.own F⟩
  | pair _ _ ha hb => intro a m; rcases kids2 m with e | e <;> rw [e]; exact ⟨_, ha.own F⟩; exact ⟨_, hb.own F⟩
  | first ha => intro a m; rw [kids1 m]; exact ⟨_, ha.own F⟩
  | second ha => intro a m; rw [kids1 m]; exact ⟨_, ha.own F⟩
  | parts _ _ ha hb => intro a m; rcases kids2 m with e | e <;> rw [e]; exact ⟨_, ha.own F⟩; exact ⟨_, hb.inBo F⟩
  | this _ ha => intro a m; rw [kids1 m]; exact ⟨_, ha.own F⟩
  | that _ ha => intro a m; rw [kids1 m]; exact ⟨_, ha.own F⟩
  | cases _ _ ha hb hc => intro a m; rcases kids3 m with e | e | e <;> rw [e]; exact ⟨_, ha.own F⟩; exact ⟨_, hb.inLb F⟩; exact ⟨_, hc.inLb F⟩
  | climb _ _ _ ha hb hc => intro a m; rcases kids3 m with e | e | e <;> rw [e]; exact ⟨_, ha.own F⟩; exact ⟨_, hb.inBo F⟩; exact ⟨_, hc.own F⟩
/-- how much may be open -/
structure Fits (s : Sc) (p : Pg) : Prop where
  f1 : s.1.length + p.deep ≤ 12000
  f2 : s.2.length + p.deep ≤ 12000
  d : p.deep ≤ 60
theorem Right.len {s : Sc} {p : Pg} {k : Kd} {j : Jd} (r : Right p k j) (h : Ty s p k) : j.names.length ≤ s.1.length ∧ j.knowns.length ≤ s.2.length := by
  refine ⟨nodup_le _ _ r.ndN fun z m => h.opens.1 z ((r.names z).mp m), ?_⟩
  have e := nodup_le (j.knowns.map (·.1)) (s.2.map (·.1)) r.ndK fun z m => by
    obtain ⟨q, hq, rfl⟩ := List.mem_map.mp m
    exact List.mem_map.mpr ⟨q, h.opens.2 q ((r.knowns q).mp hq), rfl⟩
  rw [List.length_map, List.length_map] at e
  exact e
theorem run_kids {N : Nat} (IH : ∀ (p : Pg) (s : Sc) (k : Kd) (pl : List Nat) (r : List (Pg × List Nat)) (done : List Jd), p.deep ≤ N → Ty s p k → s.Fn → Fits s p → ∃ j, Right p k j ∧ jrun (pstF N pl p ++ r) done = jrun r (done ++ [j]) ∧ (Steps r (done ++ [j]) → Steps (pstF N pl p ++ r) done)) :
    ∀ (ks : List Pg) (i : Nat) (pl : List Nat) (r : List (Pg × List Nat)) (done : List Jd), (∀ a ∈ ks, a.deep ≤ N ∧ ∃ t, Ty t a (kdOf a) ∧ t.Fn ∧ Fits t a) →
      ∃ js, All2 (fun a j => Right a (kdOf a) j) ks js ∧ jrun (((ks.zipIdx i).flatMap fun e => pstF N (pl ++ [e.2]) e.1) ++ r) done = jrun r (done ++ js) ∧ (Steps r (done ++ js) → Steps (((ks.zipIdx i).flatMap fun e => pstF N (pl ++ [e.2]) e.1) ++ r) done)
  | [], i, pl, r, done, _ => ⟨[], .nil, by rw [List.append_nil]; rfl, by rw [List.append_nil]; exact id⟩
  | a :: ks, i, pl, r, done, h => by
    obtain ⟨d1, t, ty, fn, fi⟩ := h a List.mem_cons_self
    obtain ⟨j, rj, e1, e2⟩ := IH a t (kdOf a) (pl ++ [i]) (((ks.zipIdx (i + 1)).flatMap fun e => pstF N (pl ++ [e.2]) e.1) ++ r) done d1 ty fn fi
    obtain ⟨js, al, e3, e4⟩ := run_kids IH ks (i + 1) pl r (done ++ [j]) fun a m => h a (List.mem_cons_of_mem _ m)
    refine ⟨j :: js, .cons rj al, ?_, fun st => ?_⟩
    · rw [List.zipIdx_cons, List.flatMap_cons, List.append_assoc, e1, e3, List.append_assoc]
      rfl
    · rw [List.zipIdx_cons, List.flatMap_cons, List.append_assoc]
      refine e2 (e4 ?_)
      rw [List.append_assoc]
      exact st
theorem run_pg : ∀ (N : Nat) (p : Pg) (s : Sc) (k : Kd) (pl : List Nat) (r : List (Pg × List Nat)) (done : List Jd), p.deep ≤ N → Ty s p k → s.Fn → Fits s p → ∃ j, Right p k j ∧ jrun (pstF N pl p ++ r) done = jrun r (done ++ [j]) ∧ (Steps r (done ++ [j]) → Steps (pstF N pl p ++ r) done)
  | 0, p, s, k, pl, r, done, h, _, _, _ => by
    have : 1 ≤ p.deep := by cases p <;> simp [Pg.deep]
    omega
  | N + 1, p, s, k, pl, r, done, h, ty, fn, fi => by
    have kk := ty.kids fn
    obtain ⟨js, al, e1, e2⟩ := run_kids (run_pg N) p.kids 0 pl ((p, pl) :: r) done fun a m => by
      obtain ⟨t, kd⟩ := kk a m
      obtain ⟨d1, _⟩ := kid_ok m
      have := fi.f1
      have := fi.f2
      have := fi.d
      have := kd.n1
      have := kd.n2
      exact ⟨by omega, t, kd.ty, kd.fn, ⟨by omega, by omega, by omega⟩⟩
    obtain ⟨j, ej, rj⟩ := jp_right ty fn al
    have lj := al.len
    have ed : (done ++ js).length - p.kids.length = done.length := by rw [List.length_append]; omega
    have edr : (done ++ js).drop ((done ++ js).length - p.kids.length) = js := by rw [ed, List.drop_left]
    have etk : (done ++ js).take ((done ++ js).length - p.kids.length) = done := by rw [ed, List.take_left]
    have ep : pstF (N + 1) pl p ++ r = ((p.kids.zipIdx).flatMap fun e => pstF N (pl ++ [e.2]) e.1) ++ ((p, pl) :: r) := by
      show (((p.kids.zipIdx).flatMap fun e => pstF N (pl ++ [e.2]) e.1) ++ [(p, pl)]) ++ r = _
      rw [List.append_assoc]
      rfl
    refine ⟨j, rj, ?_, fun st => ?_⟩
    · rw [ep, e1]
      show (match jp p ((done ++ js).drop ((done ++ js).length - p.kids.length)) with | none => _ | some j => jrun r ((done ++ js).take ((done ++ js).length - p.kids.length) ++ [j])) = _
      rw [edr, etk, ej]
    · rw [ep]
      refine e2 ⟨ty.good, by rw [List.length_append]; omega, ty.kds, fun j2 e => ?_⟩
      rw [edr, ej] at e
      cases e
      rw [etk]
      have := rj.len ty
      have := fi.f1
      have := fi.f2
      have := fi.d
      have := ty.kdeep
      exact ⟨⟨by rw [rj.kind]; omega, by omega, by omega⟩, rj.ndK, st⟩
theorem pst_len : ∀ (N : Nat) (p : Pg) (pl : List Nat), p.deep ≤ N → (pstF N pl p).length = p.size
  | 0, p, pl, h => by
    have : 1 ≤ p.deep := by cases p <;> simp [Pg.deep]
    omega
  | N + 1, p, pl, h => by
    have go : ∀ (ks : List Pg) (i : Nat), (∀ a ∈ ks, a.deep ≤ N) → (((ks.zipIdx i).flatMap fun e => pstF N (pl ++ [e.2]) e.1)).length = (ks.map Pg.size).sum := fun ks => by
      induction ks with
      | nil => exact fun _ _ => rfl
      | cons a r ih =>
        intro i h
        rw [List.zipIdx_cons, List.flatMap_cons, List.length_append, pst_len N a _ (h a List.mem_cons_self), ih (i + 1) fun a m => h a (List.mem_cons_of_mem _ m)]
        simp
    show ((((p.kids.zipIdx).flatMap fun e => pstF N (pl ++ [e.2]) e.1) ++ [(p, pl)])).length = _
    rw [List.length_append, go p.kids 0 fun a m => by
      obtain ⟨d1, _⟩ := kid_ok m
      omega]
    have := size_kidsG p
    show _ + 1 = p.size
    omega
/-- it is something that can be gone into -/
theorem fn_calm {P : Program} {w : World} {K : PySem.W.Frag} {mg : Str → Option Value} {base : Heap} {k : Nat} {f : Addr} {fd : FuncData} {ps : List Str} {sp sp0 : Sp} (F : FnOk P w K mg base (L2.CX P w) k f fd ps sp)
    (h : ∀ vs H Q E, sp0 vs H Q E → sp vs H Q fun _ _ _ => False) : FnOk P w K mg base CX0 k f fd ps sp0 :=
  ⟨fun vs H Q E q => F.len vs H Q _ (h _ _ _ _ q), fun A outer s H args us vs Q E hr he hb hv hs => codeAny_mono (F.run A outer s H args us vs Q _ hr he hb hv (h _ _ _ _ hs)) fun r s' hq => by
    cases r with
    | ok fl => cases fl <;> exact hq
    | error e =>
      obtain ⟨_, _, _, _, _, _, _, _, _, _, _, _, z⟩ := hq
      exact z.elim⟩
theorem Ty.dep {s : Sc} {p : Pg} {k : Kd} (h : Ty s p k) : (pgD p).depth ≤ p.deep + 40 := by
  induction h with
  | nothing =>
    show max 0 0 + 1 ≤ 1 + 40
    omega
  | num _ _ =>
    show max 0 (max 0 0) + 1 ≤ 1 + 40
    omega
  | name _ _ =>
    show max 0 (max 0 0) + 1 ≤ 1 + 40
    omega
  | @next s a _ ih =>
    show max 0 (max (pgD a).depth 0) + 1 ≤ (a.deep + 1) + 40
    omega
  | @plus s a b _ _ i1 i2 =>
    show max 0 (max (pgD a).depth (max (pgD b).depth 0)) + 1 ≤ (max a.deep b.deep + 1) + 40
    omega
  | @times s a b _ _ i1 i2 =>
    show max 0 (max (pgD a).depth (max (pgD b).depth 0)) + 1 ≤ (max a.deep b.deep + 1) + 40
    omega
  | @known s z k _ _ ok =>
    have hk := ok.deep
    have hd := kd_depth k
    show max 0 (max 0 (max (kdD k).depth 0)) + 1 ≤ 1 + 40
    omega
  | @lets s z k r a _ ok _ _ _ ih =>
    have hk := ok.deep
    have hd := kd_depth k
    show max 0 (max 0 (max (kdD k).depth (max (pgD a).depth 0))) + 1 ≤ (a.deep + 1) + 40
    omega
  | @for_ s z r a _ _ _ ih =>
    show max 0 (max 0 (max (pgD a).depth 0)) + 1 ≤ (a.deep + 1) + 40
    omega
  | @call s a b k r _ _ i1 i2 =>
    show max 0 (max (pgD a).depth (max (pgD b).depth 0)) + 1 ≤ (max a.deep b.deep + 1) + 40
    omega
  | @pair s a b k r _ _ _ _ i1 i2 =>
    show max 0 (max (pgD a).depth (max (pgD b).depth 0)) + 1 ≤ (max a.deep b.deep + 1) + 40
    omega
  | @first s a k r _ ih =>
    show max 0 (max (pgD a).depth 0) + 1 ≤ (a.deep + 1) + 40
    omega
  | @second s a k r _ ih =>
    show max 0 (max (pgD a).depth 0) + 1 ≤ (a.deep + 1) + 40
    omega
  | @parts s a b x u o r _ _ _ _ i1 i2 =>
    show max 0 (max (pgD a).depth (max 0 (max 0 (max (pgD b).depth 0)))) + 1 ≤ (max a.deep b.deep + 1) + 40
    omega
  | @this s a k r ok _ ih =>
    have hk := ok.deep
    have hd := kd_depth r
    show max 0 (max (pgD a).depth (max (kdD r).depth 0)) + 1 ≤ (a.deep + 1) + 40
    omega
  | @that s a k r ok _ ih =>
    have hk := ok.deep
    have hd := kd_depth k
    show max 0 (max (kdD k).depth (max (pgD a).depth 0)) + 1 ≤ (a.deep + 1) + 40
    omega
  | @cases s a b c u v k o r _ _ _ _ _ i1 i2 i3 =>
    show max 0 (max (pgD a).depth (max 0 (max (pgD b).depth (max 0 (max (pgD c).depth 0))))) + 1 ≤ (max (max a.deep b.deep) c.deep + 1) + 40
    omega
  | @climb s a b c x u k _ _ _ _ _ _ i1 i2 i3 =>
    show max 0 (max (pgD a).depth (max 0 (max 0 (max (pgD b).depth (max (pgD c).depth 0))))) + 1 ≤ (max (max a.deep b.deep) c.deep + 1) + 40
    omega
theorem ty_psz {s : Sc} {p : Pg} {k : Kd} (h : Ty s p k) : psz (pgD p) ≤ 130 * p.size := by
  induction h with
  | nothing =>
    show 1 + (1 + 0) ≤ 130 * (1)
    omega
  | num _ _ =>
    show 1 + (1 + (1 + 0)) ≤ 130 * (1)
    omega
  | name _ _ =>
    show 1 + (1 + (1 + 0)) ≤ 130 * (1)
    omega
  | @next s a _ ih =>
    show 1 + (1 + (psz (pgD a) + 0)) ≤ 130 * (a.size + 1)
    omega
  | @plus s a b _ _ i1 i2 =>
    show 1 + (1 + (psz (pgD a) + (psz (pgD b) + 0))) ≤ 130 * (a.size + b.size + 1)
    omega
  | @times s a b _ _ i1 i2 =>
    show 1 + (1 + (psz (pgD a) + (psz (pgD b) + 0))) ≤ 130 * (a.size + b.size + 1)
    omega
  | @known s z k _ _ ok =>
    have hk := ok.2
    have hd := kd_psz k
    show 1 + (1 + (1 + (psz (kdD k) + 0))) ≤ 130 * (1)
    omega
  | @lets s z k r a _ ok _ _ _ ih =>
    have hk := ok.2
    have hd := kd_psz k
    show 1 + (1 + (1 + (psz (kdD k) + (psz (pgD a) + 0)))) ≤ 130 * (a.size + 1)
    omega
  | @for_ s z r a _ _ _ ih =>
    show 1 + (1 + (1 + (psz (pgD a) + 0))) ≤ 130 * (a.size + 1)
    omega
  | @call s a b k r _ _ i1 i2 =>
    show 1 + (1 + (psz (pgD a) + (psz (pgD b) + 0))) ≤ 130 * (a.size + b.size + 1)
    omega
  | @pair s a b k r _ _ _ _ i1 i2 =>
    show 1 + (1 + (psz (pgD a) + (psz (pgD b) + 0))) ≤ 130 * (a.size + b.size + 1)
    omega
  | @first s a k r _ ih =>
    show 1 + (1 + (psz (pgD a) + 0)) ≤ 130 * (a.size + 1)
    omega
  | @second s a k r _ ih =>
    show 1 + (1 + (psz (pgD a) + 0)) ≤ 130 * (a.size + 1)
    omega
  | @parts s a b x u o r _ _ _ _ i1 i2 =>
    show 1 + (1 + (psz (pgD a) + (1 + (1 + (psz (pgD b) + 0))))) ≤ 130 * (a.size + b.size + 1)
    omega
  | @this s a k r ok _ ih =>
    have hk := ok.2
    have hd := kd_psz r
    show 1 + (1 + (psz (pgD a) + (psz (kdD r) + 0))) ≤ 130 * (a.size + 1)
    omega
  | @that s a k r ok _ ih =>
    have hk := ok.2
    have hd := kd_psz k
    show 1 + (1 + (psz (kdD k) + (psz (pgD a) + 0))) ≤ 130 * (a.size + 1)
    omega
  | @cases s a b c u v k o r _ _ _ _ _ i1 i2 i3 =>
    show 1 + (1 + (psz (pgD a) + (1 + (psz (pgD b) + (1 + (psz (pgD c) + 0)))))) ≤ 130 * (a.size + b.size + c.size + 1)
    omega
  | @climb s a b c x u k _ _ _ _ _ _ i1 i2 i3 =>
    show 1 + (1 + (psz (pgD a) + (1 + (1 + (psz (pgD b) + (psz (pgD c) + 0)))))) ≤ 130 * (a.size + b.size + c.size + 1)
    omega
structure OpenAs (p : Pg) (ys : List Str) (zs : List (Str × Kd)) : Prop where
  n : ∀ z, z ∈ ys ↔ z ∈ opn p
  nd : ys.Nodup
  ns : sortedS ys = true
  k : ∀ q ∈ zs, q ∈ opk p
  k2 : ∀ q ∈ opk p, q.1 ∈ zs.map (·.1)
  kd : (zs.map (·.1)).Nodup
  ks : sortedS (zs.map (·.1)) = true
def spJudR (K : PySem.W.Frag) (PT : Addr) : Sp := fun vs H Q _ => ∃ (v : V) (p : Pg) (s : Sc) (k : Kd), vs = [v] ∧ Dt K H v (pgD p) ∧ Ty s p k ∧ s.Fn ∧ s.1.length < 64 ∧ s.2.length < 64 ∧ p.deep ≤ 50 ∧ p.size ≤ 5000 ∧ GxR.TabG H PT ∧ ∀ ys zs v' H', Gen PT H H' → OpenAs p ys zs → Dt K H' v' (judD k ys zs) → Q v' H'
section
variable {P : Program} {w : World} {K : PySem.W.Frag} {mg : Str → Option Value} {base : Heap} {KV PT PV : Addr}
theorem judged_right {f NP : Addr} {fd : FuncData} (G : FnOk P w K mg base (L2.CX P w) 6 f fd ["thing"] (spJudged K PT NP)) : FnOk P w K mg base CX0 6 f fd ["thing"] (spJudR K PT) :=
  fn_calm G fun vs H Q E h => by
    obtain ⟨v, p, s, k, rfl, hd, ty, fn, l1, l2, dp, sz, hT, q⟩ := h
    have dd := ty.dep
    have pz := ty_psz ty
    obtain ⟨j, rj, e1, e2⟩ := run_pg p.deep p s k [] [] [] (Nat.le_refl _) ty fn ⟨by omega, by omega, by omega⟩
    rw [List.append_nil] at e1 e2
    have e1 : jrun (pstF p.deep [] p) [] = .inl [j] := e1
    obtain ⟨b1, b2⟩ := rj.len ty
    refine ⟨v, pgD p, pstF p.deep [] p, none, rfl, hd, ⟨pg_ats p ty.good, by omega, by omega⟩, hT, ord_pg ty.good (by omega) (by omega), e2 trivial, by rw [pst_len _ _ _ (Nat.le_refl _)]; omega, fun _ js ej => ?_, fun j2 r ej _ => ?_, fun pl h => ?_⟩
    · rw [e1] at ej
      cases ej
      exact ⟨j, [], rfl⟩
    · rw [e1] at ej
      cases ej
      refine ⟨by omega, by omega, fun ys zs v' H' g p1 s1 p2 s2 mz dv => ?_⟩
      rw [rj.kind] at dv
      refine q ys zs v' H' g ⟨fun z => (p1.mem_iff).trans (rj.names z), p1.nodup_iff.mpr rj.ndN, s1, fun q hq => (rj.knowns q).mp (mz q hq), fun q hq => p2.mem_iff.mpr (List.mem_map.mpr ⟨q, (rj.knowns q).mpr hq, rfl⟩), p2.nodup_iff.mpr rj.ndK, s2⟩ dv
    · rcases h with h | ⟨js, _, h⟩
      · rw [e1] at h
        cases h
      · cases h
end
end Kf
set_option Elab.async false
set_option linter.all false
set_option maxRecDepth 100000
set_option maxHeartbeats 4000000
set_option pp.maxSteps 500
/-! Runs: the machine, and that it is never stuck with right programs. -/
namespace Kf
open PySem PySem.Spec PyProof.Rows L2 Sx RZ
inductive Wv where
  | none
  | int (n : Int)
  | pair (a b : Wv)
  | this (a : Wv)
  | that (a : Wv)
  | rule (p : Pg) (named : List (Str × Int)) (known : List (Str × Wv))
structure Scp where
  named : List (Str × Int)
  known : List (Str × Wv)
/-- put: in its place, or behind all -/
def putL {β : Type} (l : List (Str × β)) (z : Str) (v : β) : List (Str × β) := if (l.any fun q => decide (q.1 = z)) = true then l.map fun q => if q.1 = z then (q.1, v) else q else l ++ [(z, v)]
theorem mapL_same {β : Type} (z : Str) (v : β) : ∀ (l : List (Str × β)), (l.any fun q => decide (q.1 = z)) = true → (l.map fun q => if q.1 = z then (q.1, v) else q).lookup z = some v
  | [], h => by cases h
  | (y, u) :: r, h => by
    by_cases c : y = z
    · subst c
      simp [List.lookup]
    · have e : (z == y) = false := beq_eq_false_iff_ne.mpr fun h => c h.symm
      have h2 : (r.any fun q => decide (q.1 = z)) = true := by
        rw [List.any_cons, show decide ((y, u).1 = z) = false from decide_eq_false c, Bool.false_or] at h
        exact h
      show List.lookup z ((if y = z then (y, v) else (y, u)) :: _) = _
      rw [if_neg c, List.lookup_cons, e]
      exact mapL_same z v r h2
theorem appL_same {β : Type} (z : Str) (v : β) : ∀ (l : List (Str × β)), ¬ (l.any fun q => decide (q.1 = z)) = true → (l ++ [(z, v)]).lookup z = some v
  | [], _ => by simp [List.lookup]
  | (y, u) :: r, h => by
    by_cases c : y = z
    · subst c
      exact (h (by simp)).elim
    · have e : (z == y) = false := beq_eq_false_iff_ne.mpr fun h => c h.symm
      show List.lookup z ((y, u) :: (r ++ [(z, v)])) = _
      rw [List.lookup_cons, e]
      exact appL_same z v r fun h2 => h (by rw [List.any_cons, h2, Bool.or_true])
theorem mapL_ne {β : Type} {y z : Str} (n : y ≠ z) (v : β) : ∀ (l : List (Str × β)), (l.map fun q => if q.1 = z then (q.1, v) else q).lookup y = l.lookup y
  | [] => rfl
  | (x, u) :: r => by
    show List.lookup y ((if x = z then (x, v) else (x, u)) :: _) = _
    by_cases c : x = z
    · subst c
      have e : (y == x) = false := beq_eq_false_iff_ne.mpr n
      rw [if_pos rfl, List.lookup_cons, e, List.lookup_cons, e]
      exact mapL_ne n v r
    · rw [if_neg c, List.lookup_cons, List.lookup_cons]
      rw [mapL_ne n v r]
theorem appL_ne {β : Type} {y z : Str} (n : y ≠ z) (v : β) : ∀ (l : List (Str × β)), (l ++ [(z, v)]).lookup y = l.lookup y
  | [] => by
    have e : (y == z) = false := beq_eq_false_iff_ne.mpr n
    show List.lookup y [(z, v)] = _
    rw [List.lookup_cons, e]
  | (x, u) :: r => by
    show List.lookup y ((x, u) :: (r ++ [(z, v)])) = _
    rw [List.lookup_cons, List.lookup_cons, appL_ne n v r]
theorem putL_same {β : Type} (l : List (Str × β)) (z : Str) (v : β) : (putL l z v).lookup z = some v := by
  unfold putL
  by_cases c : (l.any fun q => decide (q.1 = z)) = true
  · rw [if_pos c]; exact mapL_same z v l c
  · rw [if_neg c]; exact appL_same z v l c
theorem putL_ne {β : Type} {y z : Str} (n : y ≠ z) (l : List (Str × β)) (v : β) : (putL l z v).lookup y = l.lookup y := by
  unfold putL
  by_cases c : (l.any fun q => decide (q.1 = z)) = true
  · rw [if_pos c]; exact mapL_ne n v l
  · rw [if_neg c]; exact appL_ne n v l
theorem putL_len {β : Type} (l : List (Str × β)) (z : Str) (v : β) : (putL l z v).length ≤ l.length + 1 := by
  unfold putL
  by_cases c : (l.any fun q => decide (q.1 = z)) = true
  · rw [if_pos c, List.length_map]; omega
  · rw [if_neg c, List.length_append]; exact Nat.le_refl _
def Scp.nm (s : Scp) (z : Str) (n : Int) : Scp := ⟨putL s.named z n, s.known⟩
def Scp.lb (s : Scp) (z : Str) (w : Wv) : Scp := ⟨s.named, putL s.known z w⟩
inductive Item where
  | into (p : Pg) (sc : Scp)
  | fin (p : Pg) (sc : Scp)
  | turn (p : Pg) (sc : Scp) (at_ turns : Int)
/-- what is left, what is still to be done (the next one first), what the pieces told (the last one first) -/
structure MSt where
  left : Int
  todo : List Item
  done : List Wv
inductive Res where
  | go (s : MSt)
  | many
  | stuck
def tellW (S : MSt) (w : Wv) : Res := .go ⟨S.left, S.todo, w :: S.done⟩
def tellN (S : MSt) (n : Int) : Res := if 10 ^ 60 ≤ n then .many else .go ⟨S.left, S.todo, .int n :: S.done⟩
/-- the programs gone into ahead of all else, in this order -/
def firsts : Pg → List Pg
  | .parts a _ _ _ => [a]
  | .cases a _ _ _ _ => [a]
  | .climb a _ _ _ c => [c, a]
  | p => p.kids
def stepIn (ν : Str → Option Int) (p : Pg) (sc : Scp) (S : MSt) : Res :=
  if S.left ≤ 0 then .many else
  match p with
  | .nothing => tellW ⟨S.left - 1, S.todo, S.done⟩ .none
  | .num n => tellN ⟨S.left - 1, S.todo, S.done⟩ n
  | .name z => match sc.named.lookup z with
    | some n => tellN ⟨S.left - 1, S.todo, S.done⟩ n
    | none => match ν z with
      | some n => tellN ⟨S.left - 1, S.todo, S.done⟩ n
      | none => .stuck
  | .known z _ => match sc.known.lookup z with
    | some w => tellW ⟨S.left - 1, S.todo, S.done⟩ w
    | none => .stuck
  | .lets z k a => tellW ⟨S.left - 1, S.todo, S.done⟩ (.rule (.lets z k a) sc.named sc.known)
  | .for_ z a => tellW ⟨S.left - 1, S.todo, S.done⟩ (.rule (.for_ z a) sc.named sc.known)
  | p => .go ⟨S.left - 1, (firsts p).map (fun a => .into a sc) ++ .fin p sc :: S.todo, S.done⟩
def stepFin (p : Pg) (sc : Scp) (S : MSt) : Res :=
  match p, S.done with
  | .next _, .int r :: d => tellN ⟨S.left, S.todo, d⟩ (r + 1)
  | .plus _ _, .int r :: .int l :: d => tellN ⟨S.left, S.todo, d⟩ (l + r)
  | .times _ _, .int r :: .int l :: d => tellN ⟨S.left, S.todo, d⟩ (l * r)
  | .pair _ _, r :: l :: d => tellW ⟨S.left, S.todo, d⟩ (.pair l r)
  | .first _, .pair a _ :: d => tellW ⟨S.left, S.todo, d⟩ a
  | .second _, .pair _ b :: d => tellW ⟨S.left, S.todo, d⟩ b
  | .this _ _, w :: d => tellW ⟨S.left, S.todo, d⟩ (.this w)
  | .that _ _, w :: d => tellW ⟨S.left, S.todo, d⟩ (.that w)
  | .call _ _, .int n :: .rule (.for_ z a) nm kn :: d => .go ⟨S.left, .into a (Scp.nm ⟨nm, kn⟩ z n) :: S.todo, d⟩
  | .call _ _, w :: .rule (.lets z _ a) nm kn :: d => .go ⟨S.left, .into a (Scp.lb ⟨nm, kn⟩ z w) :: S.todo, d⟩
  | .parts _ x u b, .pair (.int n) w :: d => .go ⟨S.left, .into b ((sc.nm x n).lb u w) :: S.todo, d⟩
  | .cases _ u b _ _, .this w :: d => .go ⟨S.left, .into b (sc.lb u w) :: S.todo, d⟩
  | .cases _ _ _ v c, .that w :: d => .go ⟨S.left, .into c (sc.lb v w) :: S.todo, d⟩
  | .climb a x u b c, w :: .int t :: d => .go ⟨S.left, .turn (.climb a x u b c) sc 0 t :: S.todo, w :: d⟩
  | _, _ => .stuck
def stepTurn (p : Pg) (sc : Scp) (at_ turns : Int) (S : MSt) : Res :=
  if at_ < turns then
    match p, S.done with
    | .climb a x u b c, w :: d => .go ⟨S.left, .into b ((sc.nm x at_).lb u w) :: .turn (.climb a x u b c) sc (at_ + 1) turns :: S.todo, d⟩
    | _, _ => .stuck
  else .go S
def stepI (ν : Str → Option Int) : Item → MSt → Res
  | .into p sc, S => stepIn ν p sc S
  | .fin p sc, S => stepFin p sc S
  | .turn p sc a t, S => stepTurn p sc a t S
/-! ### right states -/
def Named (G : Str → Prop) (named : List (Str × Int)) (s : Sc) : Prop := (∀ y ∈ s.1, (∃ n, named.lookup y = some n) ∨ G y) ∧ ∀ z n, named.lookup z = some n → 0 ≤ n
inductive WTy (G : Str → Prop) : Wv → Kd → Prop
  | none : WTy G .none .none
  | int {n : Int} (h0 : 0 ≤ n) (h1 : n < 10 ^ 60) : WTy G (.int n) .number
  | pair {a b : Wv} {k r : Kd} (ha : WTy G a k) (hb : WTy G b r) : WTy G (.pair a b) (.pair k r)
  | this {a : Wv} {k r : Kd} (ha : WTy G a k) : WTy G (.this a) (.either k r)
  | that {a : Wv} {k r : Kd} (ha : WTy G a r) : WTy G (.that a) (.either k r)
  | lets {z : Str} {k r : Kd} {body : Pg} {named : List (Str × Int)} {known : List (Str × Wv)} {s : Sc} (f : Str × Kd → Wv) (ty : Ty (s.lb z k) body r) (fn : s.Fn) (hn : Named G named s) (hk : ∀ q ∈ s.2, known.lookup q.1 = some (f q)) (hw : ∀ q ∈ s.2, WTy G (f q) q.2) : WTy G (.rule (.lets z k body) named known) (.frm k r)
  | for_ {z : Str} {r : Kd} {body : Pg} {named : List (Str × Int)} {known : List (Str × Wv)} {s : Sc} (f : Str × Kd → Wv) (ty : Ty (s.nm z) body r) (fn : s.Fn) (hn : Named G named s) (hk : ∀ q ∈ s.2, known.lookup q.1 = some (f q)) (hw : ∀ q ∈ s.2, WTy G (f q) q.2) : WTy G (.rule (.for_ z body) named known) (.frm .number r)
structure ScTy (G : Str → Prop) (sc : Scp) (s : Sc) : Prop where
  fn : s.Fn
  n : Named G sc.named s
  k : ∀ q ∈ s.2, ∃ w, sc.known.lookup q.1 = some w ∧ WTy G w q.2
theorem ScTy.nm {G : Str → Prop} {sc : Scp} {s : Sc} (h : ScTy G sc s) (z : Str) {n : Int} (n0 : 0 ≤ n) : ScTy G (sc.nm z n) (s.nm z) := ⟨h.fn.nm z, ⟨fun y m => by
  by_cases c : y = z
  · subst c
    exact .inl ⟨n, putL_same _ _ _⟩
  · rcases h.n.1 y (mem_nm m c) with ⟨k, e⟩ | g
    · exact .inl ⟨k, by show (putL sc.named z n).lookup y = _; rw [putL_ne c]; exact e⟩
    · exact .inr g, fun y k e => by
  by_cases c : y = z
  · subst c
    rw [show (sc.nm y n).named.lookup y = some n from putL_same _ _ _] at e
    cases e
    exact n0
  · rw [show (sc.nm z n).named.lookup y = sc.named.lookup y from putL_ne c _ _] at e
    exact h.n.2 y k e⟩, h.k⟩
theorem ScTy.lb {G : Str → Prop} {sc : Scp} {s : Sc} (h : ScTy G sc s) (z : Str) {w : Wv} {k : Kd} (hw : WTy G w k) : ScTy G (sc.lb z w) (s.lb z k) := ⟨h.fn.lb z k, h.n, fun q m => by
  by_cases c : q.1 = z
  · have e : q = (z, k) := by
      rcases List.mem_cons.mp m with e | m
      · exact e
      · exact absurd c (of_decide_eq_true (List.mem_filter.mp m).2)
    subst e
    exact ⟨w, putL_same _ _ _, hw⟩
  · obtain ⟨v, e, hv⟩ := h.k q (mem_lb m c)
    exact ⟨v, by show (putL sc.known z w).lookup q.1 = _; rw [putL_ne c]; exact e, hv⟩⟩
theorem ScTy.fun_ {G : Str → Prop} {sc : Scp} {s : Sc} (h : ScTy G sc s) : ∃ f : Str × Kd → Wv, (∀ q ∈ s.2, sc.known.lookup q.1 = some (f q)) ∧ ∀ q ∈ s.2, WTy G (f q) q.2 := by
  refine ⟨fun q => (sc.known.lookup q.1).getD .none, fun q m => ?_, fun q m => ?_⟩
  · obtain ⟨w, e, _⟩ := h.k q m
    show sc.known.lookup q.1 = some ((sc.known.lookup q.1).getD .none)
    rw [e]
    rfl
  · obtain ⟨w, e, hw⟩ := h.k q m
    show WTy G ((sc.known.lookup q.1).getD .none) q.2
    rw [e]
    exact hw
/-- what is still to be done makes, of told ones of these kinds (the last one first), one of a kind -/
inductive OkT (G : Str → Prop) : List Item → List Kd → Kd → Prop
  | nil {k : Kd} : OkT G [] [k] k
  | into {p : Pg} {sc : Scp} {s : Sc} {kp k : Kd} {r : List Item} {Γ : List Kd} (ty : Ty s p kp) (hs : ScTy G sc s) (h : OkT G r (kp :: Γ) k) : OkT G (.into p sc :: r) Γ k
  | next {a : Pg} {sc : Scp} {k : Kd} {r : List Item} {Γ : List Kd} (h : OkT G r (.number :: Γ) k) : OkT G (.fin (.next a) sc :: r) (.number :: Γ) k
  | plus {a b : Pg} {sc : Scp} {k : Kd} {r : List Item} {Γ : List Kd} (h : OkT G r (.number :: Γ) k) : OkT G (.fin (.plus a b) sc :: r) (.number :: .number :: Γ) k
  | times {a b : Pg} {sc : Scp} {k : Kd} {r : List Item} {Γ : List Kd} (h : OkT G r (.number :: Γ) k) : OkT G (.fin (.times a b) sc :: r) (.number :: .number :: Γ) k
  | pair {a b : Pg} {sc : Scp} {ka kb k : Kd} {r : List Item} {Γ : List Kd} (h : OkT G r (.pair ka kb :: Γ) k) : OkT G (.fin (.pair a b) sc :: r) (kb :: ka :: Γ) k
  | first {a : Pg} {sc : Scp} {ka kb k : Kd} {r : List Item} {Γ : List Kd} (h : OkT G r (ka :: Γ) k) : OkT G (.fin (.first a) sc :: r) (.pair ka kb :: Γ) k
  | second {a : Pg} {sc : Scp} {ka kb k : Kd} {r : List Item} {Γ : List Kd} (h : OkT G r (kb :: Γ) k) : OkT G (.fin (.second a) sc :: r) (.pair ka kb :: Γ) k
  | this {a : Pg} {sc : Scp} {ka kb k : Kd} {r : List Item} {Γ : List Kd} (h : OkT G r (.either ka kb :: Γ) k) : OkT G (.fin (.this a kb) sc :: r) (ka :: Γ) k
  | that {a : Pg} {sc : Scp} {ka kb k : Kd} {r : List Item} {Γ : List Kd} (h : OkT G r (.either ka kb :: Γ) k) : OkT G (.fin (.that ka a) sc :: r) (kb :: Γ) k
  | call {a b : Pg} {sc : Scp} {ka kb k : Kd} {r : List Item} {Γ : List Kd} (h : OkT G r (kb :: Γ) k) : OkT G (.fin (.call a b) sc :: r) (ka :: .frm ka kb :: Γ) k
  | parts {a b : Pg} {x u : Str} {sc : Scp} {s : Sc} {o kb k : Kd} {r : List Item} {Γ : List Kd} (ty : Ty ((s.nm x).lb u o) b kb) (hs : ScTy G sc s) (h : OkT G r (kb :: Γ) k) : OkT G (.fin (.parts a x u b) sc :: r) (.pair .number o :: Γ) k
  | cases {a b c : Pg} {u v : Str} {sc : Scp} {s : Sc} {ka kb o k : Kd} {r : List Item} {Γ : List Kd} (tb : Ty (s.lb u ka) b o) (tc : Ty (s.lb v kb) c o) (hs : ScTy G sc s) (h : OkT G r (o :: Γ) k) : OkT G (.fin (.cases a u b v c) sc :: r) (.either ka kb :: Γ) k
  | climb {a b c : Pg} {x u : Str} {sc : Scp} {s : Sc} {o k : Kd} {r : List Item} {Γ : List Kd} (tb : Ty ((s.nm x).lb u o) b o) (hs : ScTy G sc s) (h : OkT G r (o :: Γ) k) : OkT G (.fin (.climb a x u b c) sc :: r) (o :: .number :: Γ) k
  | turn {a b c : Pg} {x u : Str} {sc : Scp} {s : Sc} {o k : Kd} {i t : Int} {r : List Item} {Γ : List Kd} (i0 : 0 ≤ i) (t1 : t < 10 ^ 60) (tb : Ty ((s.nm x).lb u o) b o) (hs : ScTy G sc s) (h : OkT G r (o :: Γ) k) : OkT G (.turn (.climb a x u b c) sc i t :: r) (o :: Γ) k
structure MTy (G : Str → Prop) (S : MSt) (k : Kd) : Prop where
  ok : ∃ Γ, OkT G S.todo Γ k ∧ All2 (WTy G) S.done Γ
/-- a step: on, or too many, never stuck -/
def Fine (G : Str → Prop) (k : Kd) : Res → Prop
  | .go S => MTy G S k
  | .many => True
  | .stuck => False
theorem fin_lets {a b : Pg} {sc : Scp} {l : Int} {todo : List Item} {w : Wv} {z : Str} {k : Kd} {body : Pg} {named : List (Str × Int)} {known : List (Str × Wv)} {d : List Wv} : stepFin (.call a b) sc ⟨l, todo, w :: .rule (.lets z k body) named known :: d⟩ = .go ⟨l, .into body (Scp.lb ⟨named, known⟩ z w) :: todo, d⟩ := by cases w <;> rfl
theorem fine_w {G : Str → Prop} {l : Int} {todo : List Item} {done : List Wv} {Γ : List Kd} {k kp : Kd} {w : Wv} (hw : WTy G w kp) (h : OkT G todo (kp :: Γ) k) (hd : All2 (WTy G) done Γ) : Fine G k (tellW ⟨l, todo, done⟩ w) := ⟨_, h, .cons hw hd⟩
theorem fine_n {G : Str → Prop} {l : Int} {todo : List Item} {done : List Wv} {Γ : List Kd} {k : Kd} {n : Int} (h0 : 0 ≤ n) (h : OkT G todo (.number :: Γ) k) (hd : All2 (WTy G) done Γ) : Fine G k (tellN ⟨l, todo, done⟩ n) := by
  unfold tellN
  by_cases c : 10 ^ 60 ≤ n
  · rw [if_pos c]
    trivial
  · rw [if_neg c]
    exact ⟨_, h, .cons (.int h0 (Int.not_le.mp c)) hd⟩
theorem fine_step {G : Str → Prop} {ν : Str → Option Int} (hν : ∀ z, G z → ∃ n, ν z = some n) (hn : ∀ z n, ν z = some n → 0 ≤ n) {it : Item} {l : Int} {todo : List Item} {done : List Wv} {k : Kd} {Γ : List Kd} (h : OkT G (it :: todo) Γ k) (hd : All2 (WTy G) done Γ) : Fine G k (stepI ν it ⟨l, todo, done⟩) := by
  cases h with
  | @into p sc s kp _ _ _ ty hs h =>
    show Fine G k (stepIn ν p sc ⟨l, todo, done⟩)
    unfold stepIn
    by_cases c : l ≤ 0
    · rw [if_pos c]
      trivial
    rw [if_neg c]
    cases ty with
    | nothing => exact fine_w .none h hd
    | num h0 _ => exact fine_n h0 h hd
    | @name _ z hz _ =>
      dsimp only
      cases e : sc.named.lookup z with
      | some n => exact fine_n (hs.n.2 z n e) h hd
      | none =>
        dsimp only
        rcases hs.n.1 z hz with ⟨n, e2⟩ | g
        · rw [e] at e2; cases e2
        · obtain ⟨n, e2⟩ := hν z g
          rw [e2]
          exact fine_n (hn z n e2) h hd
    | @known _ z k1 hz _ _ =>
      dsimp only
      obtain ⟨w, e, hw⟩ := hs.k (z, kp) hz
      rw [show sc.known.lookup z = some w from e]
      exact fine_w hw h hd
    | @lets _ z k1 r a _ _ _ _ ha =>
      obtain ⟨f, f1, f2⟩ := hs.fun_
      exact fine_w (.lets f ha hs.fn hs.n f1 f2) h hd
    | @for_ _ z r a _ _ ha =>
      obtain ⟨f, f1, f2⟩ := hs.fun_
      exact fine_w (.for_ f ha hs.fn hs.n f1 f2) h hd
    | next ha => exact ⟨_, .into ha hs (.next h), hd⟩
    | plus ha hb => exact ⟨_, .into ha hs (.into hb hs (.plus h)), hd⟩
    | times ha hb => exact ⟨_, .into ha hs (.into hb hs (.times h)), hd⟩
    | call ha hb => exact ⟨_, .into ha hs (.into hb hs (.call h)), hd⟩
    | pair _ _ ha hb => exact ⟨_, .into ha hs (.into hb hs (.pair h)), hd⟩
    | first ha => exact ⟨_, .into ha hs (.first h), hd⟩
    | second ha => exact ⟨_, .into ha hs (.second h), hd⟩
    | parts _ _ ha hb => exact ⟨_, .into ha hs (.parts hb hs h), hd⟩
    | this _ ha => exact ⟨_, .into ha hs (.this h), hd⟩
    | that _ ha => exact ⟨_, .into ha hs (.that h), hd⟩
    | cases _ _ ha hb hc => exact ⟨_, .into ha hs (.cases hb hc hs h), hd⟩
    | climb _ _ _ ha hb hc => exact ⟨_, .into hc hs (.into ha hs (.climb hb hs h)), hd⟩
  | next h =>
    cases hd with
    | cons h1 hd =>
    cases h1 with
    | int h0 _ => exact fine_n (by omega) h hd
  | plus h =>
    cases hd with
    | cons h1 hd =>
    cases hd with
    | cons h2 hd =>
    cases h1 with
    | int h0 _ =>
    cases h2 with
    | int h3 _ => exact fine_n (by omega) h hd
  | times h =>
    cases hd with
    | cons h1 hd =>
    cases hd with
    | cons h2 hd =>
    cases h1 with
    | int h0 _ =>
    cases h2 with
    | int h3 _ => exact fine_n (Int.mul_nonneg h3 h0) h hd
  | pair h =>
    cases hd with
    | cons h1 hd =>
    cases hd with
    | cons h2 hd => exact fine_w (.pair h2 h1) h hd
  | first h =>
    cases hd with
    | cons h1 hd =>
    cases h1 with
    | pair ha hb => exact fine_w ha h hd
  | second h =>
    cases hd with
    | cons h1 hd =>
    cases h1 with
    | pair ha hb => exact fine_w hb h hd
  | this h =>
    cases hd with
    | cons h1 hd => exact fine_w (.this h1) h hd
  | that h =>
    cases hd with
    | cons h1 hd => exact fine_w (.that h1) h hd
  | call h =>
    cases hd with
    | @cons w _ _ _ h1 hd =>
    cases hd with
    | cons h2 hd =>
    cases h2 with
    | @lets z _ _ body named known s f ty fn hn hk hw =>
      have hs : ScTy G ⟨named, known⟩ s := ⟨fn, hn, fun q m => ⟨f q, hk q m, hw q m⟩⟩
      show Fine G k (stepFin _ _ _)
      rw [fin_lets]
      exact ⟨_, .into ty (hs.lb z h1) h, hd⟩
    | @for_ z _ body named known s f ty fn hn hk hw =>
      have hs : ScTy G ⟨named, known⟩ s := ⟨fn, hn, fun q m => ⟨f q, hk q m, hw q m⟩⟩
      cases h1 with
      | int h0 h1 => exact ⟨_, .into ty (hs.nm z h0) h, hd⟩
  | parts ty hs h =>
    cases hd with
    | cons h1 hd =>
    cases h1 with
    | pair ha hb =>
    cases ha with
    | int h0 _ => exact ⟨_, .into ty ((hs.nm _ h0).lb _ hb) h, hd⟩
  | cases tb tc hs h =>
    cases hd with
    | cons h1 hd =>
    cases h1 with
    | this ha => exact ⟨_, .into tb (hs.lb _ ha) h, hd⟩
    | that ha => exact ⟨_, .into tc (hs.lb _ ha) h, hd⟩
  | climb tb hs h =>
    cases hd with
    | cons h1 hd =>
    cases hd with
    | cons h2 hd =>
    cases h2 with
    | int h0 h3 => exact ⟨_, .turn (Int.le_refl _) h3 tb hs h, .cons h1 hd⟩
  | @turn a b c x u sc s o _ i t _ Γ i0 t1 tb hs h =>
    show Fine G k (stepTurn _ sc i t ⟨l, todo, done⟩)
    unfold stepTurn
    by_cases lt : i < t
    · rw [if_pos lt]
      cases hd with
      | cons h1 hd => exact ⟨_, .into tb ((hs.nm _ i0).lb _ h1) (.turn (by omega) t1 tb hs h), hd⟩
    · rw [if_neg lt]
      exact ⟨_, h, hd⟩
/-! ### how a run ends -/
inductive Out where
  | told (w : Wv)
  | many
inductive EndsM (ν : Str → Option Int) : Nat → MSt → Out → Prop
  | done {l : Int} {w : Wv} : EndsM ν 0 ⟨l, [], [w]⟩ (.told w)
  | many {l : Int} {it : Item} {r : List Item} {d : List Wv} (h : stepI ν it ⟨l, r, d⟩ = .many) : EndsM ν 1 ⟨l, it :: r, d⟩ .many
  | go {n : Nat} {l : Int} {it : Item} {r : List Item} {d : List Wv} {S : MSt} {o : Out} (h : stepI ν it ⟨l, r, d⟩ = .go S) (e : EndsM ν n S o) : EndsM ν (n + 1) ⟨l, it :: r, d⟩ o
def Res.sh (e : Int) : Res → Res
  | .go S => .go ⟨S.left + e, S.todo, S.done⟩
  | .many => .many
  | .stuck => .stuck
theorem tellN_sh {l e : Int} {t : List Item} {d : List Wv} {n : Int} : tellN ⟨l + e, t, d⟩ n = (tellN ⟨l, t, d⟩ n).sh e := by
  unfold tellN
  by_cases c : 10 ^ 60 ≤ n
  · rw [if_pos c, if_pos c]; rfl
  · rw [if_neg c, if_neg c]; rfl
theorem tellW_sh {l e : Int} {t : List Item} {d : List Wv} {w : Wv} : tellW ⟨l + e, t, d⟩ w = (tellW ⟨l, t, d⟩ w).sh e := rfl
theorem stepFin_sh {p : Pg} {sc : Scp} {l e : Int} {t : List Item} {d : List Wv} : stepFin p sc ⟨l + e, t, d⟩ = (stepFin p sc ⟨l, t, d⟩).sh e := by
  unfold stepFin
  dsimp only
  split <;> first | exact tellN_sh | rfl
theorem stepTurn_sh {p : Pg} {sc : Scp} {i j l e : Int} {t : List Item} {d : List Wv} : stepTurn p sc i j ⟨l + e, t, d⟩ = (stepTurn p sc i j ⟨l, t, d⟩).sh e := by
  unfold stepTurn
  by_cases c : i < j
  · rw [if_pos c, if_pos c]
    dsimp only
    split <;> rfl
  · rw [if_neg c, if_neg c]; rfl
theorem stepIn_sh {ν : Str → Option Int} {p : Pg} {sc : Scp} {l e : Int} {t : List Item} {d : List Wv} (h : 0 < l) (e0 : 0 ≤ e) : stepIn ν p sc ⟨l + e, t, d⟩ = (stepIn ν p sc ⟨l, t, d⟩).sh e := by
  unfold stepIn
  rw [if_neg (show ¬ l + e ≤ 0 by omega), if_neg (show ¬ l ≤ 0 by omega)]
  have x : l + e - 1 = l - 1 + e := by omega
  dsimp only
  rw [x]
  cases p with
  | name z =>
    dsimp only
    cases sc.named.lookup z with
    | some n => exact tellN_sh
    | none =>
      cases ν z with
      | some n => exact tellN_sh
      | none => rfl
  | known z _ =>
    dsimp only
    cases sc.known.lookup z <;> rfl
  | num n => exact tellN_sh
  | _ => rfl
theorem stepI_go {ν : Str → Option Int} {it : Item} {l e : Int} {r : List Item} {d : List Wv} {S : MSt} (e0 : 0 ≤ e) (h : stepI ν it ⟨l, r, d⟩ = .go S) : stepI ν it ⟨l + e, r, d⟩ = .go ⟨S.left + e, S.todo, S.done⟩ := by
  cases it with
  | into p sc =>
    have h : stepIn ν p sc ⟨l, r, d⟩ = .go S := h
    by_cases c : l ≤ 0
    · unfold stepIn at h
      rw [if_pos c] at h
      cases h
    · show stepIn ν p sc ⟨l + e, r, d⟩ = _
      rw [stepIn_sh (by omega) e0, h]; rfl
  | fin p sc =>
    have h : stepFin p sc ⟨l, r, d⟩ = .go S := h
    show stepFin p sc ⟨l + e, r, d⟩ = _
    rw [stepFin_sh, h]; rfl
  | turn p sc i j =>
    have h : stepTurn p sc i j ⟨l, r, d⟩ = .go S := h
    show stepTurn p sc i j ⟨l + e, r, d⟩ = _
    rw [stepTurn_sh, h]; rfl
theorem EndsM.more {ν : Str → Option Int} {n : Nat} {S : MSt} {o : Out} (h : EndsM ν n S o) {w : Wv} (ho : o = .told w) {e : Int} (e0 : 0 ≤ e) : EndsM ν n ⟨S.left + e, S.todo, S.done⟩ (.told w) := by
  induction h with
  | done => cases ho; exact .done
  | many _ => cases ho
  | go h1 _ ih => exact .go (stepI_go e0 h1) (ih ho)
theorem EndsM.det {ν : Str → Option Int} {n m : Nat} {S : MSt} {o o' : Out} (h : EndsM ν n S o) (h' : EndsM ν m S o') : o = o' := by
  induction h generalizing m with
  | done => cases h'; rfl
  | many h1 =>
    cases h' with
    | many _ => rfl
    | go h2 _ => rw [h1] at h2; cases h2
  | go h1 _ ih =>
    cases h' with
    | many h2 => rw [h1] at h2; cases h2
    | go h2 e2 =>
      rw [h1] at h2
      cases h2
      exact ih e2
theorem EndsM.zero {ν : Str → Option Int} {n : Nat} {l : Int} {p : Pg} {sc : Scp} {r : List Item} {d : List Wv} {o : Out} (c : l ≤ 0) (h : EndsM ν n ⟨l, .into p sc :: r, d⟩ o) : o = .many := by
  have e : stepI ν (.into p sc) ⟨l, r, d⟩ = .many := by
    show stepIn ν p sc _ = _
    unfold stepIn
    rw [if_pos c]
  cases h with
  | many _ => rfl
  | go h2 _ => rw [e] at h2; cases h2
/-- numbers that agree where they are asked -/
theorem step_nu {G : Str → Prop} {ν μ : Str → Option Int} (hν : ∀ z, G z → ν z = μ z) {it : Item} {l : Int} {todo : List Item} {done : List Wv} {k : Kd} {Γ : List Kd} (h : OkT G (it :: todo) Γ k) : stepI ν it ⟨l, todo, done⟩ = stepI μ it ⟨l, todo, done⟩ := by
  cases h with
  | @into p sc s kp _ _ _ ty hs h =>
    show stepIn ν p sc ⟨l, todo, done⟩ = stepIn μ p sc ⟨l, todo, done⟩
    unfold stepIn
    by_cases c : l ≤ 0
    · rw [if_pos c, if_pos c]
    rw [if_neg c, if_neg c]
    cases ty with
    | @name _ z hz _ =>
      dsimp only
      cases e : sc.named.lookup z with
      | some n => rfl
      | none =>
        rcases hs.n.1 z hz with ⟨n, e2⟩ | g
        · rw [e] at e2; cases e2
        · rw [hν z g]
    | _ => rfl
  | _ => rfl
theorem EndsM.nu {G : Str → Prop} {ν μ : Str → Option Int} (hν : ∀ z, G z → ν z = μ z) (ex : ∀ z, G z → ∃ n, ν z = some n) (n0 : ∀ z n, ν z = some n → 0 ≤ n) {n : Nat} {S : MSt} {o : Out} (h : EndsM ν n S o) {k : Kd} (m : MTy G S k) : EndsM μ n S o := by
  induction h with
  | done => exact .done
  | many h1 =>
    obtain ⟨Γ, ok, hd⟩ := m.ok
    exact .many ((step_nu hν ok).symm.trans h1)
  | @go _ l _ _ _ _ _ h1 _ ih =>
    obtain ⟨Γ, ok, hd⟩ := m.ok
    have f := fine_step (l := l) ex n0 ok hd
    rw [h1] at f
    exact .go ((step_nu hν ok).symm.trans h1) (ih f)
/-! ### every run ends -/
def wgt : List Item → Nat
  | [] => 0
  | .into _ _ :: r => wgt r
  | .fin _ _ :: r => wgt r + 2
  | .turn _ _ _ _ :: r => wgt r + 1
def flag : List Item → Nat
  | .into _ _ :: _ => 0
  | _ => 1
theorem flag_le (t : List Item) : flag t ≤ 1 := by
  cases t with
  | nil => exact Nat.le_refl _
  | cons a r => cases a <;> simp [flag]
theorem tellN_go {l : Int} {t : List Item} {d : List Wv} {n : Int} {S : MSt} (h : tellN ⟨l, t, d⟩ n = .go S) : S.left = l ∧ S.todo = t := by
  unfold tellN at h
  by_cases c : 10 ^ 60 ≤ n
  · rw [if_pos c] at h; cases h
  · rw [if_neg c] at h; cases h; exact ⟨rfl, rfl⟩
theorem less_fin {p : Pg} {sc : Scp} {l : Int} {r : List Item} {d : List Wv} {S : MSt} (h : stepFin p sc ⟨l, r, d⟩ = .go S) : S.left = l ∧ 2 * wgt S.todo + flag S.todo < 2 * (wgt r + 2) + 1 := by
  have f := flag_le r
  have same : S.left = l ∧ S.todo = r → S.left = l ∧ 2 * wgt S.todo + flag S.todo < 2 * (wgt r + 2) + 1 := fun e => ⟨e.1, by rw [e.2]; omega⟩
  unfold stepFin at h
  dsimp only at h
  split at h
  · exact same (tellN_go h)
  · exact same (tellN_go h)
  · exact same (tellN_go h)
  · cases h; exact same ⟨rfl, rfl⟩
  · cases h; exact same ⟨rfl, rfl⟩
  · cases h; exact same ⟨rfl, rfl⟩
  · cases h; exact same ⟨rfl, rfl⟩
  · cases h; exact same ⟨rfl, rfl⟩
  · cases h; exact ⟨rfl, by simp only [wgt, flag]; omega⟩
  · cases h; exact ⟨rfl, by simp only [wgt, flag]; omega⟩
  · cases h; exact ⟨rfl, by simp only [wgt, flag]; omega⟩
  · cases h; exact ⟨rfl, by simp only [wgt, flag]; omega⟩
  · cases h; exact ⟨rfl, by simp only [wgt, flag]; omega⟩
  · cases h; exact ⟨rfl, by simp only [wgt, flag]; omega⟩
  · cases h
theorem less_turn {p : Pg} {sc : Scp} {i j l : Int} {r : List Item} {d : List Wv} {S : MSt} (h : stepTurn p sc i j ⟨l, r, d⟩ = .go S) : S.left = l ∧ 2 * wgt S.todo + flag S.todo < 2 * (wgt r + 1) + 1 := by
  have f := flag_le r
  unfold stepTurn at h
  by_cases c : i < j
  · rw [if_pos c] at h
    dsimp only at h
    split at h
    · cases h; exact ⟨rfl, by simp only [wgt, flag]; omega⟩
    · cases h
  · rw [if_neg c] at h
    cases h
    exact ⟨rfl, by show 2 * wgt r + flag r < _; omega⟩
theorem wgt_firsts (sc : Scp) (r : List Item) : ∀ (l : List Pg), wgt (l.map (fun a => Item.into a sc) ++ r) = wgt r
  | [] => rfl
  | _ :: l => wgt_firsts sc r l
theorem less_in {ν : Str → Option Int} {p : Pg} {sc : Scp} {l : Int} {r : List Item} {d : List Wv} {S : MSt} (h : stepIn ν p sc ⟨l, r, d⟩ = .go S) : 0 < l ∧ S.left = l - 1 ∧ 2 * wgt S.todo + flag S.todo ≤ 2 * wgt r + 5 := by
  have f := flag_le S.todo
  unfold stepIn at h
  by_cases c : l ≤ 0
  · rw [if_pos c] at h; cases h
  rw [if_neg c] at h
  have same : S.left = l - 1 ∧ S.todo = r → 0 < l ∧ S.left = l - 1 ∧ 2 * wgt S.todo + flag S.todo ≤ 2 * wgt r + 5 := fun e => ⟨by omega, e.1, by rw [e.2] at f ⊢; omega⟩
  have many : ∀ q : Pg, S = ⟨l - 1, (firsts q).map (fun a => .into a sc) ++ .fin q sc :: r, d⟩ → 0 < l ∧ S.left = l - 1 ∧ 2 * wgt S.todo + flag S.todo ≤ 2 * wgt r + 5 := fun q e => by
    subst e
    refine ⟨by omega, rfl, ?_⟩
    have g : wgt ((firsts q).map (fun a => Item.into a sc) ++ .fin q sc :: r) = wgt r + 2 := wgt_firsts sc _ _
    show 2 * wgt ((firsts q).map (fun a => Item.into a sc) ++ .fin q sc :: r) + flag ((firsts q).map (fun a => Item.into a sc) ++ .fin q sc :: r) ≤ _
    rw [g]
    have f : flag ((firsts q).map (fun a => Item.into a sc) ++ .fin q sc :: r) ≤ 1 := f
    omega
  cases p with
  | name z =>
    dsimp only at h
    cases e : sc.named.lookup z with
    | some n => rw [e] at h; exact same (tellN_go h)
    | none =>
      rw [e] at h
      dsimp only at h
      cases e2 : ν z with
      | some n => rw [e2] at h; exact same (tellN_go h)
      | none => rw [e2] at h; cases h
  | known z _ =>
    dsimp only at h
    cases e : sc.known.lookup z with
    | some n => rw [e] at h; cases h; exact same ⟨rfl, rfl⟩
    | none => rw [e] at h; cases h
  | num n => exact same (tellN_go h)
  | nothing => cases h; exact same ⟨rfl, rfl⟩
  | lets z k a => cases h; exact same ⟨rfl, rfl⟩
  | for_ z a => cases h; exact same ⟨rfl, rfl⟩
  | _ => cases h; exact many _ rfl
def mu (S : MSt) : Nat := 9 * S.left.toNat + 2 * wgt S.todo + flag S.todo
theorem less_step {ν : Str → Option Int} {it : Item} {l : Int} {r : List Item} {d : List Wv} {S : MSt} (h : stepI ν it ⟨l, r, d⟩ = .go S) : mu S < mu ⟨l, it :: r, d⟩ := by
  cases it with
  | into p sc =>
    obtain ⟨h1, h2, h3⟩ := less_in h
    show 9 * S.left.toNat + 2 * wgt S.todo + flag S.todo < 9 * l.toNat + 2 * wgt r + 0
    omega
  | fin p sc =>
    obtain ⟨h1, h2⟩ := less_fin h
    show 9 * S.left.toNat + 2 * wgt S.todo + flag S.todo < 9 * l.toNat + 2 * (wgt r + 2) + 1
    rw [h1]
    omega
  | turn p sc i j =>
    obtain ⟨h1, h2⟩ := less_turn h
    show 9 * S.left.toNat + 2 * wgt S.todo + flag S.todo < 9 * l.toNat + 2 * (wgt r + 1) + 1
    rw [h1]
    omega
/-- it ends, after not too many steps -/
def Ended (G : Str → Prop) (ν : Str → Option Int) (k : Kd) (S : MSt) : Prop := ∃ n o, EndsM ν n S o ∧ (∀ w, o = .told w → WTy G w k) ∧ n ≤ mu S + 1
theorem ends_step {G : Str → Prop} {ν : Str → Option Int} (ex : ∀ z, G z → ∃ n, ν z = some n) (n0 : ∀ z n, ν z = some n → 0 ≤ n) {k : Kd} : ∀ {S : MSt}, MTy G S k → (∀ S' : MSt, mu S' < mu S → MTy G S' k → Ended G ν k S') → Ended G ν k S
  | ⟨l, [], d⟩, m, _ => by
    obtain ⟨Γ, ok, hd⟩ := m.ok
    cases ok
    cases hd with
    | @cons w _ d _ h1 hd =>
    cases hd
    exact ⟨0, .told w, .done, (fun w e => by cases e; exact h1), Nat.zero_le _⟩
  | ⟨l, it :: r, d⟩, m, rec => by
    obtain ⟨Γ, ok, hd⟩ := m.ok
    have f := fine_step (l := l) ex n0 ok hd
    cases e : stepI ν it ⟨l, r, d⟩ with
    | many => exact ⟨1, .many, .many e, (fun w e => by cases e), Nat.le_add_left _ _⟩
    | stuck => rw [e] at f; exact f.elim
    | go S' =>
      rw [e] at f
      obtain ⟨n, o, h1, h2, h3⟩ := rec S' (less_step e) f
      exact ⟨n + 1, o, .go e h1, h2, by have := less_step e; omega⟩
theorem ends_ex {G : Str → Prop} {ν : Str → Option Int} (ex : ∀ z, G z → ∃ n, ν z = some n) (n0 : ∀ z n, ν z = some n → 0 ≤ n) {k : Kd} : ∀ (L : Nat) (S : MSt), mu S ≤ L → MTy G S k → Ended G ν k S := by
  intro L
  induction L with
  | zero => exact fun S hl m => ends_step ex n0 m fun S' h _ => absurd h (by omega)
  | succ L ih => exact fun S hl m => ends_step ex n0 m fun S' h m' => ih S' (by omega) m'
/-! ### from the start -/
theorem Ty.strong {s : Sc} {p : Pg} {k : Kd} (h : Ty s p k) : ∀ {s' : Sc}, (∀ y ∈ s.1, y ∈ opn p → y ∈ s'.1) → (∀ q ∈ s.2, q ∈ opk p → q ∈ s'.2) → Ty s' p k := by
  have nm : ∀ {s s' : Sc} {x : Str} {o : List Str}, (∀ y ∈ s.1, y ∈ o.filter (fun y => decide (y ≠ x)) → y ∈ s'.1) → ∀ y ∈ (s.nm x).1, y ∈ o → y ∈ (s'.nm x).1 := fun {s s' x o} h y m mo => by
    by_cases c : y = x
    · subst c; exact List.mem_cons_self
    · exact List.mem_cons_of_mem _ (h y (mem_nm m c) (List.mem_filter.mpr ⟨mo, decide_eq_true c⟩))
  have lb : ∀ {s s' : Sc} {u : Str} {k : Kd} {o : List (Str × Kd)}, (∀ q ∈ s.2, q ∈ o.filter (fun q => decide (q.1 ≠ u)) → q ∈ s'.2) → ∀ q ∈ (s.lb u k).2, q ∈ o → q ∈ (s'.lb u k).2 := fun {s s' u k o} h q m mo => by
    rcases List.mem_cons.mp m with e | m
    · subst e; exact List.mem_cons_self
    · have m2 := List.mem_filter.mp m
      exact List.mem_cons_of_mem _ (List.mem_filter.mpr ⟨h q m2.1 (List.mem_filter.mpr ⟨mo, m2.2⟩), m2.2⟩)
  induction h with
  | nothing => exact fun _ _ => .nothing
  | num h0 h1 => exact fun _ _ => .num h0 h1
  | name h w => exact fun h1 _ => .name (h1 _ h (List.mem_singleton.mpr rfl)) w
  | next _ ih => exact fun h1 h2 => .next (ih h1 h2)
  | plus _ _ i1 i2 => exact fun h1 h2 => .plus (i1 (fun y m o => h1 y m (List.mem_append_left _ o)) fun y m o => h2 y m (List.mem_append_left _ o)) (i2 (fun y m o => h1 y m (List.mem_append_right _ o)) fun y m o => h2 y m (List.mem_append_right _ o))
  | times _ _ i1 i2 => exact fun h1 h2 => .times (i1 (fun y m o => h1 y m (List.mem_append_left _ o)) fun y m o => h2 y m (List.mem_append_left _ o)) (i2 (fun y m o => h1 y m (List.mem_append_right _ o)) fun y m o => h2 y m (List.mem_append_right _ o))
  | known h w ok => exact fun _ h2 => .known (h2 _ h (List.mem_singleton.mpr rfl)) w ok
  | lets w ok k1 k2 _ ih => exact fun h1 h2 => .lets w ok k1 k2 (ih h1 (lb h2))
  | for_ w k2 _ ih => exact fun h1 h2 => .for_ w k2 (ih (nm h1) h2)
  | call _ _ i1 i2 => exact fun h1 h2 => .call (i1 (fun y m o => h1 y m (List.mem_append_left _ o)) fun y m o => h2 y m (List.mem_append_left _ o)) (i2 (fun y m o => h1 y m (List.mem_append_right _ o)) fun y m o => h2 y m (List.mem_append_right _ o))
  | pair k1 k2 _ _ i1 i2 => exact fun h1 h2 => .pair k1 k2 (i1 (fun y m o => h1 y m (List.mem_append_left _ o)) fun y m o => h2 y m (List.mem_append_left _ o)) (i2 (fun y m o => h1 y m (List.mem_append_right _ o)) fun y m o => h2 y m (List.mem_append_right _ o))
  | first _ ih => exact fun h1 h2 => .first (ih h1 h2)
  | second _ ih => exact fun h1 h2 => .second (ih h1 h2)
  | @parts s a b x u o r wx wu _ _ i1 i2 => exact fun {s'} h1 h2 => .parts wx wu (i1 (fun y m o => h1 y m (List.mem_append_left _ o)) fun y m o => h2 y m (List.mem_append_left _ o)) (i2 (s' := (s'.nm x).lb u o) (nm fun y m o => h1 y m (List.mem_append_right _ o)) (lb (s := s.nm x) (s' := s'.nm x) fun y m o => h2 y m (List.mem_append_right _ o)))
  | this ok _ ih => exact fun h1 h2 => .this ok (ih h1 h2)
  | that ok _ ih => exact fun h1 h2 => .that ok (ih h1 h2)
  | cases wu wv _ _ _ i1 i2 i3 => exact fun h1 h2 => .cases wu wv (i1 (fun y m o => h1 y m (List.mem_append_left _ (List.mem_append_left _ o))) fun y m o => h2 y m (List.mem_append_left _ (List.mem_append_left _ o))) (i2 (fun y m o => h1 y m (List.mem_append_left _ (List.mem_append_right _ o))) (lb fun y m o => h2 y m (List.mem_append_left _ (List.mem_append_right _ o)))) (i3 (fun y m o => h1 y m (List.mem_append_right _ o)) (lb fun y m o => h2 y m (List.mem_append_right _ o)))
  | @climb s a b c x u k wx wu kn _ _ _ i1 i2 i3 => exact fun {s'} h1 h2 => .climb wx wu kn (i1 (fun y m o => h1 y m (List.mem_append_left _ (List.mem_append_left _ o))) fun y m o => h2 y m (List.mem_append_left _ (List.mem_append_left _ o))) (i2 (s' := (s'.nm x).lb u k) (nm fun y m o => h1 y m (List.mem_append_left _ (List.mem_append_right _ o))) (lb (s := s.nm x) (s' := s'.nm x) fun y m o => h2 y m (List.mem_append_left _ (List.mem_append_right _ o)))) (i3 (fun y m o => h1 y m (List.mem_append_right _ o)) fun y m o => h2 y m (List.mem_append_right _ o))
/-- the machine at the start -/
def st0 (p : Pg) (l : Int) : MSt := ⟨l, [.into p ⟨[], []⟩], []⟩
theorem st0_ok {p : Pg} {k : Kd} {N : List Str} (ty : Ty (N, []) p k) (l : Int) : MTy (fun z => z ∈ opn p) (st0 p l) k :=
  ⟨[], .into (s := (opn p, [])) (ty.strong (fun _ _ m => m) (fun _ m _ => by cases m)) ⟨fun _ _ _ m _ => by (cases m), ⟨fun _ m => .inr m, fun _ _ e => by (cases e)⟩, fun _ m => by (cases m)⟩ .nil, .nil⟩
/-- how a run from the start ends: there is one end -/
theorem run_ends {p : Pg} {k : Kd} {N : List Str} (ty : Ty (N, []) p k) {ν : Str → Option Int} (ex : ∀ z ∈ opn p, ∃ n, ν z = some n) (n0 : ∀ z n, ν z = some n → 0 ≤ n) (l : Int) : Ended (fun z => z ∈ opn p) ν k (st0 p l) := ends_ex ex n0 _ _ (Nat.le_refl _) (st0_ok ty l)
/-- a run ends so -/
def Ran (ν : Str → Option Int) (p : Pg) (l : Int) (o : Out) : Prop := ∃ n, EndsM ν n (st0 p l) o
theorem Ran.det {ν : Str → Option Int} {p : Pg} {l : Int} {o o' : Out} (h : Ran ν p l o) (h' : Ran ν p l o') : o = o' := h.elim fun _ a => h'.elim fun _ b => a.det b
theorem Ran.more {ν : Str → Option Int} {p : Pg} {l l' : Int} {w : Wv} (h : Ran ν p l (.told w)) (le : l ≤ l') : Ran ν p l' (.told w) := h.elim fun n a => ⟨n, by
  have b := a.more rfl (e := l' - l) (by omega)
  rwa [show (⟨(st0 p l).left + (l' - l), (st0 p l).todo, (st0 p l).done⟩ : MSt) = st0 p l' by show (⟨l + (l' - l), _, _⟩ : MSt) = _; rw [show l + (l' - l) = l' by omega]; rfl] at b⟩
theorem Ran.zero {ν : Str → Option Int} {p : Pg} {l : Int} {o : Out} (h : Ran ν p l o) (c : l ≤ 0) : o = .many := h.elim fun _ a => a.zero c
theorem Ran.nu {p : Pg} {k : Kd} {N : List Str} (ty : Ty (N, []) p k) {ν μ : Str → Option Int} (ex : ∀ z ∈ opn p, ∃ n, ν z = some n) (n0 : ∀ z n, ν z = some n → 0 ≤ n) (hν : ∀ z ∈ opn p, ν z = μ z) {l : Int} {o : Out} (h : Ran ν p l o) : Ran μ p l o := h.elim fun n a => ⟨n, a.nu hν ex n0 (st0_ok ty l)⟩
end Kf
set_option Elab.async false
set_option linter.all false
set_option maxRecDepth 100000
set_option maxHeartbeats 4000000
set_option pp.maxSteps 500
/-! Worths, scopes, the machine in the heap. -/
namespace Kf
open PySem PySem.Spec PyProof.Rows L2 Sx RZ
/-! ### the heap without some places -/
def rem (M : List Addr) (H : Hp) : Hp := fun a => if a ∈ M then none else H a
theorem rem_in {M : List Addr} {H : Hp} : Same (rem M H) H := fun a o e => by
  unfold rem at e
  by_cases c : a ∈ M
  · rw [if_pos c] at e; cases e
  · rwa [if_neg c] at e
theorem rem_same {M : List Addr} {H H' : Hp} (h : Same H H') : Same (rem M H) (rem M H') := fun a o e => by
  unfold rem at e ⊢
  by_cases c : a ∈ M
  · rw [if_pos c] at e; cases e
  · rw [if_neg c] at e ⊢
    exact h a o e
theorem rem_upd {M : List Addr} {H : Hp} {m : Addr} {o : HO} (h : m ∈ M) : rem M (upd H m o) = rem M H := by
  funext a
  unfold rem
  by_cases c : a ∈ M
  · rw [if_pos c, if_pos c]
  · rw [if_neg c, if_neg c, upd_ne (fun e => c (by rw [e]; exact h))]
theorem rem_at {M : List Addr} {H : Hp} {a : Addr} (h : a ∉ M) : rem M H a = H a := if_neg h
/-- places that are all taken -/
def Taken (M : List Addr) (H : Hp) : Prop := ∀ a ∈ M, H a ≠ none
theorem Taken.not {M : List Addr} {H : Hp} (t : Taken M H) {q : Addr} (n : H q = none) : q ∉ M := fun m => t q m n
theorem Taken.same {M : List Addr} {H H' : Hp} (t : Taken M H) (s : Same H H') : Taken M H' := fun a m e => by
  cases e2 : H a with
  | none => exact t a m e2
  | some o => rw [s a o e2] at e; cases e
/-! ### worths -/
def nkI (l : List (Str × Int)) : List (Key × V) := l.map fun q => (Sum.inr q.1, V.int q.2)
def scf (a b : Addr) : List (Str × V) := [("named", .ref a), ("known", .ref b)]
mutual
inductive WvAt (K : PySem.W.Frag) (C : Addr) (B : Nat) (S : Hp) : V → Wv → Prop
  | none : WvAt K C B S .non .none
  | int {n : Int} (h0 : 0 ≤ n) (h1 : n < 10 ^ 60) : WvAt K C B S (.int n) (.int n)
  | pair {q : Addr} {va vb : V} {a b : Wv} (h : S q = some (.tup [va, vb])) (ha : WvAt K C B S va a) (hb : WvAt K C B S vb b) : WvAt K C B S (.ref q) (.pair a b)
  | this {q : Addr} {va : V} {a : Wv} (h : S q = some (.tup [.str "this", va])) (ha : WvAt K C B S va a) : WvAt K C B S (.ref q) (.this a)
  | that {q : Addr} {va : V} {a : Wv} (h : S q = some (.tup [.str "that", va])) (ha : WvAt K C B S va a) : WvAt K C B S (.ref q) (.that a)
  | rule {q s : Addr} {pv : V} {p : Pg} {nm : List (Str × Int)} {kn : List (Str × Wv)} (h : S q = some (.tup [pv, .ref s])) (hp : Dt K S pv (pgD p)) (hs : ScpAt K C B S s nm kn) : WvAt K C B S (.ref q) (.rule p nm kn)
inductive ScpAt (K : PySem.W.Frag) (C : Addr) (B : Nat) (S : Hp) : Addr → List (Str × Int) → List (Str × Wv) → Prop
  | mk {s dx a b : Addr} {nm : List (Str × Int)} {ks : List (Key × V)} {kn : List (Str × Wv)} (h : S s = some (.ins C dx (scf a b))) (ha : S a = some (.dK (nkI nm))) (hb : S b = some (.dK ks)) (hn : nm.length ≤ B) (hl : kn.length ≤ B) (hk : KwAt K C B S ks kn) : ScpAt K C B S s nm kn
inductive KwAt (K : PySem.W.Frag) (C : Addr) (B : Nat) (S : Hp) : List (Key × V) → List (Str × Wv) → Prop
  | nil : KwAt K C B S [] []
  | cons {z : Str} {v : V} {w : Wv} {r : List (Key × V)} {t : List (Str × Wv)} (h : WvAt K C B S v w) (hr : KwAt K C B S r t) : KwAt K C B S ((Sum.inr z, v) :: r) ((z, w) :: t)
end
section
variable {K : PySem.W.Frag} {C : Addr} {B B' : Nat} {S S' : Hp}
mutual
theorem WvAt.keep (s : Same S S') (b : B ≤ B') : ∀ {v : V} {w : Wv}, WvAt K C B S v w → WvAt K C B' S' v w
  | _, _, .none => .none
  | _, _, .int h0 h1 => .int h0 h1
  | _, _, .pair h ha hb => .pair (s _ _ h) (WvAt.keep s b ha) (WvAt.keep s b hb)
  | _, _, .this h ha => .this (s _ _ h) (WvAt.keep s b ha)
  | _, _, .that h ha => .that (s _ _ h) (WvAt.keep s b ha)
  | _, _, .rule h hp hs => .rule (s _ _ h) (hp.keep (tups_same s)) (ScpAt.keep s b hs)
theorem ScpAt.keep (s : Same S S') (b : B ≤ B') : ∀ {q : Addr} {nm : List (Str × Int)} {kn : List (Str × Wv)}, ScpAt K C B S q nm kn → ScpAt K C B' S' q nm kn
  | _, _, _, .mk h ha hb hn hl hk => .mk (s _ _ h) (s _ _ ha) (s _ _ hb) (Nat.le_trans hn b) (Nat.le_trans hl b) (KwAt.keep s b hk)
theorem KwAt.keep (s : Same S S') (b : B ≤ B') : ∀ {ks : List (Key × V)} {kn : List (Str × Wv)}, KwAt K C B S ks kn → KwAt K C B' S' ks kn
  | _, _, .nil => .nil
  | _, _, .cons h hr => .cons (WvAt.keep s b h) (KwAt.keep s b hr)
end
theorem KwAt.len : ∀ {ks : List (Key × V)} {kn : List (Str × Wv)}, KwAt K C B S ks kn → ks.length = kn.length
  | _, _, .nil => rfl
  | _, _, .cons _ hr => congrArg (· + 1) (KwAt.len hr)
theorem KwAt.get {z : Str} : ∀ {ks : List (Key × V)} {kn : List (Str × Wv)}, KwAt K C B S ks kn → ∀ {w : Wv}, kn.lookup z = some w → ∃ v, valV ks (Sum.inr z : Key) = some v ∧ WvAt K C B S v w
  | _, _, .nil, _, e => by cases e
  | _, _, .cons (z := y) (v := v) h hr, w, e => by
    rw [List.lookup_cons] at e
    by_cases c : y = z
    · subst c
      rw [show (y == y) = true from beq_self_eq_true y] at e
      cases e
      exact ⟨v, valV_pos rfl, h⟩
    · rw [show (z == y) = false from beq_eq_false_iff_ne.mpr fun h => c h.symm] at e
      obtain ⟨u, e2, hu⟩ := KwAt.get hr e
      exact ⟨u, by rw [valV_neg (fun h => c (by injection h))]; exact e2, hu⟩
theorem valV_nkI (z : Str) : ∀ l : List (Str × Int), valV (nkI l) (Sum.inr z : Key) = (l.lookup z).map V.int
  | [] => rfl
  | (y, n) :: r => by
    rw [List.lookup_cons]
    by_cases c : y = z
    · subst c
      rw [show (y == y) = true from beq_self_eq_true y]
      exact valV_pos rfl
    · rw [show (z == y) = false from beq_eq_false_iff_ne.mpr fun h => c h.symm]
      show valV ((Sum.inr y, V.int n) :: nkI r) (Sum.inr z : Key) = _
      rw [valV_neg (fun h => c (by injection h))]
      exact valV_nkI z r
theorem any_nkI (l : List (Str × Int)) (z : Str) : ((nkI l).any fun kv => decide (kv.1 = (Sum.inr z : Key))) = l.any fun q => decide (q.1 = z) := by
  unfold nkI
  rw [List.any_map]
  refine congrArg (List.any l) (funext fun q => ?_)
  show decide ((Sum.inr q.1 : Key) = Sum.inr z) = decide (q.1 = z)
  by_cases c : q.1 = z
  · rw [decide_eq_true c, decide_eq_true (by rw [c])]
  · rw [decide_eq_false c, decide_eq_false (fun h => c (by injection h))]
theorem put_nkI (l : List (Str × Int)) (z : Str) (n : Int) : putK (nkI l) (Sum.inr z : Key) (.int n) = nkI (putL l z n) := by
  unfold putK putL
  rw [any_nkI]
  by_cases c : (l.any fun q => decide (q.1 = z)) = true
  · rw [if_pos c, if_pos c]
    unfold nkI
    rw [List.map_map, List.map_map]
    refine List.map_congr_left fun q _ => ?_
    show (if (Sum.inr q.1 : Key) = Sum.inr z then ((Sum.inr q.1 : Key), V.int n) else (Sum.inr q.1, V.int q.2)) = ((Sum.inr (if q.1 = z then (q.1, n) else q).1 : Key), V.int (if q.1 = z then (q.1, n) else q).2)
    by_cases d : q.1 = z
    · rw [if_pos (by rw [d]), if_pos d]
    · rw [if_neg (fun h => d (by injection h)), if_neg d]
  · rw [if_neg c, if_neg c]
    unfold nkI
    rw [List.map_append]
    rfl
theorem KwAt.any {z : Str} : ∀ {ks : List (Key × V)} {kn : List (Str × Wv)}, KwAt K C B S ks kn → (ks.any fun kv => decide (kv.1 = (Sum.inr z : Key))) = kn.any fun q => decide (q.1 = z)
  | _, _, .nil => rfl
  | _, _, .cons (z := y) (v := v) (w := w) (r := r) (t := t) h hr => by
    rw [List.any_cons, List.any_cons, KwAt.any hr]
    refine congrArg (fun b => (b || _)) ?_
    show decide ((Sum.inr y : Key) = Sum.inr z) = decide (y = z)
    by_cases c : y = z
    · rw [decide_eq_true c, decide_eq_true (by rw [c])]
    · rw [decide_eq_false c, decide_eq_false (fun h => c (by injection h))]
theorem KwAt.map {z : Str} {v : V} {w : Wv} (hv : WvAt K C B S v w) : ∀ {ks : List (Key × V)} {kn : List (Str × Wv)}, KwAt K C B S ks kn → KwAt K C B S (ks.map fun kv => if kv.1 = (Sum.inr z : Key) then (kv.1, v) else kv) (kn.map fun q => if q.1 = z then (q.1, w) else q)
  | _, _, .nil => .nil
  | _, _, .cons (z := y) (v := u) (w := x) h hr => by
    show KwAt K C B S ((if (Sum.inr y : Key) = Sum.inr z then ((Sum.inr y : Key), v) else (Sum.inr y, u)) :: _) ((if y = z then (y, w) else (y, x)) :: _)
    by_cases c : y = z
    · rw [if_pos (by rw [c]), if_pos c]
      exact .cons hv (KwAt.map hv hr)
    · rw [if_neg (fun h => c (by injection h)), if_neg c]
      exact .cons h (KwAt.map hv hr)
theorem KwAt.app {z : Str} {v : V} {w : Wv} (hv : WvAt K C B S v w) : ∀ {ks : List (Key × V)} {kn : List (Str × Wv)}, KwAt K C B S ks kn → KwAt K C B S (ks ++ [(Sum.inr z, v)]) (kn ++ [(z, w)])
  | _, _, .nil => .cons hv .nil
  | _, _, .cons h hr => .cons h (KwAt.app hv hr)
theorem KwAt.put {z : Str} {v : V} {w : Wv} (hv : WvAt K C B S v w) {ks : List (Key × V)} {kn : List (Str × Wv)} (h : KwAt K C B S ks kn) : KwAt K C B S (putK ks (Sum.inr z : Key) v) (putL kn z w) := by
  unfold putK putL
  rw [h.any]
  by_cases c : (kn.any fun q => decide (q.1 = z)) = true
  · rw [if_pos c, if_pos c]
    exact KwAt.map hv h
  · rw [if_neg c, if_neg c]
    exact KwAt.app hv h
/-! ### what is still to be done -/
/-- where the acts are -/
structure Acts where
  into : Addr
  turn : Addr
  fin : Pg → Addr
inductive ItAt (K : PySem.W.Frag) (C : Addr) (A : Acts) (B : Nat) (S : Hp) : V → Item → Prop
  | into {q s : Addr} {pv : V} {p : Pg} {sc : Scp} (h : S q = some (.tup [.ref A.into, pv, .ref s])) (hp : Dt K S pv (pgD p)) (hs : ScpAt K C B S s sc.named sc.known) : ItAt K C A B S (.ref q) (.into p sc)
  | fin {q s : Addr} {pv : V} {p : Pg} {sc : Scp} (h : S q = some (.tup [.ref (A.fin p), pv, .ref s])) (hp : Dt K S pv (pgD p)) (hs : ScpAt K C B S s sc.named sc.known) : ItAt K C A B S (.ref q) (.fin p sc)
  | turn {q r s : Addr} {pv : V} {p : Pg} {sc : Scp} {i t : Int} (h : S q = some (.tup [.ref A.turn, pv, .ref r])) (h2 : S r = some (.tup [.ref s, .int i, .int t])) (hp : Dt K S pv (pgD p)) (hs : ScpAt K C B S s sc.named sc.known) : ItAt K C A B S (.ref q) (.turn p sc i t)
theorem ItAt.keep {A : Acts} (s : Same S S') (b : B ≤ B') {v : V} {it : Item} (h : ItAt K C A B S v it) : ItAt K C A B' S' v it := by
  cases h with
  | into h hp hs => exact .into (s _ _ h) (hp.keep (tups_same s)) (hs.keep s b)
  | fin h hp hs => exact .fin (s _ _ h) (hp.keep (tups_same s)) (hs.keep s b)
  | turn h h2 hp hs => exact .turn (s _ _ h) (s _ _ h2) (hp.keep (tups_same s)) (hs.keep s b)
def mf (nv : V) (left : Int) (t d : Addr) : List (Str × V) := [("numbers", nv), ("left", .int left), ("todo", .ref t), ("done", .ref d)]
/-- the machine at m; its lists the other way round -/
structure MIn (K : PySem.W.Frag) (C CM : Addr) (A : Acts) (B : Nat) (H0 H : Hp) (m dx t d : Addr) (nv : V) (ts ds : List V) (S : MSt) : Prop where
  ho : H m = some (.ins CM dx (mf nv S.left t d))
  ht : H t = some (.lst ts.reverse)
  hd : H d = some (.lst ds.reverse)
  it : All2 (ItAt K C A B (rem [m, t, d] H)) ts S.todo
  dn : All2 (WvAt K C B (rem [m, t, d] H)) ds S.done
  td : t ≠ d
  same : Same H0 (rem [m, t, d] H)
  few : S.todo.length ≤ B
  few2 : S.done.length ≤ B
def MAt (K : PySem.W.Frag) (C CM : Addr) (A : Acts) (B : Nat) (H0 H : Hp) (m : Addr) (nv : V) (S : MSt) : Prop := ∃ dx t d ts ds, MIn K C CM A B H0 H m dx t d nv ts ds S
end
end Kf
set_option Elab.async false
set_option linter.all false
set_option maxRecDepth 100000
set_option maxHeartbeats 4000000
set_option pp.maxSteps 500
/-! The machine in the heap as it changes. -/
namespace Kf
open PySem PySem.Spec PyProof.Rows L2 Sx RZ
section
variable {K : PySem.W.Frag} {C CM : Addr} {A : Acts} {B B' : Nat} {H0 H H' : Hp} {m dx t d : Addr} {nv : V} {ts ds : List V} {S : MSt}
theorem MIn.tk (R : MIn K C CM A B H0 H m dx t d nv ts ds S) : Taken [m, t, d] H := fun a h e => by
  rcases List.mem_cons.mp h with rfl | h
  · rw [R.ho] at e; cases e
  rcases List.mem_cons.mp h with rfl | h
  · rw [R.ht] at e; cases e
  · rw [List.mem_singleton.mp h, R.hd] at e; cases e
theorem MIn.mt (R : MIn K C CM A B H0 H m dx t d nv ts ds S) : m ≠ t := fun e => by
  have h := R.ho
  rw [e, R.ht] at h
  cases h
theorem MIn.md (R : MIn K C CM A B H0 H m dx t d nv ts ds S) : m ≠ d := fun e => by
  have h := R.ho
  rw [e, R.hd] at h
  cases h
theorem all2_up {α β : Type} {F G : α → β → Prop} (h : ∀ a b, F a b → G a b) : ∀ {xs : List α} {ys : List β}, All2 F xs ys → All2 G xs ys
  | _, _, .nil => .nil
  | _, _, .cons r t => .cons (h _ _ r) (all2_up h t)
theorem same_trans {A B C : Hp} (h : Same A B) (k : Same B C) : Same A C := fun a o e => k a o (h a o e)
theorem MIn.mono (R : MIn K C CM A B H0 H m dx t d nv ts ds S) (b : B ≤ B') : MIn K C CM A B' H0 H m dx t d nv ts ds S :=
  ⟨R.ho, R.ht, R.hd, all2_up (fun _ _ h => h.keep (fun _ _ e => e) b) R.it, all2_up (fun _ _ h => h.keep (fun _ _ e => e) b) R.dn, R.td, R.same, Nat.le_trans R.few b, Nat.le_trans R.few2 b⟩
theorem MIn.up (R : MIn K C CM A B H0 H m dx t d nv ts ds S) (s : Same H H') : MIn K C CM A B H0 H' m dx t d nv ts ds S :=
  ⟨s _ _ R.ho, s _ _ R.ht, s _ _ R.hd, all2_up (fun _ _ h => h.keep (rem_same s) (Nat.le_refl _)) R.it, all2_up (fun _ _ h => h.keep (rem_same s) (Nat.le_refl _)) R.dn, R.td, same_trans R.same (rem_same s), R.few, R.few2⟩
theorem MIn.setT (R : MIn K C CM A B H0 H m dx t d nv ts ds S) {ts' : List V} {td' : List Item} (h : All2 (ItAt K C A B (rem [m, t, d] H)) ts' td') (f : td'.length ≤ B) : MIn K C CM A B H0 (upd H t (.lst ts'.reverse)) m dx t d nv ts' ds ⟨S.left, td', S.done⟩ := by
  have e : rem [m, t, d] (upd H t (.lst ts'.reverse)) = rem [m, t, d] H := rem_upd (by simp)
  exact ⟨by rw [upd_ne R.mt]; exact R.ho, upd_same, by rw [upd_ne R.td.symm]; exact R.hd, by rw [e]; exact h, by rw [e]; exact R.dn, R.td, by rw [e]; exact R.same, f, R.few2⟩
theorem MIn.setD (R : MIn K C CM A B H0 H m dx t d nv ts ds S) {ds' : List V} {dn' : List Wv} (h : All2 (WvAt K C B (rem [m, t, d] H)) ds' dn') (f : dn'.length ≤ B) : MIn K C CM A B H0 (upd H d (.lst ds'.reverse)) m dx t d nv ts ds' ⟨S.left, S.todo, dn'⟩ := by
  have e : rem [m, t, d] (upd H d (.lst ds'.reverse)) = rem [m, t, d] H := rem_upd (by simp)
  exact ⟨by rw [upd_ne R.md]; exact R.ho, by rw [upd_ne R.td]; exact R.ht, upd_same, by rw [e]; exact R.it, by rw [e]; exact h, R.td, by rw [e]; exact R.same, R.few, f⟩
theorem MIn.setL (R : MIn K C CM A B H0 H m dx t d nv ts ds S) (l : Int) : MIn K C CM A B H0 (upd H m (.ins CM dx (mf nv l t d))) m dx t d nv ts ds ⟨l, S.todo, S.done⟩ := by
  have e : rem [m, t, d] (upd H m (.ins CM dx (mf nv l t d))) = rem [m, t, d] H := rem_upd (by simp)
  exact ⟨upd_same, by rw [upd_ne R.mt.symm]; exact R.ht, by rw [upd_ne R.md.symm]; exact R.hd, by rw [e]; exact R.it, by rw [e]; exact R.dn, R.td, by rw [e]; exact R.same, R.few, R.few2⟩
/-- what stands beside the machine stays -/
def Grow (M : List Addr) (H H' : Hp) : Prop := Same (rem M H) (rem M H')
theorem Grow.refl {M : List Addr} {H : Hp} : Grow M H H := fun _ _ e => e
theorem Grow.trans {M : List Addr} {H H' H2 : Hp} (h : Grow M H H') (k : Grow M H' H2) : Grow M H H2 := same_trans h k
theorem Grow.of {M : List Addr} {H H' : Hp} (s : Same H H') : Grow M H H' := rem_same s
theorem Grow.upd {M : List Addr} {H : Hp} {m : Addr} {o : HO} (h : m ∈ M) : Grow M H (upd H m o) := fun a u e => by rw [rem_upd h]; exact e
/-! ### fields -/
theorem mf_N (nv : V) (l : Int) (t d : Addr) : (mf nv l t d).lookup ("numbers" : Str) = some nv := by
  unfold mf
  rw [List.lookup_cons, beq_self_eq_true]
theorem k_ln : (("left" : Str) == "numbers") = false := by decide +kernel
theorem k_tn : (("todo" : Str) == "numbers") = false := by decide +kernel
theorem k_tl : (("todo" : Str) == "left") = false := by decide +kernel
theorem k_dn : (("done" : Str) == "numbers") = false := by decide +kernel
theorem k_dl : (("done" : Str) == "left") = false := by decide +kernel
theorem k_dt : (("done" : Str) == "todo") = false := by decide +kernel
theorem mf_L (nv : V) (l : Int) (t d : Addr) : (mf nv l t d).lookup ("left" : Str) = some (.int l) := by
  unfold mf
  rw [List.lookup_cons, k_ln, List.lookup_cons, beq_self_eq_true]
theorem mf_T (nv : V) (l : Int) (t d : Addr) : (mf nv l t d).lookup ("todo" : Str) = some (.ref t) := by
  unfold mf
  rw [List.lookup_cons, k_tn, List.lookup_cons, k_tl, List.lookup_cons, beq_self_eq_true]
theorem mf_D (nv : V) (l : Int) (t d : Addr) : (mf nv l t d).lookup ("done" : Str) = some (.ref d) := by
  unfold mf
  rw [List.lookup_cons, k_dn, List.lookup_cons, k_dl, List.lookup_cons, k_dt, List.lookup_cons, beq_self_eq_true]
theorem nbeq {a b : Str} (h : (a == b) = false) : ¬ b = a := fun e => by
  rw [e, beq_self_eq_true] at h
  cases h
theorem mf_put (nv : V) (l l' : Int) (t d : Addr) : putF "left" (.int l') (mf nv l t d) = mf nv l' t d := by
  show (if ("numbers" : Str) = "left" then _ else (("numbers" : Str), nv) :: (if ("left" : Str) = "left" then _ else _)) = _
  rw [if_neg (nbeq k_ln), if_pos rfl]
  rfl
theorem mf_few (nv : V) (l : Int) (t d : Addr) : (mf nv l t d).length < 1000 := by show 4 < 1000; decide
theorem mf_no (nv : V) (l : Int) (t d : Addr) (z : Str) (h : [("numbers" : Str), "left", "todo", "done"].contains z = false) : (mf nv l t d).lookup z = none := by
  have ne : ∀ x ∈ [("numbers" : Str), "left", "todo", "done"], (z == x) = false := fun x hx => by
    cases e : z == x with
    | false => rfl
    | true =>
      rw [List.contains_iff_mem.mpr (by rw [eq_of_beq e]; exact hx)] at h
      cases h
  unfold mf
  rw [List.lookup_cons, ne _ (by simp), List.lookup_cons, ne _ (by simp), List.lookup_cons, ne _ (by simp), List.lookup_cons, ne _ (by simp)]
  rfl
theorem k_kn : (("known" : Str) == "named") = false := by decide +kernel
theorem scf_N (a b : Addr) : (scf a b).lookup ("named" : Str) = some (.ref a) := by
  unfold scf
  rw [List.lookup_cons, beq_self_eq_true]
theorem scf_K (a b : Addr) : (scf a b).lookup ("known" : Str) = some (.ref b) := by
  unfold scf
  rw [List.lookup_cons, k_kn, List.lookup_cons, beq_self_eq_true]
theorem scf_put (a b : Addr) : putF "known" (.ref b) (putF "named" (.ref a) []) = scf a b := by
  show (if ("named" : Str) = "known" then _ else (("named" : Str), V.ref a) :: [(("known" : Str), V.ref b)]) = _
  rw [if_neg (nbeq k_kn)]
  rfl
theorem scf_no (a b : Addr) (z : Str) (h : [("named" : Str), "known"].contains z = false) : (scf a b).lookup z = none := by
  have ne : ∀ x ∈ [("named" : Str), "known"], (z == x) = false := fun x hx => by
    cases e : z == x with
    | false => rfl
    | true =>
      rw [List.contains_iff_mem.mpr (by rw [eq_of_beq e]; exact hx)] at h
      cases h
  unfold scf
  rw [List.lookup_cons, ne _ (by simp), List.lookup_cons, ne _ (by simp)]
  rfl
end
end Kf
set_option Elab.async false
set_option linter.all false
set_option maxRecDepth 100000
set_option maxHeartbeats 8000000
set_option pp.maxSteps 500
/-! The methods of scopes and of the machine. -/
namespace Kf
open PySem PySem.Spec PyProof.Rows L2 Sx RZ
abbrev sScI : Stmt := inClass (top 50) 0
abbrev scIN : List Str := ["self", "named", "known"]
theorem scScI : FnScope scIN ["self", "named", "known"] (defScope sScI) := ⟨rfl, rfl, rfl, by decide +kernel, rfl, by decide +kernel, by decide +kernel⟩
abbrev sWiN : Stmt := inClass (top 50) 1
abbrev wiNN : List Str := ["self", "name", "number", "named"]
theorem scWiN : FnScope wiNN ["self", "name", "number"] (defScope sWiN) := ⟨rfl, rfl, rfl, by decide +kernel, rfl, by decide +kernel, by decide +kernel⟩
abbrev sWiL : Stmt := inClass (top 50) 2
abbrev wiLN : List Str := ["self", "label", "told", "known"]
theorem scWiL : FnScope wiLN ["self", "label", "told"] (defScope sWiL) := ⟨rfl, rfl, rfl, by decide +kernel, rfl, by decide +kernel, by decide +kernel⟩
abbrev sMaI : Stmt := inClass (top 51) 0
abbrev maIN : List Str := ["self", "numbers", "limit"]
theorem scMaI : FnScope maIN ["self", "numbers", "limit"] (defScope sMaI) := ⟨rfl, rfl, rfl, by decide +kernel, rfl, by decide +kernel, by decide +kernel⟩
abbrev sInto : Stmt := inClass (top 51) 1
abbrev intoN : List Str := ["self", "piece", "scope"]
theorem scInto : FnScope intoN ["self", "piece", "scope"] (defScope sInto) := ⟨rfl, rfl, rfl, by decide +kernel, rfl, by decide +kernel, by decide +kernel⟩
abbrev sBehind : Stmt := inClass (top 51) 2
abbrev behindN : List Str := ["self", "act", "piece", "scope"]
theorem scBehind : FnScope behindN ["self", "act", "piece", "scope"] (defScope sBehind) := ⟨rfl, rfl, rfl, by decide +kernel, rfl, by decide +kernel, by decide +kernel⟩
abbrev sStep : Stmt := inClass (top 51) 3
abbrev stepN : List Str := ["self"]
theorem scStep : FnScope stepN ["self"] (defScope sStep) := ⟨rfl, rfl, rfl, by decide +kernel, rfl, by decide +kernel, by decide +kernel⟩
abbrev sTold : Stmt := inClass (top 51) 4
abbrev toldN : List Str := ["self", "told"]
theorem scTold : FnScope toldN ["self", "told"] (defScope sTold) := ⟨rfl, rfl, rfl, by decide +kernel, rfl, by decide +kernel, by decide +kernel⟩
abbrev sTelN : Stmt := inClass (top 51) 5
abbrev telNN : List Str := ["self", "number"]
theorem scTelN : FnScope telNN ["self", "number"] (defScope sTelN) := ⟨rfl, rfl, rfl, by decide +kernel, rfl, by decide +kernel, by decide +kernel⟩
section
variable {P : Program} {w : World} {K : PySem.W.Frag} {mg : Str → Option Value} {base : Heap} {C CM : Addr} {A : Acts} {f fI fJ TMa : Addr} {fd dI dJ : FuncData} {t0 : Tok}
/-- X(), X an own exception class without own __init__ -/
theorem pmk_own0 {X : Cx} {C : Addr} {bmB : List Value} {B newId initId : String} {x : Str} {p pos : Pos} (F : ExcBaseFacts B newId initId bmB) (isC : PySem.W.excIn X.K C bmB newId = true) (at_ : X.mg x = some (.ref C)) (kept : PySem.W.keepIn X.K (.ref C) = true) (can : Raises X (.ref C)) (gl : Gl X x)
    (nd : (x == ("__debug__" : Str)) = false := by decide) : PMk X (.Call (.Name x p) [] [] pos) (fun _ H Q => Q (.ref C) none H) := by
  intro pins s σ H Q I told
  refine wpAny_Call_Name_kw (ld_glob I gl at_ (PySem.W.callWith_K0 (first := []) I.kIn kept ?_) nd)
  obtain ⟨bm, N, nm, qn, bs, hdct, sn, sub, ab, col, dd, k0, k1, k2, k3, k5, mN, hC, hN, hni, T⟩ := exc_obj I.kIn isC
  exact wpAny_call_exc_subT F T hC hN hni (fun h' e made => mk_of I made can told (I.hok.gone made.new)) (by decide)
/-- the module's TooMany -/
structure Many (K : PySem.W.Frag) (mg : Str → Option Value) (TM : Addr) : Prop where
  isC : ∃ bm nw ini, PySem.W.excIn K TM bm nw = true ∧ ExcBaseFacts "ValueError" nw ini bm
  at_ : mg "TooMany" = some (.ref TM)
  kept : PySem.W.keepIn K (.ref TM) = true
  sub : PySem.W.subIn K (.ref TM) (.type "BaseException") = some true
  ty : PySem.W.typeIn K (.ref TM) = some (.type "type")
/-! ### scopes -/
def spScI (C : Addr) : Sp := fun vs H Q _ => ∃ (p dx a b : Addr), vs = [.ref p, .ref a, .ref b] ∧ H p = some (.ins C dx []) ∧ ∀ H', H' p = some (.ins C dx (scf a b)) → (∀ q, q ≠ p → H' q = H q) → Q .non H'
structure ScC (K : PySem.W.Frag) (mg : Str → Option Value) (C : Addr) : Prop where
  cl : Cls K C
  nN : NoAttr K C "named"
  nK : NoAttr K C "known"
  mC : mg "Scope" = some (.ref C)
  zDict : mg "dict" = none
theorem ok_scI (F : Fun K "__init__" "Scope.__init__" sScI f fd) (T : ScC K mg C) : FnOk P w K mg base CX0 1 f fd ["self", "named", "known"] (spScI C) := by
  refine F.ok scScI (fun vs H Q E h => ?_) (fun cdv A outer s H vs Q E hr h => ?_)
  · obtain ⟨p, dx, a, b, rfl, _⟩ := h
    rfl
  obtain ⟨p, dx, a, b, rfl, hp, q⟩ := h
  refine ⟨_, (pss_cons (ps_fld (pv 0) (pv 1) rfl)
    (pss_one (ps_fld (pv 0) (pv 2) rfl))), ?_⟩
  refine ⟨_, rfl, _, rfl, p, C, dx, [], rfl, hp, T.cl, T.nN, (by show 0 < 1000; decide), ?_⟩
  refine ⟨_, rfl, _, rfl, p, C, dx, _, rfl, upd_same, T.cl, T.nK, (by show 1 < 1000; decide), ?_⟩
  rw [scf_put]
  exact q _ upd_same fun q n => by rw [upd_ne n, upd_ne n]
structure ScM (P : Program) (w : World) (K : PySem.W.Frag) (mg : Str → Option Value) (base : Heap) (C fI : Addr) (dI : FuncData) : Prop extends ScC K mg C where
  made : Mk K C fI
  ini : FnOk P w K mg base CX0 1 fI dI ["self", "named", "known"] (spScI C)
  bI : L2.Binds K dI ["self", "named", "known"] []
/-- a scope from two dicts -/
theorem made_scope {H H' : Hp} {M : List Addr} {B : Nat} {q dx a b : Addr} {nm : List (Str × Int)} {ks : List (Key × V)} {kn : List (Str × Wv)} (tk : Taken M H) (ha : rem M H a = some (.dK (nkI nm))) (hb : rem M H b = some (.dK ks)) (hn : nm.length ≤ B) (hl : kn.length ≤ B) (hk : KwAt K C B (rem M H) ks kn)
    (nq : H q = none) (nd : H dx = none) (ne : dx ≠ q) (h1 : H' q = some (.ins C dx (scf a b))) (h2 : ∀ x, x ≠ q → H' x = upd (upd H dx (.own q)) q (.ins C dx []) x) : Same H H' ∧ ScpAt K C B (rem M H') q nm kn := by
  have s : Same H H' := fun x o e => by
    have n1 : x ≠ q := ne_of_none e nq
    have n2 : x ≠ dx := ne_of_none e nd
    rw [h2 x n1, upd_ne n1, upd_ne n2]
    exact e
  exact ⟨s, .mk (by rw [rem_at (tk.not nq)]; exact h1) (rem_same s _ _ ha) (rem_same s _ _ hb) hn hl (hk.keep (rem_same s) (Nat.le_refl _))⟩
def spWiN (K : PySem.W.Frag) (C : Addr) : Sp := fun vs H Q _ => ∃ (M : List Addr) (B : Nat) (s : Addr) (sc : Scp) (z : Str) (n : Int), vs = [.ref s, .str z, .int n] ∧ Taken M H ∧ ScpAt K C B (rem M H) s sc.named sc.known ∧ B < sizeLine ∧
  ∀ s' H', Same H H' → ScpAt K C (B + 1) (rem M H') s' (sc.nm z n).named (sc.nm z n).known → Q (.ref s') H'
theorem ok_wiN (F : Fun K "with_name" "Scope.with_name" sWiN f fd) (T : ScM P w K mg base C fI dI) : FnOk P w K mg base CX0 3 f fd ["self", "name", "number"] (spWiN K C) := by
  refine F.ok scWiN (fun vs H Q E h => ?_) (fun cdv A outer s H vs Q E hr h => ?_)
  · obtain ⟨M, B, s, sc, z, n, rfl, _⟩ := h
    rfl
  have h2 : Room (1 + 1) _ := hr
  have u1 : (A.deeper (envOfC "Scope.with_name" (defScope sWiN) s.heap.objs.size f cdv)).units + 1 < cLine := by
    have := hr.units
    omega
  obtain ⟨M, B, s, sc, z, n, rfl, tk, hs, lt, q⟩ := h
  obtain ⟨named, known⟩ := sc
  cases hs with
  | @mk _ dx a b _ ks _ e ha hb hn hl hk =>
  have hn : named.length ≤ B := hn
  have hl : known.length ≤ B := hl
  refine ⟨_, (pss_cons (ps_set (i := 3) scWiN.nd rfl (.inl rfl) (pe_callTy call_dictD (by rfl) T.zDict (by decide +kernel) (pa_cons (pe_fld (pv 0) rfl) pa_nil)))
    (pss_cons (ps_dput u1 (pv 3) (pv 1) (pv 2) rfl)
    (pss_one (ps_ret (pe_make T.made T.ini h2 (by rfl) T.mC T.bI .nil pass0 (pa_cons (pv 3) (pa_cons (pe_fld (pv 0) rfl) pa_nil))))))), ?_⟩
  refine ⟨_, rfl, s, C, dx, _, _, rfl, rem_in _ _ e, T.cl, T.nN, scf_N _ _, a, _, rfl, .inl (rem_in _ _ ha), fun p np => ?_⟩
  have s1 := same_new (o := HO.dK (nkI named)) np
  refine ⟨_, rfl, _, rfl, _, rfl, p, _, rfl, DPut.k (k := Sum.inr z) upd_same (by show (named.map _).length < _; rw [List.length_map]; omega), ?_⟩
  rw [put_nkI]
  have s2 : Same H (upd (upd H p (.dK (nkI named))) p (.dK (nkI (putL named z n)))) := same_own s1 np
  refine ⟨_, rfl, _, rfl, s, C, dx, _, _, rfl, s2 _ _ (rem_in _ _ e), T.cl, T.nK, scf_K _ _, fun x dx2 nx nd ne => ⟨x, dx2, p, b, rfl, upd_same, fun H' e1 e2 => ⟨rfl, ?_⟩⟩⟩
  have tk2 := tk.same s2
  have ll := putL_len named z n
  obtain ⟨s3, r⟩ := made_scope (B := B + 1) (nm := putL named z n) (kn := known) tk2 (by rw [rem_at (tk.not np)]; exact upd_same) (rem_same s2 _ _ hb) (by omega) (by omega) (hk.keep (rem_same s2) (by omega)) nx nd ne e1 e2
  exact q x H' (same_trans s2 s3) r
def spWiL (K : PySem.W.Frag) (C : Addr) : Sp := fun vs H Q _ => ∃ (M : List Addr) (B : Nat) (s : Addr) (sc : Scp) (z : Str) (v : V) (x : Wv), vs = [.ref s, .str z, v] ∧ Taken M H ∧ ScpAt K C B (rem M H) s sc.named sc.known ∧ WvAt K C B (rem M H) v x ∧ B < sizeLine ∧
  ∀ s' H', Same H H' → ScpAt K C (B + 1) (rem M H') s' (sc.lb z x).named (sc.lb z x).known → Q (.ref s') H'
theorem ok_wiL (F : Fun K "with_label" "Scope.with_label" sWiL f fd) (T : ScM P w K mg base C fI dI) : FnOk P w K mg base CX0 3 f fd ["self", "label", "told"] (spWiL K C) := by
  refine F.ok scWiL (fun vs H Q E h => ?_) (fun cdv A outer s H vs Q E hr h => ?_)
  · obtain ⟨M, B, s, sc, z, v, x, rfl, _⟩ := h
    rfl
  have h2 : Room (1 + 1) _ := hr
  have u1 : (A.deeper (envOfC "Scope.with_label" (defScope sWiL) s.heap.objs.size f cdv)).units + 1 < cLine := by
    have := hr.units
    omega
  obtain ⟨M, B, s, sc, z, v, wv, rfl, tk, hs, hv, lt, q⟩ := h
  obtain ⟨named, known⟩ := sc
  cases hs with
  | @mk _ dx a b _ ks _ e ha hb hn hl hk =>
  have hn : named.length ≤ B := hn
  have hl : known.length ≤ B := hl
  refine ⟨_, (pss_cons (ps_set (i := 3) scWiL.nd rfl (.inl rfl) (pe_callTy call_dictD (by rfl) T.zDict (by decide +kernel) (pa_cons (pe_fld (pv 0) rfl) pa_nil)))
    (pss_cons (ps_dput u1 (pv 3) (pv 1) (pv 2) rfl)
    (pss_one (ps_ret (pe_make T.made T.ini h2 (by rfl) T.mC T.bI .nil pass0 (pa_cons (pe_fld (pv 0) rfl) (pa_cons (pv 3) pa_nil))))))), ?_⟩
  refine ⟨_, rfl, s, C, dx, _, _, rfl, rem_in _ _ e, T.cl, T.nK, scf_K _ _, b, _, rfl, .inl (rem_in _ _ hb), fun p np => ?_⟩
  have s1 := same_new (o := HO.dK ks) np
  refine ⟨_, rfl, _, rfl, _, rfl, p, _, rfl, DPut.k (k := Sum.inr z) upd_same (by rw [hk.len]; omega), ?_⟩
  have s2 : Same H (upd (upd H p (.dK ks)) p (.dK (putK ks (Sum.inr z) v))) := same_own s1 np
  refine ⟨_, rfl, s, C, dx, _, _, rfl, s2 _ _ (rem_in _ _ e), T.cl, T.nN, scf_N _ _, _, rfl, fun x dx2 nx nd ne => ⟨x, dx2, a, p, rfl, upd_same, fun H' e1 e2 => ⟨rfl, ?_⟩⟩⟩
  have tk2 := tk.same s2
  have ll := putL_len known z wv
  have k2 : KwAt K C (B + 1) (rem M (upd (upd H p (.dK ks)) p (.dK (putK ks (Sum.inr z) v)))) (putK ks (Sum.inr z) v) (putL known z wv) := ((hk.put hv).keep (rem_same s2) (by omega))
  obtain ⟨s3, r⟩ := made_scope (B := B + 1) (nm := named) (kn := putL known z wv) tk2 (rem_same s2 _ _ ha) (by rw [rem_at (tk.not np)]; exact upd_same) (by omega) (by omega) k2 nx nd ne e1 e2
  exact q x H' (same_trans s2 s3) r
/-! ### the machine -/
theorem decT {p : Prop} [Decidable p] {A B : Prop} (h : p) (a : A) : if decide p = true then A else B := by
  rw [if_pos (decide_eq_true h)]
  exact a
theorem decF {p : Prop} [Decidable p] {A B : Prop} (h : ¬ p) (b : B) : if decide p = true then A else B := by
  rw [if_neg (by rw [decide_eq_false h]; exact Bool.false_ne_true)]
  exact b
theorem three_le : 3 ≤ sizeLine := by decide
theorem MIn.push {B : Nat} {H0 H1 H : Hp} {m dx t d : Addr} {nv : V} {ts ds : List V} {S : MSt} (R : MIn K C CM A B H0 H1 m dx t d nv ts ds S) {v : V} {x : Item} (it : ItAt K C A B (rem [m, t, d] H1) v x) (lt : B < sizeLine) {Q : VK}
    (q : ∀ ts' H', Grow [m, t, d] H H' → MIn K C CM A (B + 1) H0 H' m dx t d nv ts' ds ⟨S.left, x :: S.todo, S.done⟩ → Q .non H') (g : Grow [m, t, d] H H1) : rAppend (.ref t) [v] H1 Q := by
  have few : S.todo.length ≤ B := R.few
  refine ⟨t, _, _, rfl, rfl, R.ht, by rw [List.length_reverse, R.it.len]; omega, ?_⟩
  rw [← List.reverse_cons]
  exact q (v :: ts) _ (g.trans (Grow.upd (by simp))) ((R.mono (Nat.le_succ B)).setT (.cons (it.keep (fun _ _ e => e) (Nat.le_succ B)) (all2_up (fun _ _ h => h.keep (fun _ _ e => e) (Nat.le_succ B)) R.it)) (by show S.todo.length + 1 ≤ B + 1; omega))
theorem MIn.told {B : Nat} {H0 H : Hp} {m dx t d : Addr} {nv : V} {ts ds : List V} {S : MSt} (R : MIn K C CM A B H0 H m dx t d nv ts ds S) {v : V} {x : Wv} (hv : WvAt K C B (rem [m, t, d] H) v x) (lt : B < sizeLine) {Q : VK}
    (q : ∀ H', Grow [m, t, d] H H' → MIn K C CM A (B + 1) H0 H' m dx t d nv ts (v :: ds) ⟨S.left, S.todo, x :: S.done⟩ → Q .non H') : rAppend (.ref d) [v] H Q := by
  have few : S.done.length ≤ B := R.few2
  refine ⟨d, _, _, rfl, rfl, R.hd, by rw [List.length_reverse, R.dn.len]; omega, ?_⟩
  rw [← List.reverse_cons]
  exact q _ (Grow.upd (by simp)) ((R.mono (Nat.le_succ B)).setD (.cons (hv.keep (fun _ _ e => e) (Nat.le_succ B)) (all2_up (fun _ _ h => h.keep (fun _ _ e => e) (Nat.le_succ B)) R.dn)) (by show S.done.length + 1 ≤ B + 1; omega))
structure MaC (K : PySem.W.Frag) (mg : Str → Option Value) (CM : Addr) (A : Acts) (t0 : Tok) : Prop where
  cl : Cls K CM
  nN : NoAttr K CM "numbers"
  nL : NoAttr K CM "left"
  nT : NoAttr K CM "todo"
  nD : NoAttr K CM "done"
  mC : mg "Machine" = some (.ref CM)
  mTG : mg "TOO_GREAT" = some (.int (10 ^ 60) t0)
  mGo : mg "go_into" = some (.ref A.into)
def spInto (K : PySem.W.Frag) (C CM : Addr) (A : Acts) : Sp := fun vs H Q _ => ∃ (B : Nat) (H0 : Hp) (m dx t d : Addr) (nv : V) (ts ds : List V) (S : MSt) (vp : V) (s : Addr) (p : Pg) (sc : Scp), vs = [.ref m, vp, .ref s] ∧ MIn K C CM A B H0 H m dx t d nv ts ds S ∧ Dt K (rem [m, t, d] H) vp (pgD p) ∧ ScpAt K C B (rem [m, t, d] H) s sc.named sc.known ∧ B < sizeLine ∧
  ∀ ts' H', Grow [m, t, d] H H' → MIn K C CM A (B + 1) H0 H' m dx t d nv ts' ds ⟨S.left, .into p sc :: S.todo, S.done⟩ → Q .non H'
theorem ok_into (F : Fun K "into" "Machine.into" sInto f fd) (T : MaC K mg CM A t0) : FnOk P w K mg base CX0 1 f fd ["self", "piece", "scope"] (spInto K C CM A) := by
  refine F.ok scInto (fun vs H Q E h => ?_) (fun cdv Ar outer s H vs Q E hr h => ?_)
  · obtain ⟨B, H0, m, dx, t, d, nv, ts, ds, S, vp, s, p, sc, rfl, _⟩ := h
    rfl
  obtain ⟨B, H0, m, dx, t, d, nv, ts, ds, S, vp, s, p, sc, rfl, R, hp, hs, lt, q⟩ := h
  refine ⟨_, (pss_one (ps_expr (pe_bm PySem.F.plainAttrs_list PySem.F.slot_list_append PySem.F.type_list_append mt_append (pe_fld (pv 0) rfl) (pa_cons (pe_tup (pa_cons (pe_glob (v := .ref A.into) (by rfl) T.mGo rfl) (pa_cons (pv 1) (pa_cons (pv 2) pa_nil)))) pa_nil)))), ?_⟩
  refine ⟨_, rfl, m, CM, dx, _, _, rfl, R.ho, T.cl, T.nT, mf_T _ _ _ _, .inl ⟨rfl, _, .inl (.inl R.ht)⟩, _, rfl, _, rfl, three_le, fun q1 nq => ?_⟩
  have s1 := same_new (o := HO.tup [.ref A.into, vp, .ref s]) nq
  have R1 := R.up s1
  have it : ItAt K C A B (rem [m, t, d] (upd H q1 (.tup [.ref A.into, vp, .ref s]))) (.ref q1) (.into p sc) := .into (by rw [rem_at (R.tk.not nq)]; exact upd_same) (hp.keep (tups_same (rem_same s1))) (hs.keep (rem_same s1) (Nat.le_refl _))
  exact R1.push it lt q (Grow.of s1)
def spBehind (K : PySem.W.Frag) (C CM : Addr) (A : Acts) : Sp := fun vs H Q _ => ∃ (B : Nat) (H0 : Hp) (m dx t d : Addr) (nv : V) (ts ds : List V) (S : MSt) (va vp vs' : V) (x : Item), vs = [.ref m, va, vp, vs'] ∧ MIn K C CM A B H0 H m dx t d nv ts ds S ∧ (∀ q H', Grow [m, t, d] H H' → rem [m, t, d] H' q = some (.tup [va, vp, vs']) → ItAt K C A B (rem [m, t, d] H') (.ref q) x) ∧ B < sizeLine ∧
  ∀ ts' H', Grow [m, t, d] H H' → MIn K C CM A (B + 1) H0 H' m dx t d nv ts' ds ⟨S.left, x :: S.todo, S.done⟩ → Q .non H'
theorem ok_behind (F : Fun K "behind" "Machine.behind" sBehind f fd) (T : MaC K mg CM A t0) : FnOk P w K mg base CX0 1 f fd ["self", "act", "piece", "scope"] (spBehind K C CM A) := by
  refine F.ok scBehind (fun vs H Q E h => ?_) (fun cdv Ar outer s H vs Q E hr h => ?_)
  · obtain ⟨B, H0, m, dx, t, d, nv, ts, ds, S, va, vp, s, x, rfl, _⟩ := h
    rfl
  obtain ⟨B, H0, m, dx, t, d, nv, ts, ds, S, va, vp, s, x, rfl, R, hx, lt, q⟩ := h
  refine ⟨_, (pss_one (ps_expr (pe_bm PySem.F.plainAttrs_list PySem.F.slot_list_append PySem.F.type_list_append mt_append (pe_fld (pv 0) rfl) (pa_cons (pe_tup (pa_cons (pv 1) (pa_cons (pv 2) (pa_cons (pv 3) pa_nil)))) pa_nil)))), ?_⟩
  refine ⟨_, rfl, m, CM, dx, _, _, rfl, R.ho, T.cl, T.nT, mf_T _ _ _ _, .inl ⟨rfl, _, .inl (.inl R.ht)⟩, _, rfl, _, rfl, _, rfl, three_le, fun q1 nq => ?_⟩
  have s1 := same_new (o := HO.tup [va, vp, s]) nq
  have R1 := R.up s1
  have it : ItAt K C A B (rem [m, t, d] (upd H q1 (.tup [va, vp, s]))) (.ref q1) x := hx q1 _ (Grow.of s1) (by rw [rem_at (R.tk.not nq)]; exact upd_same)
  exact R1.push it lt q (Grow.of s1)
def spStep (K : PySem.W.Frag) (C CM : Addr) (A : Acts) (TMa : Addr) : Sp := fun vs H Q E => ∃ (B : Nat) (H0 : Hp) (m dx t d : Addr) (nv : V) (ts ds : List V) (S : MSt), vs = [.ref m] ∧ MIn K C CM A B H0 H m dx t d nv ts ds S ∧
  (S.left ≤ 0 → ∀ H', Same H0 H' → E (.ref TMa) none H') ∧ (0 < S.left → ∀ H', Grow [m, t, d] H H' → MIn K C CM A B H0 H' m dx t d nv ts ds ⟨S.left - 1, S.todo, S.done⟩ → Q .non H')
theorem ok_step (F : Fun K "step" "Machine.step" sStep f fd) (T : MaC K mg CM A t0) (TM : Many K mg TMa) : FnOk P w K mg base (L2.CX P w) 1 f fd ["self"] (spStep K C CM A TMa) := by
  obtain ⟨bm, nw, ini, isC, FB⟩ := TM.isC
  refine F.okX scStep (fun vs H Q E h => ?_) (fun cdv Ar outer s H vs Q E hr h => ?_)
  · obtain ⟨B, H0, m, dx, t, d, nv, ts, ds, S, rfl, _⟩ := h
    rfl
  obtain ⟨B, H0, m, dx, t, d, nv, ts, ds, S, rfl, R, qe, qn⟩ := h
  refine ⟨_, (pss_cons (ps_if (pt_cmpR op_le (pe_fld (pv 0) rfl) pe_int (nomark _)) (pss_one (ps_raise rfl (takes_of rfl rfl rfl rfl) (pmk_own0 FB isC TM.at_ TM.kept (raises_own TM.sub TM.ty) (by rfl)))) pss_nil)
    (pss_one (ps_fldaug (pv 0) pe_int in_sub))), ?_⟩
  refine ⟨_, rfl, m, CM, dx, _, _, rfl, R.ho, T.cl, T.nL, mf_L _ _ _ _, _, _, rfl, rfl, _, rfl, ?_⟩
  by_cases c : S.left ≤ 0
  · exact decT c (qe c _ (same_trans R.same rem_in))
  · refine decF c ?_
    refine ⟨_, rfl, m, CM, dx, _, _, rfl, R.ho, T.cl, T.nL, mf_L _ _ _ _, _, _, rfl, rfl, dx, _, R.ho, mf_few _ _ _ _, ?_⟩
    rw [mf_put]
    exact qn (by omega) _ (Grow.upd (by simp)) (R.setL _)
def spTellM (K : PySem.W.Frag) (C CM : Addr) (A : Acts) : Sp := fun vs H Q _ => ∃ (B : Nat) (H0 : Hp) (m dx t d : Addr) (nv : V) (ts ds : List V) (S : MSt) (v : V) (x : Wv), vs = [.ref m, v] ∧ MIn K C CM A B H0 H m dx t d nv ts ds S ∧ WvAt K C B (rem [m, t, d] H) v x ∧ B < sizeLine ∧
  ∀ H', Grow [m, t, d] H H' → MIn K C CM A (B + 1) H0 H' m dx t d nv ts (v :: ds) ⟨S.left, S.todo, x :: S.done⟩ → Q .non H'
theorem ok_tell (F : Fun K "tell" "Machine.tell" sTold f fd) (T : MaC K mg CM A t0) : FnOk P w K mg base CX0 1 f fd ["self", "told"] (spTellM K C CM A) := by
  refine F.ok scTold (fun vs H Q E h => ?_) (fun cdv Ar outer s H vs Q E hr h => ?_)
  · obtain ⟨B, H0, m, dx, t, d, nv, ts, ds, S, v, x, rfl, _⟩ := h
    rfl
  obtain ⟨B, H0, m, dx, t, d, nv, ts, ds, S, v, x, rfl, R, hv, lt, q⟩ := h
  refine ⟨_, (pss_one (ps_expr (pe_bm PySem.F.plainAttrs_list PySem.F.slot_list_append PySem.F.type_list_append mt_append (pe_fld (pv 0) rfl) (pa_cons (pv 1) pa_nil)))), ?_⟩
  refine ⟨_, rfl, m, CM, dx, _, _, rfl, R.ho, T.cl, T.nD, mf_D _ _ _ _, .inl ⟨rfl, _, .inl (.inl R.hd)⟩, _, rfl, ?_⟩
  exact R.told hv lt q
def spTellNM (K : PySem.W.Frag) (C CM : Addr) (A : Acts) (TMa : Addr) : Sp := fun vs H Q E => ∃ (B : Nat) (H0 : Hp) (m dx t d : Addr) (nv : V) (ts ds : List V) (S : MSt) (n : Int), vs = [.ref m, .int n] ∧ MIn K C CM A B H0 H m dx t d nv ts ds S ∧ B < sizeLine ∧ 0 ≤ n ∧
  (10 ^ 60 ≤ n → ∀ H', Same H0 H' → E (.ref TMa) none H') ∧ (n < 10 ^ 60 → ∀ H', Grow [m, t, d] H H' → MIn K C CM A (B + 1) H0 H' m dx t d nv ts (.int n :: ds) ⟨S.left, S.todo, .int n :: S.done⟩ → Q .non H')
theorem ok_tellN (F : Fun K "tell_number" "Machine.tell_number" sTelN f fd) (T : MaC K mg CM A t0) (TM : Many K mg TMa) : FnOk P w K mg base (L2.CX P w) 1 f fd ["self", "number"] (spTellNM K C CM A TMa) := by
  obtain ⟨bm, nw, ini, isC, FB⟩ := TM.isC
  refine F.okX scTelN (fun vs H Q E h => ?_) (fun cdv Ar outer s H vs Q E hr h => ?_)
  · obtain ⟨B, H0, m, dx, t, d, nv, ts, ds, S, n, rfl, _⟩ := h
    rfl
  obtain ⟨B, H0, m, dx, t, d, nv, ts, ds, S, n, rfl, R, lt, n0, qe, qn⟩ := h
  refine ⟨_, (pss_cons (ps_if (pt_cmpR op_ge (pv 1) (pe_glob (v := .int (10 ^ 60)) (by rfl) T.mTG ⟨_, rfl⟩) (nomark _)) (pss_one (ps_raise rfl (takes_of rfl rfl rfl rfl) (pmk_own0 FB isC TM.at_ TM.kept (raises_own TM.sub TM.ty) (by rfl)))) pss_nil)
    (pss_one (ps_expr (pe_bm PySem.F.plainAttrs_list PySem.F.slot_list_append PySem.F.type_list_append mt_append (pe_fld (pv 0) rfl) (pa_cons (pv 1) pa_nil))))), ?_⟩
  refine ⟨_, rfl, _, _, rfl, rfl, _, rfl, ?_⟩
  by_cases c : 10 ^ 60 ≤ n
  · exact decT c (qe c _ (same_trans R.same rem_in))
  · refine decF c ?_
    refine ⟨_, rfl, m, CM, dx, _, _, rfl, R.ho, T.cl, T.nD, mf_D _ _ _ _, .inl ⟨rfl, _, .inl (.inl R.hd)⟩, _, rfl, ?_⟩
    exact R.told (.int n0 (by omega)) lt fun H' g r => qn (by omega) H' g r
end
end Kf
set_option Elab.async false
set_option linter.all false
set_option maxRecDepth 100000
set_option maxHeartbeats 8000000
set_option pp.maxSteps 500
/-! The acts. -/
namespace Kf
open PySem PySem.Spec PyProof.Rows L2 Sx RZ
abbrev sENum : Stmt := top 52
abbrev eNumN : List Str := ["machine", "piece", "_", "right"]
theorem scENum : FnScope eNumN ["machine", "piece", "_"] (defScope sENum) := ⟨rfl, rfl, rfl, by decide +kernel, rfl, by decide +kernel, by decide +kernel⟩
abbrev sEPair : Stmt := top 53
abbrev ePairN : List Str := ["machine", "_", "scope", "right"]
theorem scEPair : FnScope ePairN ["machine", "_", "scope"] (defScope sEPair) := ⟨rfl, rfl, rfl, by decide +kernel, rfl, by decide +kernel, by decide +kernel⟩
abbrev sEHalf : Stmt := top 54
abbrev eHalfN : List Str := ["machine", "piece", "_", "two"]
theorem scEHalf : FnScope eHalfN ["machine", "piece", "_"] (defScope sEHalf) := ⟨rfl, rfl, rfl, by decide +kernel, rfl, by decide +kernel, by decide +kernel⟩
abbrev sESide : Stmt := top 55
abbrev eSideN : List Str := ["machine", "piece", "_"]
theorem scESide : FnScope eSideN ["machine", "piece", "_"] (defScope sESide) := ⟨rfl, rfl, rfl, by decide +kernel, rfl, by decide +kernel, by decide +kernel⟩
section
variable {P : Program} {w : World} {K : PySem.W.Frag} {mg : Str → Option Value} {base : Heap} {C CM : Addr} {A : Acts} {f TMa fIn fBe fSt fTe fTn fWN fWL : Addr} {fd dIn dBe dSt dTe dTn dWN dWL : FuncData} {t0 : Tok} {ν : Str → Option Int}
structure MaM (P : Program) (w : World) (K : PySem.W.Frag) (mg : Str → Option Value) (base : Heap) (C CM : Addr) (A : Acts) (TMa fIn fBe fSt fTe fTn fWN fWL : Addr) (dIn dBe dSt dTe dTn dWN dWL : FuncData) : Prop where
  into : FnOk P w K mg base CX0 1 fIn dIn ["self", "piece", "scope"] (spInto K C CM A)
  bIn : Binds K dIn ["self", "piece", "scope"] []
  mIn : Meth K CM "into" fIn
  behind : FnOk P w K mg base CX0 1 fBe dBe ["self", "act", "piece", "scope"] (spBehind K C CM A)
  bBe : Binds K dBe ["self", "act", "piece", "scope"] []
  mBe : Meth K CM "behind" fBe
  step : FnOk P w K mg base (L2.CX P w) 1 fSt dSt ["self"] (spStep K C CM A TMa)
  bSt : Binds K dSt ["self"] []
  mSt : Meth K CM "step" fSt
  tell : FnOk P w K mg base CX0 1 fTe dTe ["self", "told"] (spTellM K C CM A)
  bTe : Binds K dTe ["self", "told"] []
  mTe : Meth K CM "tell" fTe
  tellN : FnOk P w K mg base (L2.CX P w) 1 fTn dTn ["self", "number"] (spTellNM K C CM A TMa)
  bTn : Binds K dTn ["self", "number"] []
  mTn : Meth K CM "tell_number" fTn
  withN : FnOk P w K mg base CX0 3 fWN dWN ["self", "name", "number"] (spWiN K C)
  bWN : Binds K dWN ["self", "name", "number"] []
  mWN : Meth K C "with_name" fWN
  withL : FnOk P w K mg base CX0 3 fWL dWL ["self", "label", "told"] (spWiL K C)
  bWL : Binds K dWL ["self", "label", "told"] []
  mWL : Meth K C "with_label" fWL
  clS : Cls K C
  mTu : mg "turn" = some (.ref A.turn)
/-- what an act is told -/
def ArgsAt (K : PySem.W.Frag) (C : Addr) (B : Nat) (S : Hp) : Item → V → V → Prop
  | .into p sc, vp, vs => Dt K S vp (pgD p) ∧ ∃ s, vs = .ref s ∧ ScpAt K C B S s sc.named sc.known
  | .fin p sc, vp, vs => Dt K S vp (pgD p) ∧ ∃ s, vs = .ref s ∧ ScpAt K C B S s sc.named sc.known
  | .turn p sc i t, vp, vs => Dt K S vp (pgD p) ∧ ∃ r s, vs = .ref r ∧ S r = some (.tup [.ref s, .int i, .int t]) ∧ ScpAt K C B S s sc.named sc.known
/-- the numbers for names -/
def NuAt (H0 : Hp) (nv : V) (ν : Str → Option Int) : Prop := ∃ (q : Addr) (kvs : List (Key × V)), nv = .ref q ∧ H0 q = some (.dK kvs) ∧ ∀ z, valV kvs (.inr z) = (ν z).map V.int
def spAct (K : PySem.W.Frag) (C CM : Addr) (A : Acts) (TMa : Addr) (ν : Str → Option Int) (dom : Item → Prop) : Sp := fun vs H Q E => ∃ (B : Nat) (H0 : Hp) (m dx t d : Addr) (nv : V) (ts ds : List V) (S : MSt) (it : Item) (vp vq : V), vs = [.ref m, vp, vq] ∧ MIn K C CM A B H0 H m dx t d nv ts ds S ∧ ArgsAt K C B (rem [m, t, d] H) it vp vq ∧ dom it ∧ B + 10 < sizeLine ∧ NuAt H0 nv ν ∧
  (∀ S', stepI ν it S = .go S' → ∀ ts' ds' H', MIn K C CM A (B + 10) H0 H' m dx t d nv ts' ds' S' → Q .non H') ∧ (stepI ν it S = .many → ∀ H', Same H0 H' → E (.ref TMa) none H') ∧ stepI ν it S ≠ .stuck
/-! ### what is told is taken away -/
theorem MIn.pop {B : Nat} {H0 H : Hp} {m dx t d : Addr} {nv : V} {ts ds : List V} {l : Int} {td : List Item} {dn : List Wv} {x : Wv} (R : MIn K C CM A B H0 H m dx t d nv ts ds ⟨l, td, x :: dn⟩) {Q : VK}
    (q : ∀ v ds' H', WvAt K C B (rem [m, t, d] H') v x → Grow [m, t, d] H H' → MIn K C CM A B H0 H' m dx t d nv ts ds' ⟨l, td, dn⟩ → Q v H') : rPop (.ref d) [] H Q := by
  obtain ⟨ho, ht, hd, it, hdn, n, sm, few, few2⟩ := id R
  cases hdn with
  | @cons v _ ds' _ h1 h2 =>
  refine ⟨d, _, v, rfl, rfl, hd, ?_, ?_⟩
  · rw [List.reverse_cons, List.length_append, List.length_singleton, Nat.add_sub_cancel, List.getElem?_append_right (Nat.le_refl _), Nat.sub_self]
    rfl
  · rw [List.reverse_cons, List.dropLast_concat]
    have f2 : dn.length + 1 ≤ B := few2
    exact q v ds' _ (by rw [rem_upd (by simp)]; exact h1) (Grow.upd (by simp)) (R.setD h2 (by omega))
theorem tellN_many {S : MSt} {n : Int} (c : 10 ^ 60 ≤ n) : tellN S n = .many := if_pos c
theorem tellN_to {S : MSt} {n : Int} (c : n < 10 ^ 60) : tellN S n = .go ⟨S.left, S.todo, .int n :: S.done⟩ := if_neg (by omega)
theorem wdT {a b : Str} {A B : Prop} (e : a = b) (h : A) : if decide (V.str a = V.str b) = true then A else B := decT (by rw [e]) h
theorem wdF {a b : Str} {A B : Prop} (n : (a == b) = false) (h : B) : if decide (V.str a = V.str b) = true then A else B := decF (fun e => by
  injection e with e
  rw [e, beq_self_eq_true] at n
  cases n) h
theorem w_pn : (("plus" : Str) == "next") = false := by decide +kernel
theorem w_tn : (("times" : Str) == "next") = false := by decide +kernel
theorem w_tp : (("times" : Str) == "plus") = false := by decide +kernel
theorem w_sf : (("second" : Str) == "first") = false := by decide +kernel
theorem w_lf : (("lets" : Str) == "for") = false := by decide +kernel
theorem w_ta : (("that" : Str) == "this") = false := by decide +kernel
theorem no_to : [("numbers" : Str), "left", "todo", "done"].contains "into" = false := by decide +kernel
theorem no_be : [("numbers" : Str), "left", "todo", "done"].contains "behind" = false := by decide +kernel
theorem no_st : [("numbers" : Str), "left", "todo", "done"].contains "step" = false := by decide +kernel
theorem no_te : [("numbers" : Str), "left", "todo", "done"].contains "tell" = false := by decide +kernel
theorem no_tn : [("numbers" : Str), "left", "todo", "done"].contains "tell_number" = false := by decide +kernel
theorem no_wn : [("named" : Str), "known"].contains "with_name" = false := by decide +kernel
theorem no_wl : [("named" : Str), "known"].contains "with_label" = false := by decide +kernel
theorem ok_ePair (F : Fun K "end_pair" "end_pair" sEPair f fd) (T : MaC K mg CM A t0) (M : MaM P w K mg base C CM A TMa fIn fBe fSt fTe fTn fWN fWL dIn dBe dSt dTe dTn dWN dWL) : FnOk P w K mg base (L2.CX P w) 4 f fd ["machine", "_", "scope"] (spAct K C CM A TMa ν (fun it => ∃ p sc, it = .fin p sc ∧ ∃ a b, p = .pair a b)) := by
  refine F.okX scEPair (fun vs H Q E h => ?_) (fun cdv Ar outer s0 H vs Q E hr h => ?_)
  · obtain ⟨B, H0, m, dx, t, d, nv, ts, ds, S, it, vp, vq, rfl, _⟩ := h
    rfl
  have h1 : Room 1 _ := hr.mono (by decide)
  have h3 : Room 3 _ := hr
  obtain ⟨B, H0, m, dx, t, d, nv, ts, ds, ⟨l, td, dn⟩, it, vp, vq, rfl, R, ar, dm, lt, hN, qg, qm, qs⟩ := h
  refine ⟨_, (pss_cons (ps_set (i := 3) scEPair.nd rfl (.inl rfl) (pe_bm0 PySem.F.plainAttrs_list PySem.F.slot_list_pop PySem.F.type_list_pop mt_pop (pe_fld (pv 0) rfl)))
    (pss_one (ps_expr (pe_meth (pv 0) T.cl M.mTe M.tell h1 M.bTe .nil pass0 (pa_cons (pe_tup (pa_cons (pe_bm0 PySem.F.plainAttrs_list PySem.F.slot_list_pop PySem.F.type_list_pop mt_pop (pe_fld (pv 0) rfl)) (pa_cons (pv 3) pa_nil))) pa_nil))))), ?_⟩

  obtain ⟨p, sc, rfl, a, b, rfl⟩ := dm
  cases dn with
  | nil => exact (qs rfl).elim
  | cons y dn =>
  cases dn with
  | nil => exact (qs rfl).elim
  | cons x dn =>
  refine ⟨_, rfl, m, CM, dx, _, _, rfl, R.ho, T.cl, T.nD, mf_D _ _ _ _, .inl ⟨rfl, _, .inl (.inl R.hd)⟩, R.pop fun v1 ds1 H1 w1 g1 R1 => ?_⟩
  refine ⟨_, rfl, m, dx, _, rfl, R1.ho, mf_no _ _ _ _ _ no_te, ?_⟩
  refine ⟨_, rfl, m, CM, dx, _, _, rfl, R1.ho, T.cl, T.nD, mf_D _ _ _ _, .inl ⟨rfl, _, .inl (.inl R1.hd)⟩, R1.pop fun v2 ds2 H2 w2 g2 R2 => ?_⟩
  refine ⟨_, rfl, (by decide : 2 ≤ sizeLine), fun q nq => ?_⟩
  have s3 := same_new (o := HO.tup [v2, v1]) nq
  have R3 := R2.up s3
  refine ⟨B, H0, m, dx, t, d, nv, ts, ds2, _, _, .pair x y, rfl, R3, .pair (va := v2) (vb := v1) (by rw [rem_at (R2.tk.not nq)]; exact upd_same) (w2.keep (rem_same s3) (Nat.le_refl _)) (w1.keep (g2.trans (rem_same s3)) (Nat.le_refl _)), by omega, fun H' g r => ?_⟩
  exact qg _ rfl _ _ H' (r.mono (by omega))
theorem ok_eNum (F : Fun K "end_number" "end_number" sENum f fd) (T : MaC K mg CM A t0) (M : MaM P w K mg base C CM A TMa fIn fBe fSt fTe fTn fWN fWL dIn dBe dSt dTe dTn dWN dWL) : FnOk P w K mg base (L2.CX P w) 4 f fd ["machine", "piece", "_"] (spAct K C CM A TMa ν (fun it => ∃ p sc, it = .fin p sc ∧ ((∃ a, p = .next a) ∨ (∃ a b, p = .plus a b) ∨ ∃ a b, p = .times a b))) := by
  refine F.okX scENum (fun vs H Q E h => ?_) (fun cdv Ar outer s0 H vs Q E hr h => ?_)
  · obtain ⟨B, H0, m, dx, t, d, nv, ts, ds, S, it, vp, vq, rfl, _⟩ := h
    rfl
  have h1 : Room 1 _ := hr.mono (by decide)
  have h3 : Room 3 _ := hr
  obtain ⟨B, H0, m, dx, t, d, nv, ts, ds, ⟨l, td, dn⟩, it, vp, vq, rfl, R, ar, dm, lt, hN, qg, qm, qs⟩ := h
  refine ⟨_, (pss_cons (ps_set (i := 3) scENum.nd rfl (.inl rfl) (pe_bm0 PySem.F.plainAttrs_list PySem.F.slot_list_pop PySem.F.type_list_pop mt_pop (pe_fld (pv 0) rfl)))
    (pss_one (ps_if (pt_cmpR op_eq (pe_ix ix_tup (pv 1) pe_int (fun _ _ => rfl)) pe_str (nomark _)) (pss_one (ps_expr (pe_meth (pv 0) T.cl M.mTn M.tellN h1 M.bTn .nil (passes_call (takes_of rfl rfl rfl rfl) (fun _ _ _ _ h => h)) (pa_cons (pe_op op_add (pv 3) pe_int) pa_nil)))) (pss_one (ps_if (pt_cmpR op_eq (pe_ix ix_tup (pv 1) pe_int (fun _ _ => rfl)) pe_str (nomark _)) (pss_one (ps_expr (pe_meth (pv 0) T.cl M.mTn M.tellN h1 M.bTn .nil (passes_call (takes_of rfl rfl rfl rfl) (fun _ _ _ _ h => h)) (pa_cons (pe_op op_add (pe_bm0 PySem.F.plainAttrs_list PySem.F.slot_list_pop PySem.F.type_list_pop mt_pop (pe_fld (pv 0) rfl)) (pv 3)) pa_nil)))) (pss_one (ps_expr (pe_meth (pv 0) T.cl M.mTn M.tellN h1 M.bTn .nil (passes_call (takes_of rfl rfl rfl rfl) (fun _ _ _ _ h => h)) (pa_cons (pe_op op_mulX (pe_bm0 PySem.F.plainAttrs_list PySem.F.slot_list_pop PySem.F.type_list_pop mt_pop (pe_fld (pv 0) rfl)) (pv 3)) pa_nil))))))))), ?_⟩

  obtain ⟨p, sc, rfl, hp⟩ := dm
  obtain ⟨hd1, s, rfl, hsc⟩ := ar
  obtain ⟨qp, xs, rfl, hseq, _⟩ := pg_view hd1
  have at_ : ∀ {H1 : Hp}, Grow [m, t, d] H H1 → SqT K H1 qp (.str p.word :: xs) := fun g => sqT_up rem_in (sqT_of_tups (sqT_keep (tups_same g) hseq))
  cases dn with
  | nil => rcases hp with ⟨a, rfl⟩ | ⟨a, b, rfl⟩ | ⟨a, b, rfl⟩ <;> exact (qs rfl).elim
  | cons y dn =>
  have yi : ∃ r, y = .int r := by
    rcases hp with ⟨a, rfl⟩ | ⟨a, b, rfl⟩ | ⟨a, b, rfl⟩ <;> cases y <;> first | exact ⟨_, rfl⟩ | exact (qs rfl).elim
  obtain ⟨r, rfl⟩ := yi
  refine ⟨_, rfl, m, CM, dx, _, _, rfl, R.ho, T.cl, T.nD, mf_D _ _ _ _, .inl ⟨rfl, _, .inl (.inl R.hd)⟩, R.pop fun v1 ds1 H1 w1 g1 R1 => ?_⟩
  cases w1 with
  | int r0 r1 =>
  rcases hp with ⟨a, rfl⟩ | hp
  · refine ⟨_, rfl, qp, _, 0, _, rfl, rfl, at_ g1, head_at _ _, rfl, _, rfl, wdT rfl ?_⟩
    refine ⟨_, rfl, m, dx, _, rfl, R1.ho, mf_no _ _ _ _ _ no_tn, _, rfl, _, _, rfl, rfl, ?_⟩
    exact ⟨B, H0, m, dx, t, d, nv, ts, ds1, _, _, rfl, R1, by omega, by omega, fun c H' s => qm (tellN_many c) H' s, fun c H' g r => qg _ (tellN_to c) _ _ H' (r.mono (by omega))⟩
  cases dn with
  | nil => rcases hp with ⟨a, b, rfl⟩ | ⟨a, b, rfl⟩ <;> exact (qs rfl).elim
  | cons z dn =>
  have zi : ∃ r, z = .int r := by
    rcases hp with ⟨a, b, rfl⟩ | ⟨a, b, rfl⟩ <;> cases z <;> first | exact ⟨_, rfl⟩ | exact (qs rfl).elim
  obtain ⟨z, rfl⟩ := zi
  rcases hp with ⟨a, b, rfl⟩ | ⟨a, b, rfl⟩
  · refine ⟨_, rfl, qp, _, 0, _, rfl, rfl, at_ g1, head_at _ _, rfl, _, rfl, wdF w_pn ?_⟩
    refine ⟨_, rfl, qp, _, 0, _, rfl, rfl, at_ g1, head_at _ _, rfl, _, rfl, wdT rfl ?_⟩
    refine ⟨_, rfl, m, dx, _, rfl, R1.ho, mf_no _ _ _ _ _ no_tn, ?_⟩
    refine ⟨_, rfl, m, CM, dx, _, _, rfl, R1.ho, T.cl, T.nD, mf_D _ _ _ _, .inl ⟨rfl, _, .inl (.inl R1.hd)⟩, R1.pop fun v2 ds2 H2 w2 g2 R2 => ?_⟩
    cases w2 with
    | int z0 z1 =>
    refine ⟨_, rfl, _, _, rfl, rfl, ?_⟩
    exact ⟨B, H0, m, dx, t, d, nv, ts, ds2, _, _, rfl, R2, by omega, by omega, fun c H' s => qm (tellN_many c) H' s, fun c H' g r => qg _ (tellN_to c) _ _ H' (r.mono (by omega))⟩
  · refine ⟨_, rfl, qp, _, 0, _, rfl, rfl, at_ g1, head_at _ _, rfl, _, rfl, wdF w_tn ?_⟩
    refine ⟨_, rfl, qp, _, 0, _, rfl, rfl, at_ g1, head_at _ _, rfl, _, rfl, wdF w_tp ?_⟩
    refine ⟨_, rfl, m, dx, _, rfl, R1.ho, mf_no _ _ _ _ _ no_tn, ?_⟩
    refine ⟨_, rfl, m, CM, dx, _, _, rfl, R1.ho, T.cl, T.nD, mf_D _ _ _ _, .inl ⟨rfl, _, .inl (.inl R1.hd)⟩, R1.pop fun v2 ds2 H2 w2 g2 R2 => ?_⟩
    cases w2 with
    | int z0 z1 =>
    have bits : ∀ x : Int, 0 ≤ x → x < 10 ^ 60 → Builtin.Int.intBits x ≤ 200 := fun x p q => PyProof.Rows.intBits_le (k := 200) (by
      have h : (10 : Int) ^ 60 < 2 ^ 200 := by decide
      omega)
    have b1 := bits _ r0 r1
    have b2 := bits _ z0 z1
    refine ⟨_, rfl, _, _, rfl, rfl, by unfold CMulX; omega, ?_⟩
    exact ⟨B, H0, m, dx, t, d, nv, ts, ds2, _, _, rfl, R2, by omega, Int.mul_nonneg z0 r0, fun c H' s => qm (tellN_many c) H' s, fun c H' g r => qg _ (tellN_to c) _ _ H' (r.mono (by omega))⟩
theorem ok_eHalf (F : Fun K "end_half" "end_half" sEHalf f fd) (T : MaC K mg CM A t0) (M : MaM P w K mg base C CM A TMa fIn fBe fSt fTe fTn fWN fWL dIn dBe dSt dTe dTn dWN dWL) : FnOk P w K mg base (L2.CX P w) 4 f fd ["machine", "piece", "_"] (spAct K C CM A TMa ν (fun it => ∃ p sc, it = .fin p sc ∧ ((∃ a, p = .first a) ∨ ∃ a, p = .second a))) := by
  refine F.okX scEHalf (fun vs H Q E h => ?_) (fun cdv Ar outer s0 H vs Q E hr h => ?_)
  · obtain ⟨B, H0, m, dx, t, d, nv, ts, ds, S, it, vp, vq, rfl, _⟩ := h
    rfl
  have h1 : Room 1 _ := hr.mono (by decide)
  have h3 : Room 3 _ := hr
  obtain ⟨B, H0, m, dx, t, d, nv, ts, ds, ⟨l, td, dn⟩, it, vp, vq, rfl, R, ar, dm, lt, hN, qg, qm, qs⟩ := h
  refine ⟨_, (pss_cons (ps_set (i := 3) scEHalf.nd rfl (.inl rfl) (pe_bm0 PySem.F.plainAttrs_list PySem.F.slot_list_pop PySem.F.type_list_pop mt_pop (pe_fld (pv 0) rfl)))
    (pss_one (ps_expr (pe_meth (pv 0) T.cl M.mTe M.tell h1 M.bTe .nil pass0 (pa_cons (pe_ifExp (pt_cmpR op_eq (pe_ix ix_tup (pv 1) pe_int (fun _ _ => rfl)) pe_str (nomark _)) (pe_ix ix_tup (pv 3) pe_int (fun _ _ => rfl)) (pe_ix ix_tup (pv 3) pe_int (fun _ _ => rfl))) pa_nil))))), ?_⟩

  obtain ⟨p, sc, rfl, hp⟩ := dm
  obtain ⟨hd1, s, rfl, hsc⟩ := ar
  obtain ⟨qp, xs, rfl, hseq, _⟩ := pg_view hd1
  have at_ : ∀ {H1 : Hp}, Grow [m, t, d] H H1 → SqT K H1 qp (.str p.word :: xs) := fun g => sqT_up rem_in (sqT_of_tups (sqT_keep (tups_same g) hseq))
  cases dn with
  | nil => rcases hp with ⟨a, rfl⟩ | ⟨a, rfl⟩ <;> exact (qs rfl).elim
  | cons y dn =>
  have yi : ∃ x z, y = .pair x z := by
    rcases hp with ⟨a, rfl⟩ | ⟨a, rfl⟩ <;> cases y <;> first | exact ⟨_, _, rfl⟩ | exact (qs rfl).elim
  obtain ⟨x, z, rfl⟩ := yi
  refine ⟨_, rfl, m, CM, dx, _, _, rfl, R.ho, T.cl, T.nD, mf_D _ _ _ _, .inl ⟨rfl, _, .inl (.inl R.hd)⟩, R.pop fun v1 ds1 H1 w1 g1 R1 => ?_⟩
  cases w1 with
  | @pair q2 va vb _ _ h2 ha hb =>
  refine ⟨_, rfl, m, dx, _, rfl, R1.ho, mf_no _ _ _ _ _ no_te, ?_⟩
  rcases hp with ⟨a, rfl⟩ | ⟨a, rfl⟩
  · refine ⟨_, rfl, qp, _, 0, _, rfl, rfl, at_ g1, head_at _ _, rfl, _, rfl, wdT rfl ?_⟩
    refine ⟨_, rfl, q2, _, 0, _, rfl, rfl, .inl (.inl (rem_in _ _ h2)), head_at _ _, ?_⟩
    exact ⟨B, H0, m, dx, t, d, nv, ts, ds1, _, _, x, rfl, R1, ha, by omega, fun H' g r => qg _ rfl _ _ H' (r.mono (by omega))⟩
  · refine ⟨_, rfl, qp, _, 0, _, rfl, rfl, at_ g1, head_at _ _, rfl, _, rfl, wdF w_sf ?_⟩
    refine ⟨_, rfl, q2, _, 1, _, rfl, rfl, .inl (.inl (rem_in _ _ h2)), atI_nat (j := 1) rfl, ?_⟩
    exact ⟨B, H0, m, dx, t, d, nv, ts, ds1, _, _, z, rfl, R1, hb, by omega, fun H' g r => qg _ rfl _ _ H' (r.mono (by omega))⟩
theorem ok_eSide (F : Fun K "end_side" "end_side" sESide f fd) (T : MaC K mg CM A t0) (M : MaM P w K mg base C CM A TMa fIn fBe fSt fTe fTn fWN fWL dIn dBe dSt dTe dTn dWN dWL) : FnOk P w K mg base (L2.CX P w) 4 f fd ["machine", "piece", "_"] (spAct K C CM A TMa ν (fun it => ∃ p sc, it = .fin p sc ∧ ((∃ a k, p = .this a k) ∨ ∃ a k, p = .that k a))) := by
  refine F.okX scESide (fun vs H Q E h => ?_) (fun cdv Ar outer s0 H vs Q E hr h => ?_)
  · obtain ⟨B, H0, m, dx, t, d, nv, ts, ds, S, it, vp, vq, rfl, _⟩ := h
    rfl
  have h1 : Room 1 _ := hr.mono (by decide)
  have h3 : Room 3 _ := hr
  obtain ⟨B, H0, m, dx, t, d, nv, ts, ds, ⟨l, td, dn⟩, it, vp, vq, rfl, R, ar, dm, lt, hN, qg, qm, qs⟩ := h
  refine ⟨_, (pss_one (ps_expr (pe_meth (pv 0) T.cl M.mTe M.tell h1 M.bTe .nil pass0 (pa_cons (pe_tup (pa_cons (pe_ix ix_tup (pv 1) pe_int (fun _ _ => rfl)) (pa_cons (pe_bm0 PySem.F.plainAttrs_list PySem.F.slot_list_pop PySem.F.type_list_pop mt_pop (pe_fld (pv 0) rfl)) pa_nil))) pa_nil)))), ?_⟩

  obtain ⟨p, sc, rfl, hp⟩ := dm
  obtain ⟨hd1, s, rfl, hsc⟩ := ar
  obtain ⟨qp, xs, rfl, hseq, _⟩ := pg_view hd1
  have at_ : ∀ {H1 : Hp}, Grow [m, t, d] H H1 → SqT K H1 qp (.str p.word :: xs) := fun g => sqT_up rem_in (sqT_of_tups (sqT_keep (tups_same g) hseq))
  cases dn with
  | nil => rcases hp with ⟨a, k, rfl⟩ | ⟨a, k, rfl⟩ <;> exact (qs rfl).elim
  | cons y dn =>
  refine ⟨_, rfl, m, dx, _, rfl, R.ho, mf_no _ _ _ _ _ no_te, ?_⟩
  refine ⟨_, rfl, qp, _, 0, _, rfl, rfl, at_ Grow.refl, head_at _ _, ?_⟩
  refine ⟨_, rfl, m, CM, dx, _, _, rfl, R.ho, T.cl, T.nD, mf_D _ _ _ _, .inl ⟨rfl, _, .inl (.inl R.hd)⟩, R.pop fun v1 ds1 H1 w1 g1 R1 => ?_⟩
  refine ⟨(by decide : 2 ≤ sizeLine), fun q nq => ?_⟩
  have s3 := same_new (o := HO.tup [.str p.word, v1]) nq
  have R3 := R1.up s3
  have hq : rem [m, t, d] (upd H1 q (.tup [.str p.word, v1])) q = some (.tup [.str p.word, v1]) := by rw [rem_at (R1.tk.not nq)]; exact upd_same
  have w3 := w1.keep (rem_same s3) (Nat.le_refl _)
  rcases hp with ⟨a, k, rfl⟩ | ⟨a, k, rfl⟩
  · exact ⟨B, H0, m, dx, t, d, nv, ts, ds1, _, _, .this y, rfl, R3, .this hq w3, by omega, fun H' g r => qg _ rfl _ _ H' (r.mono (by omega))⟩
  · exact ⟨B, H0, m, dx, t, d, nv, ts, ds1, _, _, .that y, rfl, R3, .that hq w3, by omega, fun H' g r => qg _ rfl _ _ H' (r.mono (by omega))⟩
end
end Kf
set_option Elab.async false
set_option linter.all false
set_option maxRecDepth 100000
set_option maxHeartbeats 8000000
set_option pp.maxSteps 500
/-! More acts. -/
namespace Kf
open PySem PySem.Spec PyProof.Rows L2 Sx RZ
abbrev sECall : Stmt := top 56
abbrev eCallN : List Str := ["machine", "_", "scope", "first", "rule", "kept"]
theorem scECall : FnScope eCallN ["machine", "_", "scope"] (defScope sECall) := ⟨rfl, rfl, rfl, by decide +kernel, rfl, by decide +kernel, by decide +kernel⟩
abbrev sEParts : Stmt := top 57
abbrev ePartsN : List Str := ["machine", "piece", "scope", "number", "rest"]
theorem scEParts : FnScope ePartsN ["machine", "piece", "scope"] (defScope sEParts) := ⟨rfl, rfl, rfl, by decide +kernel, rfl, by decide +kernel, by decide +kernel⟩
abbrev sECases : Stmt := top 58
abbrev eCasesN : List Str := ["machine", "piece", "scope", "side", "told", "at"]
theorem scECases : FnScope eCasesN ["machine", "piece", "scope"] (defScope sECases) := ⟨rfl, rfl, rfl, by decide +kernel, rfl, by decide +kernel, by decide +kernel⟩
abbrev sEClimb : Stmt := top 59
abbrev eClimbN : List Str := ["machine", "piece", "scope", "start", "turns"]
theorem scEClimb : FnScope eClimbN ["machine", "piece", "scope"] (defScope sEClimb) := ⟨rfl, rfl, rfl, by decide +kernel, rfl, by decide +kernel, by decide +kernel⟩
abbrev sTurn : Stmt := top 60
abbrev turnN : List Str := ["machine", "piece", "held", "scope", "at", "turns", "last"]
theorem scTurn : FnScope turnN ["machine", "piece", "held"] (defScope sTurn) := ⟨rfl, rfl, rfl, by decide +kernel, rfl, by decide +kernel, by decide +kernel⟩
theorem call_shape {a b : Pg} {sc : Scp} {l : Int} {td : List Item} {dn : List Wv} (h : stepFin (.call a b) sc ⟨l, td, dn⟩ ≠ .stuck) : (∃ n z e nm kn r, dn = .int n :: .rule (.for_ z e) nm kn :: r) ∨ ∃ w z k e nm kn r, dn = w :: .rule (.lets z k e) nm kn :: r := by
  cases dn with
  | nil => exact absurd rfl h
  | cons w r =>
  cases r with
  | nil => cases w <;> exact absurd rfl h
  | cons y r =>
  cases y with
  | rule p nm kn =>
    cases p with
    | lets z k e => exact .inr ⟨_, _, _, _, _, _, _, rfl⟩
    | for_ z e =>
      cases w with
      | int n => exact .inl ⟨_, _, _, _, _, _, rfl⟩
      | _ => exact absurd rfl h
    | _ => cases w <;> exact absurd rfl h
  | _ => cases w <;> exact absurd rfl h
theorem parts_shape {a b : Pg} {x u : Str} {sc : Scp} {l : Int} {td : List Item} {dn : List Wv} (h : stepFin (.parts a x u b) sc ⟨l, td, dn⟩ ≠ .stuck) : ∃ n w r, dn = .pair (.int n) w :: r := by
  cases dn with
  | nil => exact absurd rfl h
  | cons w r =>
  cases w with
  | pair y w =>
    cases y with
    | int n => exact ⟨_, _, _, rfl⟩
    | _ => exact absurd rfl h
  | _ => exact absurd rfl h
theorem cases_shape {a b c : Pg} {u v : Str} {sc : Scp} {l : Int} {td : List Item} {dn : List Wv} (h : stepFin (.cases a u b v c) sc ⟨l, td, dn⟩ ≠ .stuck) : (∃ w r, dn = .this w :: r) ∨ ∃ w r, dn = .that w :: r := by
  cases dn with
  | nil => exact absurd rfl h
  | cons w r =>
  cases w with
  | this w => exact .inl ⟨_, _, rfl⟩
  | that w => exact .inr ⟨_, _, rfl⟩
  | _ => exact absurd rfl h
theorem climb_shape {a b c : Pg} {x u : Str} {sc : Scp} {l : Int} {td : List Item} {dn : List Wv} (h : stepFin (.climb a x u b c) sc ⟨l, td, dn⟩ ≠ .stuck) : ∃ w t r, dn = w :: .int t :: r := by
  cases dn with
  | nil => exact absurd rfl h
  | cons w r =>
  cases r with
  | nil => exact absurd rfl h
  | cons y r =>
  cases y with
  | int t => exact ⟨_, _, _, rfl⟩
  | _ => exact absurd rfl h
theorem turn_shape {p : Pg} {sc : Scp} {i j l : Int} {td : List Item} {dn : List Wv} (lt : i < j) (h : stepTurn p sc i j ⟨l, td, dn⟩ ≠ .stuck) : ∃ a x u b c w r, p = .climb a x u b c ∧ dn = w :: r := by
  unfold stepTurn at h
  rw [if_pos lt] at h
  cases p with
  | climb a x u b c =>
    cases dn with
    | nil => exact absurd rfl h
    | cons w r => exact ⟨_, _, _, _, _, _, _, rfl, rfl⟩
  | _ => exact absurd rfl h
section
variable {P : Program} {w : World} {K : PySem.W.Frag} {mg : Str → Option Value} {base : Heap} {C CM : Addr} {A : Acts} {f TMa fIn fBe fSt fTe fTn fWN fWL : Addr} {fd dIn dBe dSt dTe dTn dWN dWL : FuncData} {t0 : Tok} {ν : Str → Option Int}
theorem ok_eCall (F : Fun K "end_call" "end_call" sECall f fd) (T : MaC K mg CM A t0) (M : MaM P w K mg base C CM A TMa fIn fBe fSt fTe fTn fWN fWL dIn dBe dSt dTe dTn dWN dWL) : FnOk P w K mg base (L2.CX P w) 4 f fd ["machine", "_", "scope"] (spAct K C CM A TMa ν (fun it => ∃ a b sc, it = .fin (.call a b) sc)) := by
  refine F.okX scECall (fun vs H Q E h => ?_) (fun cdv Ar outer s0 H vs Q E hr h => ?_)
  · obtain ⟨B, H0, m, dx, t, d, nv, ts, ds, S, it, vp, vq, rfl, _⟩ := h
    rfl
  have h1 : Room 1 _ := hr.mono (by decide)
  have h3 : Room 3 _ := hr
  obtain ⟨B, H0, m, dx, t, d, nv, ts, ds, ⟨l, td, dn⟩, it, vp, vq, rfl, R, ar, dm, lt, hN, qg, qm, qs⟩ := h
  refine ⟨_, (pss_cons (ps_set (i := 3) scECall.nd rfl (.inl rfl) (pe_bm0 PySem.F.plainAttrs_list PySem.F.slot_list_pop PySem.F.type_list_pop mt_pop (pe_fld (pv 0) rfl)))
    (pss_cons (ps_asg (pe_bm0 PySem.F.plainAttrs_list PySem.F.slot_list_pop PySem.F.type_list_pop mt_pop (pe_fld (pv 0) rfl)) (pg_tup (by rfl) (pgs_cons (pg_name (i := 4) scECall.nd rfl (.inl rfl)) (pgs_cons (pg_name (i := 5) scECall.nd rfl (.inl rfl)) pgs_nil))))
    (pss_one (ps_if (pt_cmpR op_eq (pe_ix ix_tup (pv 4) pe_int (fun _ _ => rfl)) pe_str (nomark _)) (pss_one (ps_expr (pe_meth (pv 0) T.cl M.mIn M.into h1 M.bIn .nil pass0 (pa_cons (pe_ix ix_tup (pv 4) pe_int (fun _ _ => rfl)) (pa_cons (pe_meth (pv 5) M.clS M.mWN M.withN h3 M.bWN .nil pass0 (pa_cons (pe_ix ix_tup (pv 4) pe_int (fun _ _ => rfl)) (pa_cons (pv 3) pa_nil))) pa_nil))))) (pss_one (ps_expr (pe_meth (pv 0) T.cl M.mIn M.into h1 M.bIn .nil pass0 (pa_cons (pe_ix ix_tup (pv 4) pe_int (fun _ _ => rfl)) (pa_cons (pe_meth (pv 5) M.clS M.mWL M.withL h3 M.bWL .nil pass0 (pa_cons (pe_ix ix_tup (pv 4) pe_int (fun _ _ => rfl)) (pa_cons (pv 3) pa_nil))) pa_nil))))))))), ?_⟩

  obtain ⟨pa, pb, sc, rfl⟩ := dm
  rcases call_shape qs with ⟨n, z, e, nm, kn, r, rfl⟩ | ⟨x, z, k, e, nm, kn, r, rfl⟩
  · refine ⟨_, rfl, m, CM, dx, _, _, rfl, R.ho, T.cl, T.nD, mf_D _ _ _ _, .inl ⟨rfl, _, .inl (.inl R.hd)⟩, R.pop fun v1 ds1 H1 w1 g1 R1 => ?_⟩
    cases w1 with
    | int n0 n1 =>
    refine ⟨_, rfl, m, CM, dx, _, _, rfl, R1.ho, T.cl, T.nD, mf_D _ _ _ _, .inl ⟨rfl, _, .inl (.inl R1.hd)⟩, R1.pop fun v2 ds2 H2 w2 g2 R2 => ?_⟩
    cases w2 with
    | @rule q3 s3 pr _ _ _ h3 hp3 hs3 =>
    obtain ⟨qr, xs, rfl, hseq, hx⟩ := pg_view hp3
    cases hx with
    | cons hz hx =>
    cases hz
    cases hx with
    | cons he hx =>
    cases hx
    have seqH : ∀ {H' : Hp}, Grow [m, t, d] H2 H' → SqT K H' qr _ := fun g => sqT_up rem_in (sqT_of_tups (sqT_keep (tups_same g) hseq))
    refine ⟨q3, [.ref qr, .ref s3], rfl, .inl (.inl (rem_in _ _ h3)), rfl, .ref qr, [.ref s3], rfl, .ref s3, [], rfl, rfl, ?_⟩
    refine ⟨_, rfl, qr, _, 0, _, rfl, rfl, seqH Grow.refl, head_at _ _, rfl, _, rfl, wdT rfl ?_⟩
    refine ⟨_, rfl, m, dx, _, rfl, R2.ho, mf_no _ _ _ _ _ no_to, _, rfl, qr, _, 2, _, rfl, rfl, seqH Grow.refl, atI_nat (j := 2) rfl, ?_⟩
    cases id hs3 with
    | @mk _ dxs _ _ _ _ _ hi _ _ _ _ _ =>
    refine ⟨_, rfl, s3, dxs, _, rfl, rem_in _ _ hi, scf_no _ _ _ no_wn, _, rfl, qr, _, 1, _, rfl, rfl, seqH Grow.refl, atI_nat (j := 1) rfl, _, rfl, ?_⟩
    refine ⟨[m, t, d], B, s3, ⟨nm, kn⟩, z, n, rfl, R2.tk, hs3, by omega, fun s' H3 sm r3 => ?_⟩
    exact ⟨B + 1, H0, m, dx, t, d, nv, ts, ds2, _, _, s', e, (Scp.nm ⟨nm, kn⟩ z n), rfl, (R2.up sm).mono (by omega), Dt.keep he (tups_same (rem_same sm)), r3, by omega, fun ts' H' g r => qg _ rfl _ _ H' (r.mono (by omega))⟩
  · refine ⟨_, rfl, m, CM, dx, _, _, rfl, R.ho, T.cl, T.nD, mf_D _ _ _ _, .inl ⟨rfl, _, .inl (.inl R.hd)⟩, R.pop fun v1 ds1 H1 w1 g1 R1 => ?_⟩
    refine ⟨_, rfl, m, CM, dx, _, _, rfl, R1.ho, T.cl, T.nD, mf_D _ _ _ _, .inl ⟨rfl, _, .inl (.inl R1.hd)⟩, R1.pop fun v2 ds2 H2 w2 g2 R2 => ?_⟩
    cases w2 with
    | @rule q3 s3 pr _ _ _ h3 hp3 hs3 =>
    obtain ⟨qr, xs, rfl, hseq, hx⟩ := pg_view hp3
    cases hx with
    | cons hz hx =>
    cases hz
    cases hx with
    | @cons vk _ _ _ hk hx =>
    cases hx with
    | cons he hx =>
    cases hx
    have seqH : ∀ {H' : Hp}, Grow [m, t, d] H2 H' → SqT K H' qr _ := fun g => sqT_up rem_in (sqT_of_tups (sqT_keep (tups_same g) hseq))
    refine ⟨q3, [.ref qr, .ref s3], rfl, .inl (.inl (rem_in _ _ h3)), rfl, .ref qr, [.ref s3], rfl, .ref s3, [], rfl, rfl, ?_⟩
    refine ⟨_, rfl, qr, _, 0, _, rfl, rfl, seqH Grow.refl, head_at _ _, rfl, _, rfl, wdF w_lf ?_⟩
    refine ⟨_, rfl, m, dx, _, rfl, R2.ho, mf_no _ _ _ _ _ no_to, _, rfl, qr, _, 3, _, rfl, rfl, seqH Grow.refl, atI_nat (j := 3) rfl, ?_⟩
    cases id hs3 with
    | @mk _ dxs _ _ _ _ _ hi _ _ _ _ _ =>
    refine ⟨_, rfl, s3, dxs, _, rfl, rem_in _ _ hi, scf_no _ _ _ no_wl, _, rfl, qr, _, 1, _, rfl, rfl, seqH Grow.refl, atI_nat (j := 1) rfl, _, rfl, ?_⟩
    refine ⟨[m, t, d], B, s3, ⟨nm, kn⟩, z, v1, x, rfl, R2.tk, hs3, w1.keep g2 (Nat.le_refl _), by omega, fun s' H3 sm r3 => ?_⟩
    exact ⟨B + 1, H0, m, dx, t, d, nv, ts, ds2, _, _, s', e, (Scp.lb ⟨nm, kn⟩ z x), rfl, (R2.up sm).mono (by omega), Dt.keep he (tups_same (rem_same sm)), r3, by omega, fun ts' H' g r => qg _ fin_lets _ _ H' (r.mono (by omega))⟩
theorem ok_eParts (F : Fun K "end_parts" "end_parts" sEParts f fd) (T : MaC K mg CM A t0) (M : MaM P w K mg base C CM A TMa fIn fBe fSt fTe fTn fWN fWL dIn dBe dSt dTe dTn dWN dWL) : FnOk P w K mg base (L2.CX P w) 4 f fd ["machine", "piece", "scope"] (spAct K C CM A TMa ν (fun it => ∃ a x u b sc, it = .fin (.parts a x u b) sc)) := by
  refine F.okX scEParts (fun vs H Q E h => ?_) (fun cdv Ar outer s0 H vs Q E hr h => ?_)
  · obtain ⟨B, H0, m, dx, t, d, nv, ts, ds, S, it, vp, vq, rfl, _⟩ := h
    rfl
  have h1 : Room 1 _ := hr.mono (by decide)
  have h3 : Room 3 _ := hr
  obtain ⟨B, H0, m, dx, t, d, nv, ts, ds, ⟨l, td, dn⟩, it, vp, vq, rfl, R, ar, dm, lt, hN, qg, qm, qs⟩ := h
  refine ⟨_, (pss_cons (ps_asg (pe_bm0 PySem.F.plainAttrs_list PySem.F.slot_list_pop PySem.F.type_list_pop mt_pop (pe_fld (pv 0) rfl)) (pg_tup (by rfl) (pgs_cons (pg_name (i := 3) scEParts.nd rfl (.inl rfl)) (pgs_cons (pg_name (i := 4) scEParts.nd rfl (.inl rfl)) pgs_nil))))
    (pss_one (ps_expr (pe_meth (pv 0) T.cl M.mIn M.into h1 M.bIn .nil pass0 (pa_cons (pe_ix ix_tup (pv 1) pe_int (fun _ _ => rfl)) (pa_cons (pe_meth (pe_meth (pv 2) M.clS M.mWN M.withN h3 M.bWN .nil pass0 (pa_cons (pe_ix ix_tup (pv 1) pe_int (fun _ _ => rfl)) (pa_cons (pv 3) pa_nil))) M.clS M.mWL M.withL h3 M.bWL .nil pass0 (pa_cons (pe_ix ix_tup (pv 1) pe_int (fun _ _ => rfl)) (pa_cons (pv 4) pa_nil))) pa_nil)))))), ?_⟩

  obtain ⟨pa, px, pu, pb, sc, rfl⟩ := dm
  obtain ⟨n, x, r, rfl⟩ := parts_shape qs
  obtain ⟨hd1, s, rfl, hsc⟩ := ar
  obtain ⟨qp, xs, rfl, hseq, hx⟩ := pg_view hd1
  cases hx with
  | cons ha hx =>
  cases hx with
  | cons hz hx =>
  cases hz
  cases hx with
  | cons hu hx =>
  cases hu
  cases hx with
  | cons he hx =>
  cases hx
  have seqH : ∀ {H' : Hp}, Grow [m, t, d] H H' → SqT K H' qp _ := fun g => sqT_up rem_in (sqT_of_tups (sqT_keep (tups_same g) hseq))
  refine ⟨_, rfl, m, CM, dx, _, _, rfl, R.ho, T.cl, T.nD, mf_D _ _ _ _, .inl ⟨rfl, _, .inl (.inl R.hd)⟩, R.pop fun v1 ds1 H1 w1 g1 R1 => ?_⟩
  cases w1 with
  | @pair q2 va vb _ _ h2 hva hvb =>
  cases hva with
  | int n0 n1 =>
  refine ⟨q2, [.int n, vb], rfl, .inl (.inl (rem_in _ _ h2)), rfl, .int n, [vb], rfl, vb, [], rfl, rfl, ?_⟩
  refine ⟨_, rfl, m, dx, _, rfl, R1.ho, mf_no _ _ _ _ _ no_to, _, rfl, qp, _, 4, _, rfl, rfl, seqH g1, atI_nat (j := 4) rfl, ?_⟩
  have hsc1 := hsc.keep g1 (Nat.le_refl _)
  cases id hsc1 with
  | @mk _ dxs _ _ _ _ _ hi _ _ _ _ _ =>
  refine ⟨_, rfl, s, dxs, _, rfl, rem_in _ _ hi, scf_no _ _ _ no_wn, _, rfl, qp, _, 2, _, rfl, rfl, seqH g1, atI_nat (j := 2) rfl, _, rfl, ?_⟩
  refine ⟨[m, t, d], B, s, sc, px, n, rfl, R1.tk, hsc1, by omega, fun s' H2 sm r2 => ?_⟩
  have g2 := g1.trans (Grow.of (M := [m, t, d]) sm)
  cases id r2 with
  | @mk _ dxs _ _ _ _ _ hi _ _ _ _ _ =>
  refine ⟨s', dxs, _, rfl, rem_in _ _ hi, scf_no _ _ _ no_wl, _, rfl, qp, _, 3, _, rfl, rfl, seqH g2, atI_nat (j := 3) rfl, _, rfl, ?_⟩
  refine ⟨[m, t, d], B + 1, s', sc.nm px n, pu, vb, x, rfl, R1.tk.same sm, r2, hvb.keep (rem_same sm) (by omega), by omega, fun s2 H3 sm3 r3 => ?_⟩
  have g3 := g2.trans (Grow.of (M := [m, t, d]) sm3)
  exact ⟨B + 2, H0, m, dx, t, d, nv, ts, ds1, _, _, s2, pb, ((sc.nm px n).lb pu x), rfl, ((R1.up sm).up sm3).mono (by omega), Dt.keep he (tups_same g3), r3, by omega, fun ts' H' g r => qg _ rfl _ _ H' (r.mono (by omega))⟩
theorem ok_eCases (F : Fun K "end_cases" "end_cases" sECases f fd) (T : MaC K mg CM A t0) (M : MaM P w K mg base C CM A TMa fIn fBe fSt fTe fTn fWN fWL dIn dBe dSt dTe dTn dWN dWL) : FnOk P w K mg base (L2.CX P w) 4 f fd ["machine", "piece", "scope"] (spAct K C CM A TMa ν (fun it => ∃ a u b v c sc, it = .fin (.cases a u b v c) sc)) := by
  refine F.okX scECases (fun vs H Q E h => ?_) (fun cdv Ar outer s0 H vs Q E hr h => ?_)
  · obtain ⟨B, H0, m, dx, t, d, nv, ts, ds, S, it, vp, vq, rfl, _⟩ := h
    rfl
  have h1 : Room 1 _ := hr.mono (by decide)
  have h3 : Room 3 _ := hr
  obtain ⟨B, H0, m, dx, t, d, nv, ts, ds, ⟨l, td, dn⟩, it, vp, vq, rfl, R, ar, dm, lt, hN, qg, qm, qs⟩ := h
  refine ⟨_, (pss_cons (ps_asg (pe_bm0 PySem.F.plainAttrs_list PySem.F.slot_list_pop PySem.F.type_list_pop mt_pop (pe_fld (pv 0) rfl)) (pg_tup (by rfl) (pgs_cons (pg_name (i := 3) scECases.nd rfl (.inl rfl)) (pgs_cons (pg_name (i := 4) scECases.nd rfl (.inl rfl)) pgs_nil))))
    (pss_cons (ps_set (i := 5) scECases.nd rfl (.inl rfl) (pe_ifExp (pt_cmpR op_eq (pv 3) pe_str (nomark _)) pe_int pe_int))
    (pss_one (ps_expr (pe_meth (pv 0) T.cl M.mIn M.into h1 M.bIn .nil pass0 (pa_cons (pe_ix ix_tup (pv 1) (pe_op op_add (pv 5) pe_int) (fun _ _ => rfl)) (pa_cons (pe_meth (pv 2) M.clS M.mWL M.withL h3 M.bWL .nil pass0 (pa_cons (pe_ix ix_tup (pv 1) (pv 5) (fun _ _ => rfl)) (pa_cons (pv 4) pa_nil))) pa_nil))))))), ?_⟩

  obtain ⟨pa, pu, pb, pw, pc, sc, rfl⟩ := dm
  obtain ⟨hd1, s, rfl, hsc⟩ := ar
  obtain ⟨qp, xs, rfl, hseq, hx⟩ := pg_view hd1
  cases hx with
  | cons ha hx =>
  cases hx with
  | cons hz hx =>
  cases hz
  cases hx with
  | cons hb hx =>
  cases hx with
  | cons hu hx =>
  cases hu
  cases hx with
  | cons he hx =>
  cases hx
  have seqH : ∀ {H' : Hp}, Grow [m, t, d] H H' → SqT K H' qp _ := fun g => sqT_up rem_in (sqT_of_tups (sqT_keep (tups_same g) hseq))
  rcases cases_shape qs with ⟨x, r, rfl⟩ | ⟨x, r, rfl⟩
  · refine ⟨_, rfl, m, CM, dx, _, _, rfl, R.ho, T.cl, T.nD, mf_D _ _ _ _, .inl ⟨rfl, _, .inl (.inl R.hd)⟩, R.pop fun v1 ds1 H1 w1 g1 R1 => ?_⟩
    cases w1 with
    | @this q2 va _ h2 hva =>
    have hsc1 := hsc.keep g1 (Nat.le_refl _)
    refine ⟨q2, [.str "this", va], rfl, .inl (.inl (rem_in _ _ h2)), rfl, .str "this", [va], rfl, va, [], rfl, rfl, ?_⟩
    refine ⟨_, rfl, rfl, _, rfl, wdT rfl ?_⟩
    refine ⟨_, rfl, m, dx, _, rfl, R1.ho, mf_no _ _ _ _ _ no_to, _, rfl, _, rfl, _, _, rfl, rfl, qp, _, 3, _, rfl, rfl, seqH g1, atI_nat (j := 3) rfl, ?_⟩
    cases id hsc1 with
    | @mk _ dxs _ _ _ _ _ hi _ _ _ _ _ =>
    refine ⟨_, rfl, s, dxs, _, rfl, rem_in _ _ hi, scf_no _ _ _ no_wl, _, rfl, _, rfl, qp, _, 2, _, rfl, rfl, seqH g1, atI_nat (j := 2) rfl, _, rfl, ?_⟩
    refine ⟨[m, t, d], B, s, sc, pu, va, x, rfl, R1.tk, hsc1, hva, by omega, fun s' H2 sm r2 => ?_⟩
    have g2 := g1.trans (Grow.of (M := [m, t, d]) sm)
    exact ⟨B + 1, H0, m, dx, t, d, nv, ts, ds1, _, _, s', pb, (sc.lb pu x), rfl, (R1.up sm).mono (by omega), Dt.keep hb (tups_same g2), r2, by omega, fun ts' H' g r => qg _ rfl _ _ H' (r.mono (by omega))⟩
  · refine ⟨_, rfl, m, CM, dx, _, _, rfl, R.ho, T.cl, T.nD, mf_D _ _ _ _, .inl ⟨rfl, _, .inl (.inl R.hd)⟩, R.pop fun v1 ds1 H1 w1 g1 R1 => ?_⟩
    cases w1 with
    | @that q2 va _ h2 hva =>
    have hsc1 := hsc.keep g1 (Nat.le_refl _)
    refine ⟨q2, [.str "that", va], rfl, .inl (.inl (rem_in _ _ h2)), rfl, .str "that", [va], rfl, va, [], rfl, rfl, ?_⟩
    refine ⟨_, rfl, rfl, _, rfl, wdF w_ta ?_⟩
    refine ⟨_, rfl, m, dx, _, rfl, R1.ho, mf_no _ _ _ _ _ no_to, _, rfl, _, rfl, _, _, rfl, rfl, qp, _, 5, _, rfl, rfl, seqH g1, atI_nat (j := 5) rfl, ?_⟩
    cases id hsc1 with
    | @mk _ dxs _ _ _ _ _ hi _ _ _ _ _ =>
    refine ⟨_, rfl, s, dxs, _, rfl, rem_in _ _ hi, scf_no _ _ _ no_wl, _, rfl, _, rfl, qp, _, 4, _, rfl, rfl, seqH g1, atI_nat (j := 4) rfl, _, rfl, ?_⟩
    refine ⟨[m, t, d], B, s, sc, pw, va, x, rfl, R1.tk, hsc1, hva, by omega, fun s' H2 sm r2 => ?_⟩
    have g2 := g1.trans (Grow.of (M := [m, t, d]) sm)
    exact ⟨B + 1, H0, m, dx, t, d, nv, ts, ds1, _, _, s', pc, (sc.lb pw x), rfl, (R1.up sm).mono (by omega), Dt.keep he (tups_same g2), r2, by omega, fun ts' H' g r => qg _ rfl _ _ H' (r.mono (by omega))⟩
theorem ok_eClimb (F : Fun K "end_climb" "end_climb" sEClimb f fd) (T : MaC K mg CM A t0) (M : MaM P w K mg base C CM A TMa fIn fBe fSt fTe fTn fWN fWL dIn dBe dSt dTe dTn dWN dWL) : FnOk P w K mg base (L2.CX P w) 4 f fd ["machine", "piece", "scope"] (spAct K C CM A TMa ν (fun it => ∃ a x u b c sc, it = .fin (.climb a x u b c) sc)) := by
  refine F.okX scEClimb (fun vs H Q E h => ?_) (fun cdv Ar outer s0 H vs Q E hr h => ?_)
  · obtain ⟨B, H0, m, dx, t, d, nv, ts, ds, S, it, vp, vq, rfl, _⟩ := h
    rfl
  have h1 : Room 1 _ := hr.mono (by decide)
  have h3 : Room 3 _ := hr
  obtain ⟨B, H0, m, dx, t, d, nv, ts, ds, ⟨l, td, dn⟩, it, vp, vq, rfl, R, ar, dm, lt, hN, qg, qm, qs⟩ := h
  refine ⟨_, (pss_cons (ps_set (i := 3) scEClimb.nd rfl (.inl rfl) (pe_bm0 PySem.F.plainAttrs_list PySem.F.slot_list_pop PySem.F.type_list_pop mt_pop (pe_fld (pv 0) rfl)))
    (pss_cons (ps_set (i := 4) scEClimb.nd rfl (.inl rfl) (pe_bm0 PySem.F.plainAttrs_list PySem.F.slot_list_pop PySem.F.type_list_pop mt_pop (pe_fld (pv 0) rfl)))
    (pss_cons (ps_expr (pe_meth (pv 0) T.cl M.mTe M.tell h1 M.bTe .nil pass0 (pa_cons (pv 3) pa_nil)))
    (pss_one (ps_expr (pe_meth (pv 0) T.cl M.mBe M.behind h1 M.bBe .nil pass0 (pa_cons (pe_glob (v := .ref A.turn) (by rfl) M.mTu rfl) (pa_cons (pv 1) (pa_cons (pe_tup (pa_cons (pv 2) (pa_cons pe_int (pa_cons (pv 4) pa_nil)))) pa_nil))))))))), ?_⟩

  obtain ⟨pa, px, pu, pb, pc, sc, rfl⟩ := dm
  obtain ⟨hd1, s, rfl, hsc⟩ := ar
  obtain ⟨x, n, r, rfl⟩ := climb_shape qs
  refine ⟨_, rfl, m, CM, dx, _, _, rfl, R.ho, T.cl, T.nD, mf_D _ _ _ _, .inl ⟨rfl, _, .inl (.inl R.hd)⟩, R.pop fun v1 ds1 H1 w1 g1 R1 => ?_⟩
  refine ⟨_, rfl, m, CM, dx, _, _, rfl, R1.ho, T.cl, T.nD, mf_D _ _ _ _, .inl ⟨rfl, _, .inl (.inl R1.hd)⟩, R1.pop fun v2 ds2 H2 w2 g2 R2 => ?_⟩
  cases w2 with
  | int n0 n1 =>
  refine ⟨_, rfl, m, dx, _, rfl, R2.ho, mf_no _ _ _ _ _ no_te, _, rfl, ?_⟩
  refine ⟨B, H0, m, dx, t, d, nv, ts, ds2, _, v1, x, rfl, R2, w1.keep g2 (Nat.le_refl _), by omega, fun H3 g3 R3 => ?_⟩
  refine ⟨_, rfl, m, dx, _, rfl, R3.ho, mf_no _ _ _ _ _ no_be, _, rfl, _, rfl, _, rfl, three_le, fun q nq => ?_⟩
  have s4 := same_new (o := HO.tup [.ref s, .int 0, .int n]) nq
  have R4 := R3.up s4
  have gA := g1.trans (g2.trans (g3.trans (Grow.of (M := [m, t, d]) s4)))
  have hq : rem [m, t, d] (upd H3 q (.tup [.ref s, .int 0, .int n])) q = some (.tup [.ref s, .int 0, .int n]) := by rw [rem_at (R3.tk.not nq)]; exact upd_same
  refine ⟨B + 1, H0, m, dx, t, d, nv, ts, _, _, _, vp, .ref q, .turn (.climb pa px pu pb pc) sc 0 n, rfl, R4, fun q5 H5 g5 h5 => .turn h5 (g5 _ _ hq) (Dt.keep hd1 (tups_same (gA.trans g5))) (hsc.keep (gA.trans g5) (by omega)), by omega, fun ts' H' g r => qg _ rfl _ _ H' (r.mono (by omega))⟩
theorem ok_turn (F : Fun K "turn" "turn" sTurn f fd) (T : MaC K mg CM A t0) (M : MaM P w K mg base C CM A TMa fIn fBe fSt fTe fTn fWN fWL dIn dBe dSt dTe dTn dWN dWL) : FnOk P w K mg base (L2.CX P w) 4 f fd ["machine", "piece", "held"] (spAct K C CM A TMa ν (fun it => ∃ p sc i t, it = .turn p sc i t)) := by
  refine F.okX scTurn (fun vs H Q E h => ?_) (fun cdv Ar outer s0 H vs Q E hr h => ?_)
  · obtain ⟨B, H0, m, dx, t, d, nv, ts, ds, S, it, vp, vq, rfl, _⟩ := h
    rfl
  have h1 : Room 1 _ := hr.mono (by decide)
  have h3 : Room 3 _ := hr
  obtain ⟨B, H0, m, dx, t, d, nv, ts, ds, ⟨l, td, dn⟩, it, vp, vq, rfl, R, ar, dm, lt, hN, qg, qm, qs⟩ := h
  refine ⟨_, (pss_cons (ps_asg (pv 2) (pg_tup (by rfl) (pgs_cons (pg_name (i := 3) scTurn.nd rfl (.inl rfl)) (pgs_cons (pg_name (i := 4) scTurn.nd rfl (.inl rfl)) (pgs_cons (pg_name (i := 5) scTurn.nd rfl (.inl rfl)) pgs_nil)))))
    (pss_one (ps_if (pt_cmpR op_lt (pv 4) (pv 5) (nomark _)) (pss_cons (ps_set (i := 6) scTurn.nd rfl (.inl rfl) (pe_bm0 PySem.F.plainAttrs_list PySem.F.slot_list_pop PySem.F.type_list_pop mt_pop (pe_fld (pv 0) rfl)))
    (pss_cons (ps_expr (pe_meth (pv 0) T.cl M.mBe M.behind h1 M.bBe .nil pass0 (pa_cons (pe_glob (v := .ref A.turn) (by rfl) M.mTu rfl) (pa_cons (pv 1) (pa_cons (pe_tup (pa_cons (pv 3) (pa_cons (pe_op op_add (pv 4) pe_int) (pa_cons (pv 5) pa_nil)))) pa_nil)))))
    (pss_one (ps_expr (pe_meth (pv 0) T.cl M.mIn M.into h1 M.bIn .nil pass0 (pa_cons (pe_ix ix_tup (pv 1) pe_int (fun _ _ => rfl)) (pa_cons (pe_meth (pe_meth (pv 3) M.clS M.mWN M.withN h3 M.bWN .nil pass0 (pa_cons (pe_ix ix_tup (pv 1) pe_int (fun _ _ => rfl)) (pa_cons (pv 4) pa_nil))) M.clS M.mWL M.withL h3 M.bWL .nil pass0 (pa_cons (pe_ix ix_tup (pv 1) pe_int (fun _ _ => rfl)) (pa_cons (pv 6) pa_nil))) pa_nil))))))) pss_nil))), ?_⟩

  obtain ⟨p, sc, i, j, rfl⟩ := dm
  obtain ⟨hd1, q1, s, rfl, h1q, hsc⟩ := ar
  refine ⟨_, rfl, q1, [.ref s, .int i, .int j], rfl, .inl (.inl (rem_in _ _ h1q)), rfl, .ref s, [.int i, .int j], rfl, .int i, [.int j], rfl, .int j, [], rfl, rfl, ?_⟩
  refine ⟨_, rfl, _, rfl, _, _, rfl, rfl, _, rfl, ?_⟩
  by_cases c : i < j
  · refine decT c ?_
    obtain ⟨pa, px, pu, pb, pc, x, r, rfl, rfl⟩ := turn_shape c qs
    obtain ⟨qp, xs, rfl, hseq, hx⟩ := pg_view hd1
    cases hx with
    | cons ha hx =>
    cases hx with
    | cons hz hx =>
    cases hz
    cases hx with
    | cons hu hx =>
    cases hu
    cases hx with
    | cons hb hx =>
    cases hx with
    | cons hc hx =>
    cases hx
    have seqH : ∀ {H' : Hp}, Grow [m, t, d] H H' → SqT K H' qp _ := fun g => sqT_up rem_in (sqT_of_tups (sqT_keep (tups_same g) hseq))
    refine ⟨_, rfl, m, CM, dx, _, _, rfl, R.ho, T.cl, T.nD, mf_D _ _ _ _, .inl ⟨rfl, _, .inl (.inl R.hd)⟩, R.pop fun v1 ds1 H1 w1 g1 R1 => ?_⟩
    refine ⟨_, rfl, m, dx, _, rfl, R1.ho, mf_no _ _ _ _ _ no_be, _, rfl, _, rfl, _, rfl, _, _, rfl, rfl, _, rfl, three_le, fun q nq => ?_⟩
    have s2 := same_new (o := HO.tup [.ref s, .int (i + 1), .int j]) nq
    have R2 := R1.up s2
    have g2 := g1.trans (Grow.of (M := [m, t, d]) s2)
    have hq : rem [m, t, d] (upd H1 q (.tup [.ref s, .int (i + 1), .int j])) q = some (.tup [.ref s, .int (i + 1), .int j]) := by rw [rem_at (R1.tk.not nq)]; exact upd_same
    refine ⟨B, H0, m, dx, t, d, nv, ts, _, _, _, .ref qp, .ref q, .turn (.climb pa px pu pb pc) sc (i + 1) j, rfl, R2, fun q5 H5 g5 h5 => .turn h5 (g5 _ _ hq) (Dt.keep hd1 (tups_same (g2.trans g5))) (hsc.keep (g2.trans g5) (by omega)), by omega, fun ts3 H3 g23 R3 => ?_⟩
    have g3 := g2.trans g23
    refine ⟨_, rfl, m, dx, _, rfl, R3.ho, mf_no _ _ _ _ _ no_to, _, rfl, qp, _, 4, _, rfl, rfl, seqH g3, atI_nat (j := 4) rfl, ?_⟩
    have hsc3 := hsc.keep g3 (Nat.le_succ B)
    cases id hsc3 with
    | @mk _ dxs _ _ _ _ _ hi _ _ _ _ _ =>
    refine ⟨_, rfl, s, dxs, _, rfl, rem_in _ _ hi, scf_no _ _ _ no_wn, _, rfl, qp, _, 2, _, rfl, rfl, seqH g3, atI_nat (j := 2) rfl, _, rfl, ?_⟩
    refine ⟨[m, t, d], B + 1, s, sc, px, i, rfl, R3.tk, hsc3, by omega, fun s' H4 sm r4 => ?_⟩
    have g4 := g3.trans (Grow.of (M := [m, t, d]) sm)
    cases id r4 with
    | @mk _ dxs _ _ _ _ _ hi _ _ _ _ _ =>
    refine ⟨s', dxs, _, rfl, rem_in _ _ hi, scf_no _ _ _ no_wl, _, rfl, qp, _, 3, _, rfl, rfl, seqH g4, atI_nat (j := 3) rfl, _, rfl, ?_⟩
    refine ⟨[m, t, d], B + 2, s', sc.nm px i, pu, v1, x, rfl, R3.tk.same sm, r4, w1.keep ((Grow.of s2).trans (g23.trans (Grow.of sm))) (by omega), by omega, fun s2' H5 sm5 r5 => ?_⟩
    have g5 := g4.trans (Grow.of (M := [m, t, d]) sm5)
    exact ⟨B + 3, H0, m, dx, t, d, nv, ts3, _, _, _, s2', pb, ((sc.nm px i).lb pu x), rfl, ((R3.up sm).up sm5).mono (by omega), Dt.keep hb (tups_same g5), r5, by omega, fun ts' H' g r => qg _ (if_pos c) _ _ H' (r.mono (by omega))⟩
  · refine decF c ?_
    exact qg _ (if_neg c) _ _ _ (R.mono (by omega))
end
end Kf
set_option Elab.async false
set_option linter.all false
set_option maxRecDepth 100000
set_option maxHeartbeats 8000000
set_option pp.maxSteps 500
/-! first_programs, go_into. -/
namespace Kf
open PySem PySem.Spec PyProof.Rows L2 Sx RZ
abbrev sFP : Stmt := top 62
abbrev fPN : List Str := ["piece", "inner"]
theorem scFP : FnScope fPN ["piece"] (defScope sFP) := ⟨rfl, rfl, rfl, by decide +kernel, rfl, by decide +kernel, by decide +kernel⟩
abbrev sGI : Stmt := top 63
abbrev gIN : List Str := ["machine", "piece", "scope", "word", "named", "program"]
theorem scGI : FnScope gIN ["machine", "piece", "scope"] (defScope sGI) := ⟨rfl, rfl, rfl, by decide +kernel, rfl, by decide +kernel, by decide +kernel⟩
def Pg.isPC : Pg → Bool
  | .parts _ _ _ _ => true
  | .cases _ _ _ _ _ => true
  | _ => false
def Pg.isClimb : Pg → Bool
  | .climb _ _ _ _ _ => true
  | _ => false
/-- goes on with its programs -/
def Pg.isEnd : Pg → Bool
  | .nothing => false
  | .num _ => false
  | .name _ => false
  | .known _ _ => false
  | .lets _ _ _ => false
  | .for_ _ _ => false
  | _ => true
theorem in_pc (p : Pg) : inV (.str p.word) [.str "parts", .str "cases"] = p.isPC := by cases p <;> rfl
theorem is_climb (p : Pg) : decide (V.str p.word = V.str "climb") = p.isClimb := by cases p <;> rfl
theorem progs_pg (p : Pg) : ∃ ws, tabP.lookup p.word = some ws ∧ p.ps.length = ws.length ∧ progs p.ps ws = p.kids.map pgD := by cases p <;> exact ⟨_, rfl, rfl, rfl⟩
theorem condT {b : Bool} {A B : Prop} (h : b = true) (a : A) : if b = true then A else B := by rw [if_pos h]; exact a
theorem condF {b : Bool} {A B : Prop} (h : b = false) (a : B) : if b = true then A else B := by rw [if_neg (by rw [h]; exact Bool.false_ne_true)]; exact a
theorem firsts_else {p : Pg} (h1 : p.isPC = false) (h2 : p.isClimb = false) : firsts p = p.kids := by cases p <;> first | rfl | exact Bool.noConfusion h1 | exact Bool.noConfusion h2
section
variable {P : Program} {w : World} {K : PySem.W.Frag} {mg : Str → Option Value} {base : Heap} {C CM : Addr} {A : Acts} {f TMa fIn fBe fSt fTe fTn fWN fWL fPo fFP EN : Addr} {fd dIn dBe dSt dTe dTn dWN dWL dPo dFP : FuncData} {t0 : Tok} {ν : Str → Option Int}
def spFP (K : PySem.W.Frag) : Sp := fun vs H Q _ => ∃ (v : V) (S : Hp) (p : Pg), vs = [v] ∧ Dt K S v (pgD p) ∧ Same S H ∧ ∀ (q : Addr) (H' : Hp) (us : List V), Same H H' → H q = none → H' q = some (.lst us) → DtAll K S us ((firsts p).map pgD) → Q (.ref q) H'
theorem ok_fp (F : Fun K "first_programs" "first_programs" sFP f fd) (GPo : FnOk P w K mg base CX0 1 fPo dPo ["program"] (spProgs K)) (bPo : Binds K dPo ["program"] []) (kPo : PySem.W.keepIn K (.ref fPo) = true) (mPo : mg "programs_of" = some (.ref fPo)) : FnOk P w K mg base CX0 2 f fd ["piece"] (spFP K) := by
  refine F.ok scFP (fun vs H Q E h => ?_) (fun cdv Ar outer s0 H vs Q E hr h => ?_)
  · obtain ⟨v, S, p, rfl, _⟩ := h
    rfl
  have h1 : Room 1 _ := hr
  obtain ⟨v, S, p, rfl, hd, sm, q⟩ := h
  obtain ⟨qp, xs, rfl, hseq, hx⟩ := pg_view hd
  obtain ⟨ws, hl, hlen, hpr⟩ := progs_pg p
  have hd2 : Dp K (tups S) (.ref qp) (.tuple (.str p.word :: p.ps)) := by rw [← pgD_is]; exact hd
  have sT : Same (tups S) H := same_trans tups_in sm
  refine ⟨_, (pss_cons (ps_set (i := 1) scFP.nd rfl (.inl rfl) (pe_call GPo h1 (by rfl) mPo kPo bPo .nil pass0 (pa_cons (pv 0) pa_nil)))
    (pss_cons (ps_if (pt_cmpR op_in_seq (pe_ix ix_tup (pv 0) pe_int (fun _ _ => rfl)) (pe_tup (pa_cons pe_str (pa_cons pe_str pa_nil))) (by rfl)) (pss_one (ps_ret (pe_slice sl_list (pv 1) po_none (po_some pe_int)))) pss_nil)
    (pss_one (ps_ret (pe_ifExp (pt_cmpR op_eq (pe_ix ix_tup (pv 0) pe_int (fun _ _ => rfl)) pe_str (nomark _)) (pe_lst (pa_cons (pe_ix ix_list (pv 1) pe_int (fun _ _ => rfl)) (pa_cons (pe_ix ix_list (pv 1) pe_int (fun _ _ => rfl)) pa_nil))) (pv 1)))))), ?_⟩
  refine ⟨_, rfl, .ref qp, tups S, p.word, p.ps, ws, rfl, hd2, dp_up sT _ _ hd2, fun a xs h => sqT_up sT h, hl, hlen, fun p1 H1 us s1 np hp hus => ?_⟩
  rw [hpr] at hus
  have hus : DtAll K S us (p.kids.map pgD) := hus
  have seqH : ∀ {H' : Hp}, Same H H' → SqT K H' qp (.str p.word :: xs) := fun g => sqT_up (same_trans sT g) hseq
  refine ⟨_, rfl, qp, _, 0, _, rfl, rfl, seqH s1, head_at _ _, (by decide : 2 ≤ sizeLine), fun q2 n2 => ?_⟩
  have s2 : Same H1 (upd H1 q2 (.tup [.str "parts", .str "cases"])) := same_new n2
  have e1 := s2 _ _ hp
  have s12 := same_trans s1 s2
  refine ⟨q2, _, rfl, .inr (.inl (.inl upd_same)), rfl, rfl, _, rfl, ?_⟩
  show if inV (.str p.word) [.str "parts", .str "cases"] = true then _ else _
  rw [in_pc]
  by_cases c1 : p.isPC = true
  · refine condT c1 ⟨_, rfl, _, rfl, p1, _, rfl, .inl (.inl e1), fun q3 n3 => ?_⟩
    have fr : H q3 = none := s12.free n3
    cases p with
    | parts a x u b =>
      cases hus with
      | cons ha hus =>
      exact q q3 _ _ (same_own s12 fr) fr upd_same (.cons ha .nil)
    | cases a u b v c =>
      cases hus with
      | cons ha hus =>
      exact q q3 _ _ (same_own s12 fr) fr upd_same (.cons ha .nil)
    | _ => cases c1
  · refine condF (by cases h : p.isPC <;> first | rfl | exact absurd h c1) ?_
    refine ⟨_, rfl, qp, _, 0, _, rfl, rfl, seqH s12, head_at _ _, rfl, _, rfl, ?_⟩
    show if decide (V.str p.word = V.str "climb") = true then _ else _
    rw [is_climb]
    by_cases c2 : p.isClimb = true
    · refine condT c2 ?_
      cases p with
      | climb a x u b c =>
        cases hus with
        | cons ha hus =>
        cases hus with
        | cons hb hus =>
        cases hus with
        | cons hc hus =>
        refine ⟨_, rfl, p1, _, 2, _, rfl, rfl, .inl (.inl e1), atI_nat (j := 2) rfl, _, rfl, p1, _, 0, _, rfl, rfl, .inl (.inl e1), atI_nat (j := 0) rfl, (by decide : 2 ≤ sizeLine), fun q3 n3 => ?_⟩
        have fr : H q3 = none := s12.free n3
        exact q q3 _ _ (same_own s12 fr) fr upd_same (.cons hc (.cons ha .nil))
      | _ => cases c2
    · have c2 : p.isClimb = false := by cases h : p.isClimb <;> first | rfl | exact absurd h c2
      have c1 : p.isPC = false := by cases h : p.isPC <;> first | rfl | exact absurd h c1
      refine condF c2 ⟨_, rfl, ?_⟩
      exact q p1 _ us s12 np e1 (by rw [firsts_else c1 c2]; exact hus)
/-! ### go_into -/
theorem for_revR {K : PySem.W.Frag} {a : Addr} {xs : List V} {g : TG} {tb : TS} {D : Ends} {σ : L2.St} {H : Hp} (Pv : Nat → L2.St → Hp → Prop) (h0 : Pv 0 σ H) (hl : ∀ i σ H, i ≤ xs.length → Pv i σ H → SqL K H a xs)
    (hs : ∀ i x σ H, i < xs.length → xs[xs.length - 1 - i]? = some x → Pv i σ H → g x σ H fun σ2 H2 => tb { D with nx := Pv (i + 1), ct := Pv (i + 1), bk := D.nx } σ2 H2) (hd : ∀ σ H, Pv xs.length σ H → D.nx σ H) :
    ∃ W : Nat → Nat → L2.St → Hp → Prop, (∃ m, W 0 m σ H) ∧ ∀ i m σ H, W i m σ H →
      ((Itv K a xs.length).stop i H ∧ D.nx σ H) ∨ ((Itv K a xs.length).go i H ∧ ∃ N : L2.St → Hp → Prop, (∀ σ' H', N σ' H' → ∃ m', m' < m ∧ W (i + 1) m' σ' H') ∧ ∀ x H', (Itv K a xs.length).yld i H x H' → g x σ H' fun σ2 H2 => tb { D with nx := N, ct := N, bk := D.nx } σ2 H2) := by
  refine ⟨fun i m σ H => m = xs.length - i ∧ i ≤ xs.length ∧ Pv i σ H, ⟨xs.length, by simp, Nat.zero_le _, h0⟩, ?_⟩
  rintro i m σ H ⟨rfl, hi, p⟩
  have q := hl i σ H hi p
  by_cases hlt : i < xs.length
  · have lt2 : xs.length - 1 - i < xs.length := by omega
    refine .inr ⟨⟨hlt, xs, xs[xs.length - 1 - i], q, List.getElem?_eq_getElem lt2⟩, Pv (i + 1), fun σ' H' p' => ⟨xs.length - (i + 1), by omega, rfl, hlt, p'⟩, fun x H' y => ?_⟩
    obtain ⟨rfl, e⟩ := y
    exact hs i x σ H' hlt (e xs q) p
  · exact .inl ⟨show xs.length ≤ i by omega, hd σ H (by rw [show xs.length = i by omega]; exact p)⟩
theorem dts_len {K : PySem.W.Frag} {S : Hp} {us : List V} {ds : List PyData} (h : DtAll K S us ds) : us.length = ds.length := by
  induction us generalizing ds with
  | nil => cases h; rfl
  | cons x us ih =>
    cases h with
    | cons h1 h => exact congrArg (· + 1) (ih h)
theorem dts_get {K : PySem.W.Frag} {S : Hp} : ∀ {us : List V} {l : List Pg} {j : Nat} {x : V}, DtAll K S us (l.map pgD) → us[j]? = some x → ∃ a, l[j]? = some a ∧ Dt K S x (pgD a)
  | [], l, j, x, _, e => by cases e
  | u :: us, [], j, x, h, _ => by cases h
  | u :: us, a :: l, j, x, h, e => by
    cases h with
    | cons h1 h =>
    cases j with
    | zero => cases e; exact ⟨a, rfl, h1⟩
    | succ j => exact dts_get (l := l) h e
theorem len_firsts (p : Pg) : (firsts p).length ≤ 3 := by cases p <;> simp [firsts, Pg.kids]
structure EndsT (K : PySem.W.Frag) (w : World) (mg : Str → Option Value) (A : Acts) (EN : Addr) : Prop where
  mE : mg "ENDS" = some (.ref EN)
  dict : ∃ es n, KDict K w EN es n
  at_ : ∀ p : Pg, p.isEnd = true → PySem.W.nsIn K EN p.word = some (some (.ref (A.fin p)))
theorem word_end {p : Pg} (h : p.isEnd = true) : (p.word == "nothing") = false ∧ (p.word == "num") = false ∧ (p.word == "name") = false ∧ (p.word == "known") = false ∧ inV (.str p.word) [.str "lets", .str "for"] = false := by
  cases p <;> first | exact Bool.noConfusion h | exact ⟨rfl, rfl, rfl, rfl, rfl⟩
theorem in_lf {p : Pg} (h : p.isEnd = true) : inV (.str p.word) [.str "lets", .str "for"] = false := (word_end h).2.2.2.2
theorem step_end {p : Pg} (h : p.isEnd = true) {ν : Str → Option Int} {sc : Scp} {l : Int} {td : List Item} {dn : List Wv} (c : ¬ l ≤ 0) : stepI ν (.into p sc) ⟨l, td, dn⟩ = .go ⟨l - 1, (firsts p).map (fun a => .into a sc) ++ .fin p sc :: td, dn⟩ := by
  show stepIn ν p sc _ = _
  unfold stepIn
  rw [if_neg c]
  cases p <;> first | exact Bool.noConfusion h | rfl
theorem w_ln : (("name" : Str) == "nothing") = false := by decide +kernel
theorem w_un : (("num" : Str) == "nothing") = false := by decide +kernel
theorem w_nu : (("name" : Str) == "num") = false := by decide +kernel
theorem w_kn : (("known" : Str) == "nothing") = false := by decide +kernel
theorem w_ku : (("known" : Str) == "num") = false := by decide +kernel
theorem w_ka : (("known" : Str) == "name") = false := by decide +kernel
theorem w_en : (("lets" : Str) == "nothing") = false := by decide +kernel
theorem w_eu : (("lets" : Str) == "num") = false := by decide +kernel
theorem w_ea : (("lets" : Str) == "name") = false := by decide +kernel
theorem w_ek : (("lets" : Str) == "known") = false := by decide +kernel
theorem w_fn : (("for" : Str) == "nothing") = false := by decide +kernel
theorem w_fu : (("for" : Str) == "num") = false := by decide +kernel
theorem w_fa : (("for" : Str) == "name") = false := by decide +kernel
theorem w_fk : (("for" : Str) == "known") = false := by decide +kernel
def goDom (ν : Str → Option Int) (it : Item) : Prop := ∃ p sc, it = .into p sc ∧ (∀ n, p = .num n → 0 ≤ n) ∧ (∀ z n, sc.named.lookup z = some n → 0 ≤ n) ∧ ∀ z n, ν z = some n → 0 ≤ n
theorem ok_gi (F : Fun K "go_into" "go_into" sGI f fd) (T : MaC K mg CM A t0) (SC : ScC K mg C) (zRev : mg "reversed" = none) (M : MaM P w K mg base C CM A TMa fIn fBe fSt fTe fTn fWN fWL dIn dBe dSt dTe dTn dWN dWL) (EE : EndsT K w mg A EN) (GFP : FnOk P w K mg base CX0 2 fFP dFP ["piece"] (spFP K)) (bFP : Binds K dFP ["piece"] []) (kFP : PySem.W.keepIn K (.ref fFP) = true) (mFP : mg "first_programs" = some (.ref fFP)) :
    FnOk P w K mg base (L2.CX P w) 4 f fd ["machine", "piece", "scope"] (spAct K C CM A TMa ν (goDom ν)) := by
  refine F.okX scGI (fun vs H Q E h => ?_) (fun cdv Ar outer s0 H vs Q E hr h => ?_)
  · obtain ⟨B, H0, m, dx, t, d, nv, ts, ds, S, it, vp, vq, rfl, _⟩ := h
    rfl
  have h1 : Room 1 _ := hr.mono (by decide)
  have h3 : Room 2 _ := hr.mono (by decide)
  have u1 : (Ar.deeper (envOfC "go_into" (defScope sGI) s0.heap.objs.size f cdv)).units + 1 < cLine := by
    have := hr.units
    omega
  obtain ⟨B, H0, m, dx, t, d, nv, ts, ds, ⟨l, td, dn⟩, it, vp, vq, rfl, R, ar, dm, lt, hN, qg, qm, qs⟩ := h
  obtain ⟨p, sc, rfl, hnum, hnam, hnu⟩ := dm
  obtain ⟨hd1, s, rfl, hsc⟩ := ar
  obtain ⟨qp, xs, rfl, hseq, hx⟩ := pg_view hd1
  have seqH : ∀ {H' : Hp}, Grow [m, t, d] H H' → SqT K H' qp (.str p.word :: xs) := fun g => sqT_up rem_in (sqT_of_tups (sqT_keep (tups_same g) hseq))
  refine ⟨_, (pss_cons (ps_expr (pe_meth0 (pv 0) T.cl M.mSt M.step h1 M.bSt .nil (passes_call (takes_of rfl rfl rfl rfl) (fun _ _ _ _ h => h))))
    (pss_cons (ps_set (i := 3) scGI.nd rfl (.inl rfl) (pe_ix ix_tup (pv 1) pe_int (fun _ _ => rfl)))
    (pss_one (ps_if (pt_cmpR op_eq (pv 3) pe_str (nomark _)) (pss_one (ps_expr (pe_meth (pv 0) T.cl M.mTe M.tell h1 M.bTe .nil pass0 (pa_cons pe_non pa_nil)))) (pss_one (ps_if (pt_cmpR op_eq (pv 3) pe_str (nomark _)) (pss_one (ps_expr (pe_meth (pv 0) T.cl M.mTn M.tellN h1 M.bTn .nil (passes_call (takes_of rfl rfl rfl rfl) (fun _ _ _ _ h => h)) (pa_cons (pe_ix ix_tup (pv 1) pe_int (fun _ _ => rfl)) pa_nil)))) (pss_one (ps_if (pt_cmpR op_eq (pv 3) pe_str (nomark _)) (pss_cons (ps_set (i := 4) scGI.nd rfl (.inl rfl) (pe_ifExp (pt_cmp (pc_din u1 (pe_ix ix_tup (pv 1) pe_int (fun _ _ => rfl)) (pe_fld (pv 2) rfl))) (pe_fld (pv 2) rfl) (pe_fld (pv 0) rfl)))
    (pss_one (ps_expr (pe_meth (pv 0) T.cl M.mTn M.tellN h1 M.bTn .nil (passes_call (takes_of rfl rfl rfl rfl) (fun _ _ _ _ h => h)) (pa_cons (pe_dget u1 (pv 4) (pe_ix ix_tup (pv 1) pe_int (fun _ _ => rfl)) (fun _ _ => rfl)) pa_nil))))) (pss_one (ps_if (pt_cmpR op_eq (pv 3) pe_str (nomark _)) (pss_one (ps_expr (pe_meth (pv 0) T.cl M.mTe M.tell h1 M.bTe .nil pass0 (pa_cons (pe_dget u1 (pe_fld (pv 2) rfl) (pe_ix ix_tup (pv 1) pe_int (fun _ _ => rfl)) (fun _ _ => rfl)) pa_nil)))) (pss_one (ps_if (pt_cmpR op_in_seq (pv 3) (pe_tup (pa_cons pe_str (pa_cons pe_str pa_nil))) (by rfl)) (pss_one (ps_expr (pe_meth (pv 0) T.cl M.mTe M.tell h1 M.bTe .nil pass0 (pa_cons (pe_tup (pa_cons (pv 1) (pa_cons (pv 2) pa_nil))) pa_nil)))) (pss_cons (ps_expr (pe_meth (pv 0) T.cl M.mBe M.behind h1 M.bBe .nil pass0 (pa_cons (pe_ix ix_kdict (pe_glob (v := .ref EN) (by rfl) EE.mE rfl) (pv 3) (fun _ _ => rfl)) (pa_cons (pv 1) (pa_cons (pv 2) pa_nil)))))
    (pss_one (ps_for (passes_of rfl) rfl (pi_reversed (by rfl) zRev (pa_cons (pe_call GFP h3 (by rfl) mFP kFP bFP .nil pass0 (pa_cons (pv 1) pa_nil)) pa_nil)) (pg_name (i := 5) scGI.nd rfl (.inl rfl)) (pss_one (ps_expr (pe_meth (pv 0) T.cl M.mIn M.into h1 M.bIn .nil pass0 (pa_cons (pv 5) (pa_cons (pv 2) pa_nil)))))))))))))))))))), ?_⟩
  refine ⟨_, rfl, m, dx, _, rfl, R.ho, mf_no _ _ _ _ _ no_st, ?_⟩
  refine ⟨B, H0, m, dx, t, d, nv, ts, ds, _, rfl, R, fun c H' sm => qm (if_pos c) H' sm, fun c H1 g1 R1 => ?_⟩
  have c : ¬ l ≤ 0 := Int.not_le.mpr c
  have hsc1 := hsc.keep g1 (Nat.le_refl _)
  refine ⟨_, rfl, qp, _, 0, _, rfl, rfl, seqH g1, head_at _ _, ?_⟩
  by_cases ie : p.isEnd = true
  · obtain ⟨a1, a2, a3, a4, a5⟩ := word_end ie
    refine ⟨_, rfl, rfl, _, rfl, wdF a1 ?_⟩
    refine ⟨_, rfl, rfl, _, rfl, wdF a2 ?_⟩
    refine ⟨_, rfl, rfl, _, rfl, wdF a3 ?_⟩
    refine ⟨_, rfl, rfl, _, rfl, wdF a4 ?_⟩
    refine ⟨_, rfl, (by decide : 2 ≤ sizeLine), fun q2 n2 => ⟨q2, _, rfl, .inr (.inl (.inl upd_same)), rfl, rfl, _, rfl, condF a5 ?_⟩⟩
    have s2 := same_new (o := HO.tup [.str "lets", .str "for"]) n2
    have R2 := R1.up s2
    have g2 := g1.trans (Grow.of (M := [m, t, d]) s2)
    obtain ⟨es, n, D⟩ := EE.dict
    refine ⟨_, rfl, m, dx, _, rfl, R2.ho, mf_no _ _ _ _ _ no_be, _, rfl, EN, _, .ref (A.fin p), rfl, rfl, ⟨es, n, _, D.at_, D.lit, EE.at_ p ie, rfl⟩, _, rfl, _, rfl, ?_⟩
    refine ⟨B, H0, m, dx, t, d, nv, ts, ds, _, .ref (A.fin p), .ref qp, .ref s, .fin p sc, rfl, R2, fun q5 H5 g5 h5 => .fin h5 (Dt.keep hd1 (tups_same (g2.trans g5))) (hsc.keep (g2.trans g5) (Nat.le_refl _)), by omega, fun ts3 H3 g23 R3 => ?_⟩
    have g3 := g2.trans g23
    refine ⟨_, rfl, .ref qp, rem [m, t, d] H, p, rfl, hd1, same_trans g3 rem_in, fun qf H4 us s4 nf hf hus => ⟨qf, us, rfl, .inl (.inl hf), ?_⟩⟩
    have R4 := R3.up s4
    have g4 := g3.trans (Grow.of (M := [m, t, d]) s4)
    have nM := R3.tk.not nf
    have ul : us.length = (firsts p).length := by rw [dts_len hus, List.length_map]
    have fl := len_firsts p
    refine for_revR (K := K) (a := qf) (xs := us) (fun i σ Y => ∃ (y5 : Option V) (ts' : List V), σ = [some (.ref m), some (.ref qp), some (.ref s), some (.str p.word), none, y5] ∧ MIn K C CM A (B + 1 + i) H0 Y m dx t d nv ts' ds ⟨l - 1, ((firsts p).drop ((firsts p).length - i)).map (fun a => .into a sc) ++ .fin p sc :: td, dn⟩ ∧ Grow [m, t, d] H4 Y)
      ⟨_, ts3, rfl, ?_, Grow.refl⟩ (fun i σ Y _ ⟨_, _, _, _, g⟩ => .inl (.inl (rem_in _ _ (g _ _ (by rw [rem_at nM]; exact hf))))) ?_ ?_
    · rw [Nat.sub_zero, List.drop_length]
      exact R4
    · rintro i x σ Y hi hx ⟨y5, ts', rfl, RY, gY⟩
      obtain ⟨a, ha, hda⟩ := dts_get hus hx
      have gA := g4.trans gY
      refine ⟨_, rfl, m, dx, _, rfl, RY.ho, mf_no _ _ _ _ _ no_to, _, rfl, _, rfl, ?_⟩
      refine ⟨B + 1 + i, H0, m, dx, t, d, nv, ts', ds, _, x, s, a, sc, rfl, RY, Dt.keep hda (tups_same gA), hsc.keep gA (by omega), by omega, fun ts5 H5 g5 R5 => ⟨_, ts5, rfl, ?_, gY.trans g5⟩⟩
      have il : i < (firsts p).length := by omega
      have e : (firsts p).drop ((firsts p).length - (i + 1)) = a :: (firsts p).drop ((firsts p).length - i) := by
        have lt : (firsts p).length - (i + 1) < (firsts p).length := by omega
        rw [List.drop_eq_getElem_cons lt]
        have e1 : (firsts p)[(firsts p).length - (i + 1)]? = some a := by
          rw [← ul, show us.length - (i + 1) = us.length - 1 - i by omega]
          exact ha
        rw [(List.getElem?_eq_some_iff.mp e1).2, show (firsts p).length - (i + 1) + 1 = (firsts p).length - i by omega]
      rw [e]
      exact R5
    · rintro σ Y ⟨y5, ts', rfl, RY, gY⟩
      rw [ul, Nat.sub_self, List.drop_zero] at RY
      exact qg _ (step_end ie c) _ _ Y (RY.mono (by omega))
  cases p with
  | nothing =>
    refine ⟨_, rfl, rfl, _, rfl, wdT rfl ?_⟩
    refine ⟨_, rfl, m, dx, _, rfl, R1.ho, mf_no _ _ _ _ _ no_te, ?_⟩
    exact ⟨B, H0, m, dx, t, d, nv, ts, ds, _, _, .none, rfl, R1, .none, by omega, fun H' g r => qg _ (if_neg c) _ _ H' (r.mono (by omega))⟩
  | num n =>
    cases hx with
    | cons hz hx =>
    cases hz
    refine ⟨_, rfl, rfl, _, rfl, wdF w_un ?_⟩
    refine ⟨_, rfl, rfl, _, rfl, wdT rfl ?_⟩
    refine ⟨_, rfl, m, dx, _, rfl, R1.ho, mf_no _ _ _ _ _ no_tn, _, rfl, qp, _, 1, _, rfl, rfl, seqH g1, atI_nat (j := 1) rfl, ?_⟩
    have e : stepI ν (.into (.num n) sc) ⟨l, td, dn⟩ = tellN ⟨l - 1, td, dn⟩ n := if_neg c
    exact ⟨B, H0, m, dx, t, d, nv, ts, ds, _, n, rfl, R1, by omega, hnum n rfl, fun c H' s => qm (e.trans (tellN_many c)) H' s, fun c H' g r => qg _ (e.trans (tellN_to c)) _ _ H' (r.mono (by omega))⟩
  | name z =>
    cases hx with
    | cons hz hx =>
    cases hz
    refine ⟨_, rfl, rfl, _, rfl, wdF w_ln ?_⟩
    refine ⟨_, rfl, rfl, _, rfl, wdF w_nu ?_⟩
    refine ⟨_, rfl, rfl, _, rfl, wdT rfl ?_⟩
    cases id hsc1 with
    | @mk _ dxs a b _ _ _ hi ha _ _ _ _ =>
    refine ⟨_, rfl, qp, _, 1, _, rfl, rfl, seqH g1, atI_nat (j := 1) rfl, _, rfl, s, C, dxs, _, _, rfl, rem_in _ _ hi, SC.cl, SC.nN, scf_N _ _, a, _, rfl, DGet.k (k := Sum.inr z) (rem_in _ _ ha), _, rfl, ?_⟩
    show if (valV (nkI sc.named) (Sum.inr z : Key)).isSome = true then _ else _
    rw [valV_nkI]
    cases en : sc.named.lookup z with
    | some n =>
      have e : stepI ν (.into (.name z) sc) ⟨l, td, dn⟩ = tellN ⟨l - 1, td, dn⟩ n := (if_neg c).trans (by dsimp only; rw [en])
      refine condT rfl ⟨_, rfl, s, C, dxs, _, _, rfl, rem_in _ _ hi, SC.cl, SC.nN, scf_N _ _, ?_⟩
      refine ⟨_, rfl, m, dx, _, rfl, R1.ho, mf_no _ _ _ _ _ no_tn, _, rfl, _, rfl, qp, _, 1, _, rfl, rfl, seqH g1, atI_nat (j := 1) rfl, a, .int n, rfl, ?_, ?_⟩
      · have := DGet.k (k := Sum.inr z) (rem_in _ _ ha : H1 a = _)
        rw [valV_nkI, en] at this
        exact this
      exact ⟨B, H0, m, dx, t, d, nv, ts, ds, _, n, rfl, R1, by omega, hnam z n en, fun c H' s => qm (e.trans (tellN_many c)) H' s, fun c H' g r => qg _ (e.trans (tellN_to c)) _ _ H' (r.mono (by omega))⟩
    | none =>
      refine condF rfl ⟨_, rfl, m, CM, dx, _, _, rfl, R1.ho, T.cl, T.nN, mf_N _ _ _ _, ?_⟩
      obtain ⟨nq, kvs, rfl, hk, hv⟩ := hN
      have hk1 := rem_in _ _ (R1.same _ _ hk)
      cases ez : ν z with
      | none =>
        refine (qs ((if_neg c).trans ?_)).elim
        dsimp only
        rw [en]
        dsimp only
        rw [ez]
      | some n =>
      have e : stepI ν (.into (.name z) sc) ⟨l, td, dn⟩ = tellN ⟨l - 1, td, dn⟩ n := (if_neg c).trans (by
        dsimp only
        rw [en]
        dsimp only
        rw [ez])
      refine ⟨_, rfl, m, dx, _, rfl, R1.ho, mf_no _ _ _ _ _ no_tn, _, rfl, _, rfl, qp, _, 1, _, rfl, rfl, seqH g1, atI_nat (j := 1) rfl, nq, .int n, rfl, ?_, ?_⟩
      · have := DGet.k (k := Sum.inr z) hk1
        rw [hv z, ez] at this
        exact this
      exact ⟨B, H0, m, dx, t, d, _, ts, ds, _, n, rfl, R1, by omega, hnu z n ez, fun c H' s => qm (e.trans (tellN_many c)) H' s, fun c H' g r => qg _ (e.trans (tellN_to c)) _ _ H' (r.mono (by omega))⟩
  | known z k =>
    cases hx with
    | cons hz hx =>
    cases hz
    refine ⟨_, rfl, rfl, _, rfl, wdF w_kn ?_⟩
    refine ⟨_, rfl, rfl, _, rfl, wdF w_ku ?_⟩
    refine ⟨_, rfl, rfl, _, rfl, wdF w_ka ?_⟩
    refine ⟨_, rfl, rfl, _, rfl, wdT rfl ?_⟩
    cases id hsc1 with
    | @mk _ dxs a b _ _ _ hi ha hb _ _ hk =>
    cases en : sc.known.lookup z with
    | none =>
      refine (qs ((if_neg c).trans ?_)).elim
      dsimp only
      rw [en]
    | some x =>
    obtain ⟨v, ev, hv⟩ := hk.get en
    have e : stepI ν (.into (.known z k) sc) ⟨l, td, dn⟩ = tellW ⟨l - 1, td, dn⟩ x := (if_neg c).trans (by dsimp only; rw [en])
    refine ⟨_, rfl, m, dx, _, rfl, R1.ho, mf_no _ _ _ _ _ no_te, _, rfl, s, C, dxs, _, _, rfl, rem_in _ _ hi, SC.cl, SC.nK, scf_K _ _, _, rfl, qp, _, 1, _, rfl, rfl, seqH g1, atI_nat (j := 1) rfl, b, v, rfl, ?_, ?_⟩
    · have := DGet.k (k := Sum.inr z) (rem_in _ _ hb : H1 b = _)
      rw [ev] at this
      exact this
    exact ⟨B, H0, m, dx, t, d, nv, ts, ds, _, v, x, rfl, R1, hv, by omega, fun H' g r => qg _ e _ _ H' (r.mono (by omega))⟩
  | lets z k a =>
    refine ⟨_, rfl, rfl, _, rfl, wdF w_en ?_⟩
    refine ⟨_, rfl, rfl, _, rfl, wdF w_eu ?_⟩
    refine ⟨_, rfl, rfl, _, rfl, wdF w_ea ?_⟩
    refine ⟨_, rfl, rfl, _, rfl, wdF w_ek ?_⟩
    refine ⟨_, rfl, (by decide : 2 ≤ sizeLine), fun q2 n2 => ⟨q2, _, rfl, .inr (.inl (.inl upd_same)), rfl, rfl, _, rfl, condT rfl ?_⟩⟩
    have s2 := same_new (o := HO.tup [.str "lets", .str "for"]) n2
    have R2 := R1.up s2
    refine ⟨_, rfl, m, dx, _, rfl, R2.ho, mf_no _ _ _ _ _ no_te, _, rfl, _, rfl, (by decide : 2 ≤ sizeLine), fun q3 n3 => ?_⟩
    have s3 := same_new (o := HO.tup [.ref qp, .ref s]) n3
    have R3 := R2.up s3
    have g3 := g1.trans ((Grow.of (M := [m, t, d]) s2).trans (Grow.of s3))
    exact ⟨B, H0, m, dx, t, d, nv, ts, ds, _, _, .rule (.lets z k a) sc.named sc.known, rfl, R3, .rule (by rw [rem_at (R2.tk.not n3)]; exact upd_same) (Dt.keep hd1 (tups_same g3)) (hsc.keep g3 (Nat.le_refl _)), by omega, fun H' g r => qg _ (if_neg c) _ _ H' (r.mono (by omega))⟩
  | for_ z a =>
    refine ⟨_, rfl, rfl, _, rfl, wdF w_fn ?_⟩
    refine ⟨_, rfl, rfl, _, rfl, wdF w_fu ?_⟩
    refine ⟨_, rfl, rfl, _, rfl, wdF w_fa ?_⟩
    refine ⟨_, rfl, rfl, _, rfl, wdF w_fk ?_⟩
    refine ⟨_, rfl, (by decide : 2 ≤ sizeLine), fun q2 n2 => ⟨q2, _, rfl, .inr (.inl (.inl upd_same)), rfl, rfl, _, rfl, condT rfl ?_⟩⟩
    have s2 := same_new (o := HO.tup [.str "lets", .str "for"]) n2
    have R2 := R1.up s2
    refine ⟨_, rfl, m, dx, _, rfl, R2.ho, mf_no _ _ _ _ _ no_te, _, rfl, _, rfl, (by decide : 2 ≤ sizeLine), fun q3 n3 => ?_⟩
    have s3 := same_new (o := HO.tup [.ref qp, .ref s]) n3
    have R3 := R2.up s3
    have g3 := g1.trans ((Grow.of (M := [m, t, d]) s2).trans (Grow.of s3))
    exact ⟨B, H0, m, dx, t, d, nv, ts, ds, _, _, .rule (.for_ z a) sc.named sc.known, rfl, R3, .rule (by rw [rem_at (R2.tk.not n3)]; exact upd_same) (Dt.keep hd1 (tups_same g3)) (hsc.keep g3 (Nat.le_refl _)), by omega, fun H' g r => qg _ (if_neg c) _ _ H' (r.mono (by omega))⟩
  | _ => exact absurd rfl ie
end
end Kf
set_option Elab.async false
set_option linter.all false
set_option maxRecDepth 100000
set_option maxHeartbeats 8000000
set_option pp.maxSteps 500
/-! run. -/
namespace Kf
open PySem PySem.Spec PyProof.Rows L2 Sx RZ
abbrev sRun : Stmt := top 64
abbrev runN : List Str := ["program", "numbers", "limit", "kind", "names", "knowns", "name", "machine", "act", "piece", "scope"]
theorem scRun : FnScope runN ["program", "numbers", "limit"] (defScope sRun) := ⟨rfl, rfl, rfl, by decide +kernel, rfl, by decide +kernel, by decide +kernel⟩
/-! ### a def in a slot that may raise -/
structure HeldX (P : Program) (w : World) (K : PySem.W.Frag) (mg : Str → Option Value) (base : Heap) (k : Nat) (f : Addr) (sp : Sp) : Prop where
  ex : ∃ (fd : FuncData) (ps : List Str), FnOk P w K mg base (L2.CX P w) k f fd ps sp ∧ PySem.W.keepIn K (.ref f) = true ∧ Binds K fd ps []
def tCallX (P : Program) (w : World) (K : PySem.W.Frag) (mg : Str → Option Value) (base : Heap) (E : XK) (k i : Nat) (t : TA) : TE := fun σ H Q => ∃ f sp, σ[i]? = some (some (.ref f)) ∧ HeldX P w K mg base k f sp ∧ t σ H fun vs H1 => sp vs H1 Q E
theorem pe_callX {X : Cx} {E : XK} {k i : Nat} {x : Str} {p pos : Pos} {e : Expr} {es : List Expr} {t : TA} (hr : Room k X.A) (hN : X.N[i]? = some x) (hv : Vis X.env.scope x) (hx : Passes (L2.CX X.prog X.w) X E) (ha : PA X (e :: es) t)
    (hdb : (x == ("__debug__" : Str)) = false := by decide) (hcd : (x == ("__classdict__" : Str)) = false := by decide)
    (he : starEach (e :: es) X.env = (false, eval e X.env) :: starEach es X.env := by rfl) (hpl : (backTo pos (starEach es X.env)).any (·.1) = false := by rfl) : PE X (.Call (.Name x p) (e :: es) [] pos) (tCallX X.prog X.w X.K X.mg X.base E k i t) := by
  refine ⟨fun pins s σ H Q I h => ?_⟩
  obtain ⟨f, sp, hs, hS, ht⟩ := h
  obtain ⟨fd, ps, F, hk, hb⟩ := hS.ex
  refine (pe_callL (i := i) (f := f) (sp := sp) (dvs := []) (E := E) F hr hN hv hk hb .nil hx ha hdb hcd he hpl).run pins s σ H Q I ⟨hs, ?_⟩
  have e0 : (fun (vs : List V) (H1 : Hp) => sp (vs ++ []) H1 Q E) = fun vs H1 => sp vs H1 Q E := by
    funext vs H1
    rw [List.append_nil]
  show t σ H (fun vs H1 => sp (vs ++ []) H1 Q E)
  rw [e0]
  exact ht
section
variable {P : Program} {w : World} {K : PySem.W.Frag} {mg : Str → Option Value} {base : Heap} {C CM : Addr} {A : Acts} {f TMa fIn fBe fSt fTe fTn fWN fWL fPo fFP EN fI fJ PT fj fh fMI fSI : Addr} {fd dIn dBe dSt dTe dTn dWN dWL dPo dFP dI dJ dj dh dMI dSI : FuncData} {t0 : Tok} {ν : Str → Option Int}
/-! ### a machine made -/
def spMaI (CM : Addr) : Sp := fun vs H Q _ => ∃ (p dx : Addr) (nv : V) (l : Int), vs = [.ref p, nv, .int l] ∧ H p = some (.ins CM dx []) ∧ ∀ H' t d, t ≠ d → H t = none → H d = none → H' p = some (.ins CM dx (mf nv l t d)) → H' t = some (.lst []) → H' d = some (.lst []) → (∀ q, q ≠ p → q ≠ t → q ≠ d → H' q = H q) → Q .non H'
theorem ok_maI (F : Fun K "__init__" "Machine.__init__" sMaI f fd) (T : MaC K mg CM A t0) : FnOk P w K mg base CX0 1 f fd ["self", "numbers", "limit"] (spMaI CM) := by
  refine F.ok scMaI (fun vs H Q E h => ?_) (fun cdv Ar outer s H vs Q E hr h => ?_)
  · obtain ⟨p, dx, nv, l, rfl, _⟩ := h
    rfl
  obtain ⟨p, dx, nv, l, rfl, hp, q⟩ := h
  refine ⟨_, (pss_cons (ps_fld (pv 0) (pv 1) rfl)
    (pss_cons (ps_fld (pv 0) (pv 2) rfl)
    (pss_cons (ps_fld (pv 0) (pe_lst pa_nil) rfl)
    (pss_one (ps_fld (pv 0) (pe_lst pa_nil) rfl))))), ?_⟩
  refine ⟨_, rfl, _, rfl, p, CM, dx, [], rfl, hp, T.cl, T.nN, (by show 0 < 1000; decide), ?_⟩
  refine ⟨_, rfl, _, rfl, p, CM, dx, _, rfl, upd_same, T.cl, T.nL, (by show 1 < 1000; decide), ?_⟩
  refine ⟨Nat.zero_le _, fun t nt => ?_⟩
  have ntp : t ≠ p := (ne_of_none upd_same nt).symm
  refine ⟨_, rfl, p, CM, dx, _, rfl, by rw [upd_ne ntp.symm]; exact upd_same, T.cl, T.nT, (by show 2 < 1000; decide), ?_⟩
  refine ⟨Nat.zero_le _, fun d nd => ?_⟩
  have ndp : d ≠ p := (ne_of_none upd_same nd).symm
  have ndt : t ≠ d := ne_of_none (by rw [upd_ne ntp]; exact upd_same) nd
  refine ⟨_, rfl, p, CM, dx, _, rfl, by rw [upd_ne ndp.symm]; exact upd_same, T.cl, T.nD, (by show 3 < 1000; decide), ?_⟩
  have tn : H t = none := by
    rw [upd_ne ntp, upd_ne ntp] at nt
    exact nt
  have dn : H d = none := by
    rw [upd_ne ndp, upd_ne ndt.symm, upd_ne ndp, upd_ne ndp] at nd
    exact nd
  refine q _ t d ndt tn dn ?_ ?_ ?_ ?_
  · rw [upd_same]
    have e1 : putF "left" (V.int l) (putF "numbers" nv []) = [(("numbers" : Str), nv), ("left", V.int l)] := by
      show (if ("numbers" : Str) = "left" then _ else (("numbers" : Str), nv) :: [(("left" : Str), V.int l)]) = _
      rw [if_neg (nbeq k_ln)]
    have e2 : putF "todo" (V.ref t) [(("numbers" : Str), nv), ("left", V.int l)] = [(("numbers" : Str), nv), ("left", V.int l), ("todo", V.ref t)] := by
      show (if ("numbers" : Str) = "todo" then _ else (("numbers" : Str), nv) :: (if ("left" : Str) = "todo" then _ else (("left" : Str), V.int l) :: [(("todo" : Str), V.ref t)])) = _
      rw [if_neg (nbeq k_tn), if_neg (nbeq k_tl)]
    have e3 : putF "done" (V.ref d) [(("numbers" : Str), nv), ("left", V.int l), ("todo", V.ref t)] = mf nv l t d := by
      show (if ("numbers" : Str) = "done" then _ else (("numbers" : Str), nv) :: (if ("left" : Str) = "done" then _ else (("left" : Str), V.int l) :: (if ("todo" : Str) = "done" then _ else (("todo" : Str), V.ref t) :: [(("done" : Str), V.ref d)]))) = _
      rw [if_neg (nbeq k_dn), if_neg (nbeq k_dl), if_neg (nbeq k_dt)]
      rfl
    rw [e1, e2, e3]
  · rw [upd_ne ntp, upd_ne ndt, upd_ne ntp, upd_same]
  · rw [upd_ne ndp, upd_same]
  · intro x n1 n2 n3
    rw [upd_ne n1, upd_ne n3, upd_ne n1, upd_ne n2, upd_ne n1, upd_ne n1]
structure MaM2 (P : Program) (w : World) (K : PySem.W.Frag) (mg : Str → Option Value) (base : Heap) (CM fMI : Addr) (dMI : FuncData) : Prop where
  made : Mk K CM fMI
  ini : FnOk P w K mg base CX0 1 fMI dMI ["self", "numbers", "limit"] (spMaI CM)
  bI : L2.Binds K dMI ["self", "numbers", "limit"] []
/-! ### run -/
def NoFrom : Kd → Prop
  | .none => True
  | .number => True
  | .pair a b => NoFrom a ∧ NoFrom b
  | .frm _ _ => False
  | .either a b => NoFrom a ∧ NoFrom b
def spHF (K : PySem.W.Frag) : Sp := fun vs H Q _ => ∃ (v : V) (k : Kd), vs = [v] ∧ Dt K H v (kdD k) ∧ k.Okz ∧ NoFrom k ∧ ∀ H', Same H H' → Q (.bl false) H'
structure ZB (mg : Str → Option Value) : Prop where
  zLen : mg "len" = none
/-- the acts in their places -/
structure ActsAt (P : Program) (w : World) (K : PySem.W.Frag) (mg : Str → Option Value) (base : Heap) (C CM : Addr) (A : Acts) (TMa : Addr) : Prop where
  into : ∀ ν, HeldX P w K mg base 4 A.into (spAct K C CM A TMa ν (goDom ν))
  turn : ∀ ν, HeldX P w K mg base 4 A.turn (spAct K C CM A TMa ν (fun it => ∃ p sc i t, it = .turn p sc i t))
  fin : ∀ ν (p : Pg), p.isEnd = true → ∃ dom : Item → Prop, (∀ sc, dom (.fin p sc)) ∧ HeldX P w K mg base 4 (A.fin p) (spAct K C CM A TMa ν dom)
def spRun (K : PySem.W.Frag) (C : Addr) (PT TMa : Addr) : Sp := fun vs H Q E => ∃ (v : V) (nq : Addr) (l : Int) (p : Pg) (k : Kd) (N : List Str) (ν : Str → Option Int) (kvs : List (Key × V)) (n : Nat) (o : Out), vs = [v, .ref nq, .int l] ∧ Dt K H v (pgD p) ∧ Ty (N, []) p k ∧ k.Okz ∧ NoFrom k ∧ N.length < 64 ∧ p.deep ≤ 50 ∧ p.size ≤ 5000 ∧ GxR.TabG H PT ∧
  H nq = some (.dK kvs) ∧ (∀ z, valV kvs (.inr z) = (ν z).map V.int) ∧ (∀ z n, ν z = some n → 0 ≤ n) ∧ (∀ z ∈ opn p, ∃ n, ν z = some n) ∧ EndsM ν n (st0 p l) o ∧ 10 * n + 100 ≤ sizeLine ∧
  (∀ w, o = .told w → ∀ v' H', Gen PT H H' → WvAt K C sizeLine H' v' w → Q v' H') ∧ (o = .many → ∀ H', Gen PT H H' → E (.ref TMa) none H')
theorem go_dom {G : Str → Prop} {p : Pg} {sc : Scp} {r : List Item} {Γ : List Kd} {k : Kd} (h : OkT G (.into p sc :: r) Γ k) (ν0 : ∀ z n, ν z = some n → 0 ≤ n) : goDom ν (.into p sc) := by
  cases h with
  | into ty hs _ =>
    refine ⟨p, sc, rfl, fun n e => ?_, fun z n e => hs.n.2 z n e, ν0⟩
    subst e
    cases ty with
    | num h0 _ => exact h0
theorem fin_end {G : Str → Prop} {p : Pg} {sc : Scp} {r : List Item} {Γ : List Kd} {k : Kd} (h : OkT G (.fin p sc :: r) Γ k) : p.isEnd = true := by
  cases h <;> rfl
theorem MIn.popT {B : Nat} {H0 H : Hp} {m dx t d : Addr} {nv : V} {ts ds : List V} {l : Int} {td : List Item} {dn : List Wv} {x : Item} (R : MIn K C CM A B H0 H m dx t d nv ts ds ⟨l, x :: td, dn⟩) {Q : VK}
    (q : ∀ v ts' H', ItAt K C A B (rem [m, t, d] H') v x → MIn K C CM A B H0 H' m dx t d nv ts' ds ⟨l, td, dn⟩ → Q v H') : rPop (.ref t) [] H Q := by
  obtain ⟨ho, ht, hd, it, hdn, n, sm, few, few2⟩ := id R
  cases it with
  | @cons v _ ts' _ h1 h2 =>
  refine ⟨t, _, v, rfl, rfl, ht, ?_, ?_⟩
  · rw [List.reverse_cons, List.length_append, List.length_singleton, Nat.add_sub_cancel, List.getElem?_append_right (Nat.le_refl _), Nat.sub_self]
    rfl
  · rw [List.reverse_cons, List.dropLast_concat]
    have f2 : td.length + 1 ≤ B := few
    exact q v ts' _ (by rw [rem_upd (by simp)]; exact h1) (R.setT h2 (by omega))
/-- an item's own tuple, its def, what it is told -/
theorem item_view (AA : ActsAt P w K mg base C CM A TMa) {G : Str → Prop} {B : Nat} {S : Hp} {v : V} {it : Item} {r : List Item} {Γ : List Kd} {k : Kd} (ν0 : ∀ z n, ν z = some n → 0 ≤ n) (h : ItAt K C A B S v it) (ok : OkT G (it :: r) Γ k) :
    ∃ (q f : Addr) (vp vq : V) (dom : Item → Prop), v = .ref q ∧ S q = some (.tup [.ref f, vp, vq]) ∧ ArgsAt K C B S it vp vq ∧ dom it ∧ HeldX P w K mg base 4 f (spAct K C CM A TMa ν dom) := by
  cases h with
  | into h hp hs => exact ⟨_, _, _, _, _, rfl, h, ⟨hp, _, rfl, hs⟩, go_dom ok ν0, AA.into ν⟩
  | fin h hp hs =>
    obtain ⟨dom, d1, d2⟩ := AA.fin ν _ (fin_end ok)
    exact ⟨_, _, _, _, _, rfl, h, ⟨hp, _, rfl, hs⟩, d1 _, d2⟩
  | turn h h2 hp hs => exact ⟨_, _, _, _, _, rfl, h, ⟨hp, _, _, rfl, h2, hs⟩, ⟨_, _, _, _, rfl⟩, AA.turn ν⟩
theorem strs_get {S : Hp} : ∀ {xs : List V} {ys : List Str} {i : Nat} {x : V}, DtAll K S xs (ys.map PyData.str) → xs[i]? = some x → ∃ z, z ∈ ys ∧ x = .str z
  | [], _, _, _, _, e => by cases e
  | u :: us, [], _, _, h, _ => by cases h
  | u :: us, y :: ys, i, x, h, e => by
    cases h with
    | cons h1 h =>
    cases i with
    | zero => cases e; cases h1; exact ⟨y, List.mem_cons_self, rfl⟩
    | succ i =>
      obtain ⟨z, m, rfl⟩ := strs_get (ys := ys) h e
      exact ⟨z, List.mem_cons_of_mem _ m, rfl⟩
theorem gen_same {H H1 H2 : Hp} (g : Gen PT H H1) (s : Same H1 H2) : Gen PT H H2 := by
  obtain ⟨b, ps, h1, h2⟩ := g
  exact ⟨b.trans (but_same s), ps, s _ _ h1, h2⟩
theorem ok_run (F : Fun K "run" "run" sRun f fd) (T : MaC K mg CM A t0) (SM : ScM P w K mg base C fSI dSI) (MM : MaM2 P w K mg base CM fMI dMI) (M : MaM P w K mg base C CM A TMa fIn fBe fSt fTe fTn fWN fWL dIn dBe dSt dTe dTn dWN dWL) (AA : ActsAt P w K mg base C CM A TMa) (Z : ZB mg)
    (GJ : FnOk P w K mg base CX0 6 fj dj ["thing"] (spJudR K PT)) (bJ : Binds K dj ["thing"] []) (kJ : PySem.W.keepIn K (.ref fj) = true) (mJ : mg "judged" = some (.ref fj))
    (GHF : FnOk P w K mg base CX0 1 fh dh ["kind"] (spHF K)) (bHF : Binds K dh ["kind"] []) (kHF : PySem.W.keepIn K (.ref fh) = true) (mHF : mg "has_from" = some (.ref fh)) : FnOk P w K mg base (L2.CX P w) 7 f fd ["program", "numbers", "limit"] (spRun K C PT TMa) := by
  refine F.okX scRun (fun vs H Q E h => ?_) (fun cdv Ar outer s0 H vs Q E hr h => ?_)
  · obtain ⟨v, nq, l, p, k, N, ν, kvs, n, o, rfl, _⟩ := h
    rfl
  have h1 : Room 1 _ := hr.mono (by decide)
  have h2 : Room (1 + 1) _ := hr.mono (by decide)
  have h4 : Room 4 _ := hr.mono (by decide)
  have h6 : Room 6 _ := hr
  have u1 : (Ar.deeper (envOfC "run" (defScope sRun) s0.heap.objs.size f cdv)).units + 1 < cLine := by
    have := hr.units
    omega
  obtain ⟨v, nq, l, p, k, N, ν, kvs, n, o, rfl, hd, ty, okz, nf, nl, dp, sz, hT, hnq, hν, ν0, νo, en, nb, qt, qm⟩ := h
  refine ⟨_, (pss_cons (ps_asg (pe_call GJ h6 (by rfl) mJ kJ bJ .nil pass0 (pa_cons (pv 0) pa_nil)) (pg_tup (by rfl) (pgs_cons (pg_name (i := 3) scRun.nd rfl (.inl rfl)) (pgs_cons (pg_name (i := 4) scRun.nd rfl (.inl rfl)) (pgs_cons (pg_name (i := 5) scRun.nd rfl (.inl rfl)) pgs_nil)))))
    (pss_cons (ps_if (pt_cmpR op_gt (pe_callB call_len_seq (by rfl) Z.zLen PySem.boot_len (pa_cons (pv 5) pa_nil)) pe_int (nomark _)) (pss_one ps_never) pss_nil)
    (pss_cons (ps_if (pt_val (pe_call GHF h1 (by rfl) mHF kHF bHF .nil pass0 (pa_cons (pv 3) pa_nil))) (pss_one ps_never) pss_nil)
    (pss_cons (ps_for (passes_of rfl) rfl (pi_tup (pv 4)) (pg_name (i := 6) scRun.nd rfl (.inl rfl)) (pss_one (ps_if (pt_cmp (pc_dnotin u1 (pv 6) (pv 1))) (pss_one ps_never) pss_nil)))
    (pss_cons (ps_set (i := 7) scRun.nd rfl (.inl rfl) (pe_make MM.made MM.ini h2 (by rfl) T.mC MM.bI .nil pass0 (pa_cons (pv 1) (pa_cons (pv 2) pa_nil))))
    (pss_cons (ps_expr (pe_meth (pv 7) T.cl M.mIn M.into h1 M.bIn .nil pass0 (pa_cons (pv 0) (pa_cons (pe_make SM.made SM.ini h2 (by rfl) SM.mC SM.bI .nil pass0 (pa_cons pe_dnewK (pa_cons pe_dnewK pa_nil))) pa_nil))))
    (pss_cons (ps_while (passes_of rfl) (pt_truth (pe_fld (pv 7) rfl) (by intro _; rfl)) (pss_cons (ps_asg (pe_bm0 PySem.F.plainAttrs_list PySem.F.slot_list_pop PySem.F.type_list_pop mt_pop (pe_fld (pv 7) rfl)) (pg_tup (by rfl) (pgs_cons (pg_name (i := 8) scRun.nd rfl (.inl rfl)) (pgs_cons (pg_name (i := 9) scRun.nd rfl (.inl rfl)) (pgs_cons (pg_name (i := 10) scRun.nd rfl (.inl rfl)) pgs_nil)))))
    (pss_one (ps_expr (pe_callX (i := 8) (k := 4) (E := E) h4 rfl (.inl rfl) (passes_call (takes_of rfl rfl rfl rfl) (fun _ _ _ _ h => h)) (pa_cons (pv 7) (pa_cons (pv 9) (pa_cons (pv 10) pa_nil))))))))
    (pss_one (ps_ret (pe_ix ix_list (pe_fld (pv 7) rfl) pe_int (fun _ _ => rfl))))))))))), ?_⟩
  refine ⟨_, rfl, v, p, (N, []), k, rfl, hd, ty, fun _ _ _ m _ => by (cases m), nl, (by show 0 < 64; decide), dp, sz, hT, fun ys zs v1 H1 g1 op hj => ?_⟩
  have emp : zs = [] := by
    cases zs with
    | nil => rfl
    | cons q r => exact nomatch (ty.opens.2 q (op.k q List.mem_cons_self))
  subst emp
  obtain ⟨qa, xa, rfl, sa, da⟩ := Dt.view hj
  cases da with
  | @cons vk _ _ _ hk da =>
  cases da with
  | @cons vn _ _ _ hn da =>
  cases da with
  | @cons vz _ _ _ hz da =>
  cases da
  obtain ⟨qn, xn, rfl, sn, dn⟩ := Dt.view hn
  obtain ⟨qz, xz, rfl, sz, dz⟩ := Dt.view hz
  have ez : xz = [] := by cases dz; rfl
  subst ez
  refine ⟨qa, [vk, .ref qn, .ref qz], rfl, sa, rfl, vk, [.ref qn, .ref qz], rfl, .ref qn, [.ref qz], rfl, .ref qz, [], rfl, rfl, ?_⟩
  refine ⟨_, rfl, qz, _, rfl, .inr sz, _, _, rfl, rfl, _, rfl, decF (by decide) ?_⟩
  refine ⟨_, rfl, vk, k, rfl, hk, okz, nf, fun H2 s2 => ⟨false, rfl, iteF ?_⟩⟩
  have hnq2 : H2 nq = some (.dK kvs) := s2 _ _ (g1.but _ _ (TabG.ne hT hnq (fun ps z => by cases z)) hnq)
  have sn2 : SqT K H2 qn xn := sqT_up s2 sn
  refine ⟨_, rfl, qn, rfl, ⟨_, sn2⟩, for_tup (K := K) (a := qn) (xs := xn) (fun i σ Y => ∃ y6, σ = [some v, some (.ref nq), some (.int l), some vk, some (.ref qn), some (.ref qz), y6, none, none, none, none] ∧ Y = H2) ⟨_, rfl, rfl⟩ (fun i σ Y _ ⟨_, _, e⟩ => by rw [e]; exact sn2) ?_ ?_⟩
  · rintro i x σ Y hx ⟨y6, rfl, rfl⟩
    obtain ⟨z, mz, rfl⟩ := strs_get dn hx
    obtain ⟨nz, hz⟩ := νo z ((op.n z).mp mz)
    refine ⟨_, rfl, _, rfl, nq, _, rfl, DGet.k (k := Sum.inr z) hnq2, _, rfl, condF (by rw [hν z, hz]; rfl) ⟨_, rfl, rfl⟩⟩
  rintro σ Y ⟨y6, rfl, rfl⟩
  refine ⟨_, rfl, _, rfl, fun m dx nm nd ne => ⟨m, dx, .ref nq, l, rfl, upd_same, fun H3 t d td tn dn' hm ht hdd rest => ⟨rfl, ?_⟩⟩⟩
  have ntd : t ≠ dx := fun e => by
    rw [e, upd_ne ne, upd_same] at tn
    cases tn
  have ndd : d ≠ dx := fun e => by
    rw [e, upd_ne ne, upd_same] at dn'
    cases dn'
  have ntm : t ≠ m := (ne_of_none upd_same tn).symm
  have ndm : d ≠ m := (ne_of_none upd_same dn').symm
  have t2 : Y t = none := by rw [upd_ne ntm, upd_ne ntd] at tn; exact tn
  have d2 : Y d = none := by rw [upd_ne ndm, upd_ne ndd] at dn'; exact dn'
  have sm : Same Y (rem [m, t, d] H3) := fun x o e => by
    have n1 : x ≠ m := ne_of_none e nm
    have n2 : x ≠ t := ne_of_none e t2
    have n3 : x ≠ d := ne_of_none e d2
    have n4 : x ≠ dx := ne_of_none e nd
    rw [rem_at (by simp [n1, n2, n3]), rest x n1 n2 n3, upd_ne n1, upd_ne n4]
    exact e
  have R3 : MIn K C CM A 0 Y H3 m dx t d (.ref nq) [] [] ⟨l, [], []⟩ := ⟨hm, ht, hdd, .nil, .nil, td, sm, Nat.le_refl _, Nat.le_refl _⟩
  refine ⟨_, rfl, m, dx, _, rfl, hm, mf_no _ _ _ _ _ no_to, _, rfl, fun qa na qb nb sq dxs ns nds ne2 => ⟨sq, dxs, qa, qb, rfl, upd_same, fun H5 e1 e2 => ⟨rfl, ?_⟩⟩⟩
  have s4 := same_new (o := HO.dK []) na
  have s5 := same_put (o := HO.dK []) s4 nb
  have tk5 := R3.tk.same s5
  obtain ⟨s6, scp⟩ := made_scope (B := 0) (nm := []) (ks := []) (kn := []) tk5 (by rw [rem_at ((R3.tk).not na)]; exact (same_new (o := HO.dK []) nb) _ _ upd_same) (by rw [rem_at ((R3.tk.same s4).not nb)]; exact upd_same) (Nat.le_refl _) (Nat.le_refl _) .nil ns nds ne2 e1 e2
  have s56 := same_trans s5 s6
  have gY : Gen PT H Y := gen_same g1 s2
  have hdY : Dt K Y v (pgD p) := (hd.keep (g1.tups hT)).keep (tups_same s2)
  refine ⟨0, Y, m, dx, t, d, .ref nq, [], [], _, v, sq, p, ⟨[], []⟩, rfl, R3.up s56, hdY.keep (tups_same (same_trans sm (rem_same s56))), scp, (by decide), fun ts6 H6 g6 R6 => ?_⟩
  refine ⟨fun mm σ X => ∃ (B : Nat) (ts ds : List V) (S : MSt) (y8 y9 y10 : Option V), σ = [some v, some (.ref nq), some (.int l), some vk, some (.ref qn), some (.ref qz), y6, some (.ref m), y8, y9, y10] ∧ MIn K C CM A B Y X m dx t d (.ref nq) ts ds S ∧ EndsM ν mm S o ∧ MTy (fun z => z ∈ opn p) S k ∧ B + 10 * mm + 20 ≤ sizeLine,
    ⟨n, 1, ts6, [], _, none, none, none, rfl, R6, en, st0_ok ty l, by omega⟩, ?_⟩
  rintro mm σ X ⟨B, ts, ds, S, y8, y9, y10, rfl, R, eM, mT, bn⟩
  refine ⟨_, rfl, m, CM, dx, _, _, rfl, R.ho, T.cl, T.nT, mf_T _ _ _ _, !ts.reverse.isEmpty, .inl ⟨ts.reverse, .inl (.inl R.ht), rfl⟩, ?_⟩
  have genX : Gen PT H X := gen_same gY (same_trans R.same rem_in)
  obtain ⟨Γ, ok, hdn⟩ := mT.ok
  have fst := @fine_step (fun z => z ∈ opn p) ν (fun z h => νo z h) ν0
  cases eM with
  | @done l1 w1 =>
    have hit := R.it
    cases hit
    refine iteF ?_
    have hdn := R.dn
    cases hdn with
    | @cons v9 _ _ _ h9 hdn =>
    cases hdn
    refine ⟨_, rfl, m, CM, dx, _, _, rfl, R.ho, T.cl, T.nD, mf_D _ _ _ _, d, _, 0, _, rfl, rfl, .inl (.inl R.hd), atI_nat (j := 0) rfl, ?_⟩
    exact qt _ rfl _ X genX (h9.keep rem_in (by omega))
  | @many l1 it r d1 hst =>
    have hit := R.it
    cases hit with
    | @cons v9 _ ts' _ h9 hit =>
    refine condT (by simp) ⟨fun σ' H' => ∃ m', m' < 1 ∧ False, fun σ' H' h => by obtain ⟨_, _, h⟩ := h; exact h.elim, ?_⟩
    refine ⟨_, rfl, m, CM, dx, _, _, rfl, R.ho, T.cl, T.nT, mf_T _ _ _ _, .inl ⟨rfl, _, .inl (.inl R.ht)⟩, R.popT fun v8 ts8 H8 h8 R8 => ?_⟩
    obtain ⟨q8, f8, vp, vq, dom, rfl, hq8, ar8, dm8, hx8⟩ := item_view (ν := ν) AA ν0 h8 ok
    refine ⟨q8, [.ref f8, vp, vq], rfl, .inl (.inl (rem_in _ _ hq8)), rfl, .ref f8, [vp, vq], rfl, vp, [vq], rfl, vq, [], rfl, rfl, ?_⟩
    refine ⟨f8, _, rfl, hx8, _, rfl, _, rfl, _, rfl, ?_⟩
    have genX8 : Gen PT H H8 := gen_same gY (same_trans R8.same rem_in)
    exact ⟨B, Y, m, dx, t, d, _, ts8, _, _, it, vp, vq, rfl, R8, ar8, dm8, by omega, ⟨nq, kvs, rfl, hnq2, hν⟩, (fun S' e => by rw [hst] at e; cases e), fun _ H' s9 => qm rfl H' (gen_same gY s9), by rw [hst]; intro e; cases e⟩
  | @go n1 l1 it r d1 S1 _ hst e1 =>
    have hit := R.it
    cases hit with
    | @cons v9 _ ts' _ h9 hit =>
    refine condT (by simp) ⟨fun σ' X' => ∃ (B : Nat) (ts ds : List V) (S : MSt) (y8 y9 y10 : Option V), σ' = [some v, some (.ref nq), some (.int l), some vk, some (.ref qn), some (.ref qz), y6, some (.ref m), y8, y9, y10] ∧ MIn K C CM A B Y X' m dx t d (.ref nq) ts ds S ∧ EndsM ν n1 S o ∧ MTy (fun z => z ∈ opn p) S k ∧ B + 10 * n1 + 20 ≤ sizeLine, fun σ' H' h => ⟨n1, Nat.lt_succ_self _, h⟩, ?_⟩
    refine ⟨_, rfl, m, CM, dx, _, _, rfl, R.ho, T.cl, T.nT, mf_T _ _ _ _, .inl ⟨rfl, _, .inl (.inl R.ht)⟩, R.popT fun v8 ts8 H8 h8 R8 => ?_⟩
    obtain ⟨q8, f8, vp, vq, dom, rfl, hq8, ar8, dm8, hx8⟩ := item_view (ν := ν) AA ν0 h8 ok
    refine ⟨q8, [.ref f8, vp, vq], rfl, .inl (.inl (rem_in _ _ hq8)), rfl, .ref f8, [vp, vq], rfl, vp, [vq], rfl, vq, [], rfl, rfl, ?_⟩
    refine ⟨f8, _, rfl, hx8, _, rfl, _, rfl, _, rfl, ?_⟩
    have fs := fst (l := l1) ok hdn
    rw [hst] at fs
    refine ⟨B, Y, m, dx, t, d, _, ts8, _, _, it, vp, vq, rfl, R8, ar8, dm8, by omega, ⟨nq, kvs, rfl, hnq2, hν⟩, fun S' e ts9 ds9 H9 R9 => ?_, (fun e => by rw [hst] at e; cases e), by rw [hst]; intro e; cases e⟩
    rw [hst] at e
    cases e
    exact ⟨B + 10, ts9, ds9, S1, _, _, _, rfl, R9, e1, fs, by omega⟩
end
end Kf
set_option Elab.async false
set_option linter.all false
set_option maxRecDepth 100000
set_option maxHeartbeats 8000000
set_option pp.maxSteps 500
/-! has_from, of kinds without a from. -/
namespace Kf
open PySem PySem.Spec PyProof.Rows L2 Sx RZ
theorem ext_tup (l b : Addr) (xs ys : Array Value) (n m : Nat) (dd : Option Addr) (sl : Array (Option Value)) (long : ¬(!xs.isEmpty && Builtin.List.listTooLong (xs.size + ys.size)) = true) (fits : xs.size ≤ sizeLine)
    (fits2 : xs.size + ys.size ≤ sizeLine + 1) :
    Meets (Builtin.«list.extend» ⟨[.ref l, .ref b], []⟩) (fun _ R s => s.heap.get? l = some { cls := .type "list", data := .seq xs n } ∧ s.heap.get? b = some { cls := .type "tuple", dict := dd, data := .seq ys m, slots := sl } ∧
      R (.ok (.ret Value.none)) { s with heap := s.heap.update l (Obj.mapSeq fun x => x ++ ys), toks := s.toks }) := by
  refine .of_wp fun prog w A R s h => ?_
  obtain ⟨hp, g, d, tk, os⟩ := s
  obtain ⟨hl, hb, h⟩ := h
  have f1 := AutoSeq1.idx_int
  have f2 := AutoSeq1.sub_tuple_tuple
  have f3 := AutoSeq1.sub_list_list
  have f4 := AutoSeq1.sub_tuple_list
  have f5 := AutoSeq1.sub_list_tuple
  have both : (xs ++ ys).size ≤ sizeLine + 1 := by
    rw [Array.size_append]
    exact fits2
  wp_walk using (wpAny_updateSeq hl rfl (hz := fits) (_hz' := both)), wpAny_loadPart' hb
  exact ⟨_, rfl, h⟩
def rExtA : V → List V → Hp → VK → Prop := fun x vs H Q => ∃ l b xs zs, x = .ref l ∧ vs = [.ref b] ∧ H l = some (.lst xs) ∧ (H b = some (.lst zs) ∨ H b = some (.tup zs)) ∧ xs.length + zs.length ≤ sizeLine ∧ Q .non (upd H l (.lst (xs ++ zs)))
theorem mt_extA {X : Cx} : MtM X "list.extend" rExtA := by
  intro pins s σ H x vs v us Q I rx rv h
  obtain ⟨l, b, xs, zs, rfl, rfl, hH, hB, hz, q⟩ := h
  rcases hB with hB | hB
  · exact mt_extend pins s σ H _ _ v us Q I rx rv ⟨l, b, xs, zs, rfl, rfl, hH, hB, hz, q⟩
  cases rx
  obtain ⟨u, rfl, ru⟩ := rv.one
  cases ru
  obtain ⟨_, its, n, r, hl, e⟩ := I.lstM hH
  obtain ⟨_, its2, r2, o2, e2, c2, m2, d2⟩ := I.hok b _ hB
  have hl2 := r2.length
  obtain ⟨oc, od, oda, osl⟩ := o2
  dsimp only at c2 d2
  subst c2
  subst d2
  have hsz : its.toArray.size + its2.toArray.size ≤ sizeLine := by
    rw [List.size_toArray, List.size_toArray]
    omega
  refine call_meets PySem.F.slot_list_extend ⟨_, e, rfl⟩ PySem.F.entry_list_extend (PySem.F.args_list_extend_2 _ _)
    (ext_tup l b its.toArray its2.toArray n m2 od osl (by rw [notLongL hsz, Bool.and_false]; exact Bool.false_ne_true) (by rw [List.size_toArray]; omega) (by omega)) ⟨e, e2, ?_⟩
  refine ⟨.non, _, I.lset (its' := its ++ its2) hH e (by simp) (r.append r2) ?_, rfl, q⟩
  rw [List.length_append]
  omega
abbrev sHF : Stmt := top 13
abbrev hFN : List Str := ["kind", "todo", "piece"]
theorem scHF : FnScope hFN ["kind"] (defScope sHF) := ⟨rfl, rfl, rfl, by decide +kernel, rfl, by decide +kernel, by decide +kernel⟩
def szs : List Kd → Nat
  | [] => 0
  | k :: r => k.size + szs r
theorem szs_app : ∀ a b : List Kd, szs (a ++ b) = szs a + szs b
  | [], b => by simp [szs]
  | k :: r, b => by
    show k.size + szs (r ++ b) = k.size + szs r + szs b
    rw [szs_app r b]
    omega
theorem sz_pos (k : Kd) : 1 ≤ k.size := by cases k <;> simp [Kd.size]
theorem len_szs : ∀ l : List Kd, l.length ≤ szs l
  | [] => Nat.le_refl _
  | k :: r => by
    have := len_szs r
    have := sz_pos k
    show r.length + 1 ≤ k.size + szs r
    omega
theorem deep_size : ∀ k : Kd, k.deep ≤ k.size
  | .none => by simp [Kd.deep, Kd.size]
  | .number => by simp [Kd.deep, Kd.size]
  | .pair a b => by
    have := deep_size a
    have := deep_size b
    simp only [Kd.deep, Kd.size]
    omega
  | .frm a b => by
    have := deep_size a
    have := deep_size b
    simp only [Kd.deep, Kd.size]
    omega
  | .either a b => by
    have := deep_size a
    have := deep_size b
    simp only [Kd.deep, Kd.size]
    omega
theorem eqv1 (x y : PyData) : PyData.eqv (.tuple [x]) (.tuple [y]) = PyData.eqv x y := by
  show (PyData.eqv x y && true) = _
  rw [Bool.and_true]
theorem lay1 (a : Kd) : (PyData.tuple [kdD a]).canLay0 = true := by
  show ((kdD a).canLay0 && true) = true
  rw [kd_lay]
  rfl
theorem dep1 (a : Kd) (h : a.deep ≤ 100) : (PyData.tuple [kdD a]).depth ≤ 120 := by
  show max (kdD a).depth 0 + 1 ≤ 120
  rw [kd_depth]
  omega
theorem sl3a {x y z : V} : ¬ (HT.sIx [x, y, z].length 0 (some 1) = 0 ∧ HT.sIx [x, y, z].length [x, y, z].length (some 2) = [x, y, z].length) := fun h => absurd (show HT.sIx 3 0 _ = 0 from h.1) (by decide)
theorem sl3b {x y z : V} : ¬ (HT.sIx [x, y, z].length 0 (some 2) = 0 ∧ HT.sIx [x, y, z].length [x, y, z].length none = [x, y, z].length) := fun h => absurd (show HT.sIx 3 0 _ = 0 from h.1) (by decide)
theorem sl3c {x y z : V} : ¬ (HT.sIx [x, y, z].length 0 (some 1) = 0 ∧ HT.sIx [x, y, z].length [x, y, z].length none = [x, y, z].length) := fun h => absurd (show HT.sIx 3 0 _ = 0 from h.1) (by decide)
theorem w_nf : (("none" : Str) == "from") = false := by decide +kernel
theorem w_uf : (("number" : Str) == "from") = false := by decide +kernel
theorem w_pf : (("pair" : Str) == "from") = false := by decide +kernel
theorem w_ef : (("either" : Str) == "from") = false := by decide +kernel
section
variable {P : Program} {w : World} {K : PySem.W.Frag} {mg : Str → Option Value} {base : Heap} {f : Addr} {fd : FuncData}
/-- what a kind's loop goes on with -/
def KdAt (K : PySem.W.Frag) (H : Hp) (u : V) (k : Kd) : Prop := Dt K H u (kdD k)
theorem ok_hf (F : Fun K "has_from" "has_from" sHF f fd) : FnOk P w K mg base CX0 1 f fd ["kind"] (spHF K) := by
  refine F.ok scHF (fun vs H Q E h => ?_) (fun cdv Ar outer s0 H vs Q E hr h => ?_)
  · obtain ⟨v, k, rfl, _⟩ := h
    rfl
  have u1 : (Ar.deeper (envOfC "has_from" (defScope sHF) s0.heap.objs.size f cdv)).units + 130 < cLine := by
    have := hr.un
    omega
  obtain ⟨v, k, rfl, hd, okz, nf, q⟩ := h
  refine ⟨_, (pss_cons (ps_set (i := 1) scHF.nd rfl (.inl rfl) (pe_lst (pa_cons (pv 0) pa_nil)))
    (pss_cons (ps_while PassesOwn.never (pt_truth (pv 1) (by intro _; rfl)) (pss_cons (ps_set (i := 2) scHF.nd rfl (.inl rfl) (pe_bm0 PySem.F.plainAttrs_list PySem.F.slot_list_pop PySem.F.type_list_pop mt_pop (pv 1)))
    (pss_cons (ps_if (pt_cmpR op_eq (pe_ix ix_tup (pv 2) pe_int (fun _ _ => rfl)) pe_str (nomark _)) (pss_one (ps_ret pe_bl)) pss_nil)
    (pss_one (ps_expr (pe_bm PySem.F.plainAttrs_list PySem.F.slot_list_extend PySem.F.type_list_extend mt_extA (pv 1) (pa_cons (pe_ifExp (pt_cmpR (op_eqW u1) (pe_slice sl_tup (pv 2) (po_some pe_int) (po_some pe_int)) (pe_slice sl_tup (pv 2) (po_some pe_int) po_none) (nomark _)) (pe_slice sl_tup (pv 2) (po_some pe_int) (po_some pe_int)) (pe_slice sl_tup (pv 2) (po_some pe_int) po_none)) pa_nil)))))))
    (pss_one (ps_ret pe_bl)))), ?_⟩
  refine ⟨_, rfl, (by decide : 1 ≤ sizeLine), fun l nl => ?_⟩
  have s1 := same_new (o := HO.lst [v]) nl
  refine ⟨fun mm σ X => ∃ (us : List V) (ks : List Kd) (y2 : Option V), σ = [some v, some (.ref l), y2] ∧ X l = some (.lst us) ∧ Same H X ∧ All2 (KdAt K X) us ks ∧ (∀ k ∈ ks, NoFrom k) ∧ szs ks ≤ mm ∧ mm ≤ 41,
    ⟨k.size, [v], [k], none, rfl, upd_same, s1, .one (hd.keep (tups_same s1)), fun k' m => by rw [List.mem_singleton.mp m]; exact nf, by simp [szs], by have := okz.2; omega⟩, ?_⟩
  rintro mm σ X ⟨us, ks, y2, rfl, hl, sm, al, nfs, sz, m40⟩
  refine ⟨_, rfl, !us.isEmpty, .inl ⟨us, .inl (.inl hl), rfl⟩, ?_⟩
  rcases List.eq_nil_or_concat ks with en | ⟨ks0, k1, en⟩
  · subst en
    cases al
    exact iteF (q X sm)
  rw [List.concat_eq_append] at en
  subst en
  obtain ⟨us0, u, rfl, al0, h1⟩ := al.last
  have l0 := al0.len
  rw [szs_app] at sz
  have sz : szs ks0 + (k1.size + 0) ≤ mm := sz
  have p1 := sz_pos k1
  have ln := len_szs ks0
  refine condT (by simp) ⟨fun σ' X' => ∃ m', m' < mm ∧ ∃ (us : List V) (ks : List Kd) (y2 : Option V), σ' = [some v, some (.ref l), y2] ∧ X' l = some (.lst us) ∧ Same H X' ∧ All2 (KdAt K X') us ks ∧ (∀ k ∈ ks, NoFrom k) ∧ szs ks ≤ m' ∧ m' ≤ 41, fun _ _ h => h, ?_⟩
  refine ⟨_, rfl, .inl ⟨rfl, _, .inl (.inl hl)⟩, l, _, u, rfl, rfl, hl, ?_, ?_⟩
  · rw [List.length_append, List.length_singleton, Nat.add_sub_cancel, List.getElem?_append_right (Nat.le_refl _), Nat.sub_self]
    rfl
  rw [List.dropLast_concat]
  have t2 : Tups X (upd X l (.lst us0)) := tups_lst hl
  have s2 : Same H (upd X l (.lst us0)) := same_own sm nl
  have hl2 : upd X l (.lst us0) l = some (.lst us0) := upd_same
  have al2 : All2 (KdAt K (upd X l (.lst us0))) us0 ks0 := al0.mono fun _ _ h => Dt.keep h t2
  have hk2 : Dt K (upd X l (.lst us0)) u (kdD k1) := Dt.keep h1 t2
  have nf1 : NoFrom k1 := nfs k1 (by simp)
  have nf0 : ∀ k ∈ ks0, NoFrom k := fun k m => nfs k (by simp [m])
  clear t2 al0 h1 hl sm nfs
  generalize upd X l (.lst us0) = X2 at s2 hl2 al2 hk2
  have fin : ∀ (X3 : Hp) (qc : Addr) (zs : List V) (ks1 : List Kd), Same X2 X3 → X3 qc = some (.tup zs) → All2 (KdAt K X3) zs ks1 → (∀ k ∈ ks1, NoFrom k) → szs ks1 + 1 ≤ k1.size →
      rExtA (.ref l) [.ref qc] X3 (fun _ X' => ∃ m', m' < mm ∧ ∃ (us : List V) (ks : List Kd) (y2' : Option V), [some v, some (.ref l), some u] = [some v, some (.ref l), y2'] ∧ X' l = some (.lst us) ∧ Same H X' ∧ All2 (KdAt K X') us ks ∧ (∀ k ∈ ks, NoFrom k) ∧ szs ks ≤ m' ∧ m' ≤ 41) := fun X3 qc zs ks1 s3 hq ha hn hz => by
    have hl3 := s3 _ _ hl2
    have lz := ha.len
    have lz2 := len_szs ks1
    have t4 : Tups X3 (upd X3 l (.lst (us0 ++ zs))) := tups_lst hl3
    refine ⟨l, qc, us0, zs, rfl, rfl, hl3, .inr hq, ?_, mm - 1, by omega, us0 ++ zs, ks0 ++ ks1, _, rfl, upd_same, same_own (same_trans s2 s3) nl, ((al2.mono fun _ _ h => Dt.keep (Dt.keep h (tups_same s3)) t4).app (ha.mono fun _ _ h => Dt.keep h t4)), fun k m => ?_, ?_, by omega⟩
    · have : 100 ≤ sizeLine := by decide
      omega
    · rcases List.mem_append.mp m with m | m
      · exact nf0 k m
      · exact hn k m
    · rw [szs_app]
      omega
  have lay0 : (PyData.tuple []).canLay0 = true := rfl
  have small0 : ∀ {qp : Addr} {wd : Str}, (wd == "from") = false → u = .ref qp → SqT K X2 qp [.str wd] → True := fun {qp wd} nw e hs => by
    trivial
  cases k1 with
  | none =>
    obtain ⟨qp, xs, rfl, hs, hx⟩ := Dt.view (show Dt K X2 u (.tuple [.str "none"]) from hk2)
    cases hx with
    | cons h1 hx =>
    cases h1
    cases hx
    refine ⟨_, rfl, qp, _, 0, _, rfl, rfl, hs, head_at _ _, rfl, _, rfl, wdF w_nf ?_⟩
    refine ⟨_, rfl, .inl ⟨rfl, _, .inl (.inl hl2)⟩, ?_⟩
    refine ⟨_, rfl, _, rfl, _, rfl, qp, _, rfl, hs, (by decide), fun qa na => ?_⟩
    have sa := same_new (o := HO.tup (cutV [V.str "none"] (some 1) (some 2))) na
    refine ⟨_, rfl, _, rfl, qp, _, rfl, sqT_up sa hs, (by decide), fun qb nb => ?_⟩
    have sb := same_put (o := HO.tup (cutV [V.str "none"] (some 2) none)) sa nb
    refine ⟨.tuple [], .tuple [], .tup (xs := []) (.inl (.inl (same_new nb _ _ upd_same))) .nil, .tup (xs := []) (.inl (.inl upd_same)) .nil, rfl, rfl, (by decide), _, rfl, condT rfl ?_⟩
    exact ⟨_, rfl, _, rfl, _, rfl, qp, _, rfl, sqT_up sb hs, (by decide), fun qc nc => fin _ qc [] [] (same_put sb nc) upd_same .nil (fun _ m => nomatch m) (by decide)⟩
  | number =>
    obtain ⟨qp, xs, rfl, hs, hx⟩ := Dt.view (show Dt K X2 u (.tuple [.str "number"]) from hk2)
    cases hx with
    | cons h1 hx =>
    cases h1
    cases hx
    refine ⟨_, rfl, qp, _, 0, _, rfl, rfl, hs, head_at _ _, rfl, _, rfl, wdF w_uf ?_⟩
    refine ⟨_, rfl, .inl ⟨rfl, _, .inl (.inl hl2)⟩, ?_⟩
    refine ⟨_, rfl, _, rfl, _, rfl, qp, _, rfl, hs, (by decide), fun qa na => ?_⟩
    have sa := same_new (o := HO.tup (cutV [V.str "number"] (some 1) (some 2))) na
    refine ⟨_, rfl, _, rfl, qp, _, rfl, sqT_up sa hs, (by decide), fun qb nb => ?_⟩
    have sb := same_put (o := HO.tup (cutV [V.str "number"] (some 2) none)) sa nb
    refine ⟨.tuple [], .tuple [], .tup (xs := []) (.inl (.inl (same_new nb _ _ upd_same))) .nil, .tup (xs := []) (.inl (.inl upd_same)) .nil, rfl, rfl, (by decide), _, rfl, condT rfl ?_⟩
    exact ⟨_, rfl, _, rfl, _, rfl, qp, _, rfl, sqT_up sb hs, (by decide), fun qc nc => fin _ qc [] [] (same_put sb nc) upd_same .nil (fun _ m => nomatch m) (by decide)⟩
  | pair a b =>
    obtain ⟨qp, xs, rfl, hs, hx⟩ := Dt.view (show Dt K X2 u (.tuple [.str "pair", kdD a, kdD b]) from hk2)
    cases hx with
    | cons h1 hx =>
    cases h1
    cases hx with
    | @cons va _ _ _ ha hx =>
    cases hx with
    | @cons vb _ _ _ hb hx =>
    cases hx
    have zab : szs ks0 + (a.size + b.size + 1 + 0) ≤ mm := sz
    have da := deep_size a
    have db := deep_size b
    refine ⟨_, rfl, qp, _, 0, _, rfl, rfl, hs, head_at _ _, rfl, _, rfl, wdF w_pf ?_⟩
    refine ⟨_, rfl, .inl ⟨rfl, _, .inl (.inl hl2)⟩, ?_⟩
    refine ⟨_, rfl, _, rfl, _, rfl, qp, _, rfl, hs, sl3a, fun qa na => ?_⟩
    have sa := same_new (o := HO.tup (cutV [V.str "pair", va, vb] (some 1) (some 2))) na
    refine ⟨_, rfl, _, rfl, qp, _, rfl, sqT_up sa hs, sl3b, fun qb nb => ?_⟩
    have sb := same_put (o := HO.tup (cutV [V.str "pair", va, vb] (some 2) none)) sa nb
    refine ⟨.tuple [kdD a], .tuple [kdD b], .tup (xs := [va]) (.inl (.inl (same_new nb _ _ upd_same))) (.cons (Dt.keep ha (tups_same sb)).dp .nil), .tup (xs := [vb]) (.inl (.inl upd_same)) (.cons (Dt.keep hb (tups_same sb)).dp .nil), lay1 a, lay1 b, dep1 a (by omega), _, rfl, ?_⟩
    rw [eqv1, kd_eq]
    by_cases c : a = b
    · refine condT (decide_eq_true c) ⟨_, rfl, _, rfl, _, rfl, qp, _, rfl, sqT_up sb hs, sl3a, fun qc nc => ?_⟩
      have sc := same_put (o := HO.tup (cutV [V.str "pair", va, vb] (some 1) (some 2))) sb nc
      exact fin _ qc [va] [a] sc upd_same (.one (Dt.keep ha (tups_same sc))) (fun k m => by rw [List.mem_singleton.mp m]; exact nf1.1) (by show a.size + 0 + 1 ≤ a.size + b.size + 1; omega)
    · refine condF (decide_eq_false c) ⟨_, rfl, _, rfl, qp, _, rfl, sqT_up sb hs, sl3c, fun qc nc => ?_⟩
      have sc := same_put (o := HO.tup (cutV [V.str "pair", va, vb] (some 1) none)) sb nc
      refine fin _ qc [va, vb] [a, b] sc upd_same (.cons (Dt.keep ha (tups_same sc)) (.one (Dt.keep hb (tups_same sc)))) (fun k m => ?_) (by show a.size + (b.size + 0) + 1 ≤ a.size + b.size + 1; omega)
      rcases List.mem_cons.mp m with e | m
      · rw [e]; exact nf1.1
      · rw [List.mem_singleton.mp m]; exact nf1.2
  | frm a b => exact (show False from nf1).elim
  | either a b =>
    obtain ⟨qp, xs, rfl, hs, hx⟩ := Dt.view (show Dt K X2 u (.tuple [.str "either", kdD a, kdD b]) from hk2)
    cases hx with
    | cons h1 hx =>
    cases h1
    cases hx with
    | @cons va _ _ _ ha hx =>
    cases hx with
    | @cons vb _ _ _ hb hx =>
    cases hx
    have zab : szs ks0 + (a.size + b.size + 1 + 0) ≤ mm := sz
    have da := deep_size a
    have db := deep_size b
    refine ⟨_, rfl, qp, _, 0, _, rfl, rfl, hs, head_at _ _, rfl, _, rfl, wdF w_ef ?_⟩
    refine ⟨_, rfl, .inl ⟨rfl, _, .inl (.inl hl2)⟩, ?_⟩
    refine ⟨_, rfl, _, rfl, _, rfl, qp, _, rfl, hs, sl3a, fun qa na => ?_⟩
    have sa := same_new (o := HO.tup (cutV [V.str "either", va, vb] (some 1) (some 2))) na
    refine ⟨_, rfl, _, rfl, qp, _, rfl, sqT_up sa hs, sl3b, fun qb nb => ?_⟩
    have sb := same_put (o := HO.tup (cutV [V.str "either", va, vb] (some 2) none)) sa nb
    refine ⟨.tuple [kdD a], .tuple [kdD b], .tup (xs := [va]) (.inl (.inl (same_new nb _ _ upd_same))) (.cons (Dt.keep ha (tups_same sb)).dp .nil), .tup (xs := [vb]) (.inl (.inl upd_same)) (.cons (Dt.keep hb (tups_same sb)).dp .nil), lay1 a, lay1 b, dep1 a (by omega), _, rfl, ?_⟩
    rw [eqv1, kd_eq]
    by_cases c : a = b
    · refine condT (decide_eq_true c) ⟨_, rfl, _, rfl, _, rfl, qp, _, rfl, sqT_up sb hs, sl3a, fun qc nc => ?_⟩
      have sc := same_put (o := HO.tup (cutV [V.str "either", va, vb] (some 1) (some 2))) sb nc
      exact fin _ qc [va] [a] sc upd_same (.one (Dt.keep ha (tups_same sc))) (fun k m => by rw [List.mem_singleton.mp m]; exact nf1.1) (by show a.size + 0 + 1 ≤ a.size + b.size + 1; omega)
    · refine condF (decide_eq_false c) ⟨_, rfl, _, rfl, qp, _, rfl, sqT_up sb hs, sl3c, fun qc nc => ?_⟩
      have sc := same_put (o := HO.tup (cutV [V.str "either", va, vb] (some 1) none)) sb nc
      refine fin _ qc [va, vb] [a, b] sc upd_same (.cons (Dt.keep ha (tups_same sc)) (.one (Dt.keep hb (tups_same sc)))) (fun k m => ?_) (by show a.size + (b.size + 0) + 1 ≤ a.size + b.size + 1; omega)
      rcases List.mem_cons.mp m with e | m
      · rw [e]; exact nf1.1
      · rw [List.mem_singleton.mp m]; exact nf1.2
end
end Kf
set_option Elab.async false
set_option linter.all false
set_option maxRecDepth 100000
set_option maxHeartbeats 8000000
set_option pp.maxSteps 500
/-! Worths of kinds without from as data. -/
namespace Kf
open PySem PySem.Spec PyProof.Rows L2 Sx RZ
def wvD : Wv → PyData
  | .none => .none
  | .int n => .int n
  | .pair a b => .tuple [wvD a, wvD b]
  | .this a => .tuple [.str "this", wvD a]
  | .that a => .tuple [.str "that", wvD a]
  | .rule _ _ _ => .none
theorem wv_dt {K : PySem.W.Frag} {C : Addr} {B : Nat} {H : Hp} {GG : Str → Prop} : ∀ {w : Wv} {k : Kd} {v : V}, WTy GG w k → NoFrom k → WvAt K C B H v w → Dt K H v (wvD w)
  | .none, k, v, _, _, h => by cases h; exact .non
  | .int n, k, v, _, _, h => by cases h; exact .int _
  | .pair a b, k, v, t, nf, h => by
    cases t with
    | pair ta tb =>
    cases h with
    | pair h ha hb => exact .tup (.inl (.inl (tups_of h))) (.cons (wv_dt ta nf.1 ha) (.cons (wv_dt tb nf.2 hb) .nil))
  | .this a, k, v, t, nf, h => by
    cases t with
    | this ta =>
    cases h with
    | this h ha => exact .tup (.inl (.inl (tups_of h))) (.cons (.str _) (.cons (wv_dt ta nf.1 ha) .nil))
  | .that a, k, v, t, nf, h => by
    cases t with
    | that ta =>
    cases h with
    | that h ha => exact .tup (.inl (.inl (tups_of h))) (.cons (.str _) (.cons (wv_dt ta nf.2 ha) .nil))
  | .rule p nm kn, k, v, t, nf, h => by cases t <;> exact nf.elim
end Kf
set_option Elab.async false
set_option linter.all false
set_option maxRecDepth 100000
set_option maxHeartbeats 4000000
/-! An exception that its suite keeps under another name: it is tracked behind the suite. -/
namespace Xk
open PySem PySem.Spec PyProof.Rows L2
/-- an exception of the class c, with the own dict d, at a -/
def ExK (c : Value) (d : Option Addr) (a : Addr) : HO := .ext fun h => ∃ (ob : Obj) (us : Array Value), h.get? a = some ob ∧ Zc c d ob ∧ ob.data = .fields us
theorem exK_ok {P : Program} {w : World} {H : Hp} {h : Heap} {a : Addr} {c : Value} {d : Option Addr} {ob : Obj} {us : Array Value} (e : h.get? a = some ob) (z : Zc c d ob) (dat : ob.data = .fields us) : ObjOk P w H h a (ExK c d a) :=
  ⟨⟨ob, us, e, z, dat⟩, ⟨ob, e⟩, fun _ _ ⟨o2, u2, q1, q2⟩ keep => ⟨o2, u2, keep o2 q1, q2⟩⟩
section
variable {X : Cx} {pins : List (Addr × Obj)} {σ : L2.St} {H : Hp} {s : Shared}
/-- an object that no one speaks of comes to be tracked -/
theorem inv_track {a : Addr} {o : HO} (I : Inv X pins σ H s) (away : X.s_0.heap.get? a = none) (free : H a = none) (nL : a ≠ X.env.locals) (nC : ∀ x c, X.env.cells.lookup x = some c → c ≠ a) (nP : ∀ p ∈ X.pn ++ pins, p.1 ≠ a) (new : ObjOk X.prog X.w (upd H a o) s.heap a o) :
    Inv X pins σ (upd H a o) s := by
  have far : ∀ {b : Addr} {u : HO}, H b = some u → b ≠ a := fun e z => by
    rw [z, free] at e
    cases e
  have un : Un X.fs X.ex X.H_0 (upd H a o) X.s_0.heap s.heap := {
    keep := I.base.keep
    slot := I.base.slot
    free := fun b ob e n m => by
      rw [upd_ne (fun z => by rw [z, away] at e; cases e)]
      exact I.base.free b ob e n m
    there := I.base.there
    tups := fun b xs e => by
      have q := I.base.tups b xs e
      rw [upd_ne (far q)]
      exact q
    frzs := fun b ob u e => by
      have q := I.base.frzs b ob u e
      rw [upd_ne (far q)]
      exact q
    tbls := fun b ps e => by
      obtain ⟨more, q⟩ := I.base.tbls b ps e
      exact ⟨more, by rw [upd_ne (far q)]; exact q⟩ }
  refine ⟨I.ok, I.os, I.bare, un, I.loc, I.cell, ?_, fun x c e => ?_, fun p hp => ?_, I.hok.laidN (fun _ _ e => e) free new, I.len⟩
  · rw [upd_ne nL.symm]
    exact I.free
  · rw [upd_ne (nC x c e)]
    exact I.freeC x c e
  · obtain ⟨q1, q2, q3⟩ := I.pin p hp
    exact ⟨q1, by rw [upd_ne (nP p hp)]; exact q2, q3⟩
end
/-- what the clause wishes, where its suite falls through with the exception kept -/
def wHold (K : PySem.W.Frag) (c : Value) (i : Nat) (ts : Addr → Value → Option Addr → TS) (Wout : WX) (D : Ends) : WX := fun cls d σ H =>
  ∃ yes, PySem.W.exmOne K cls c = some yes ∧
    (yes = true → ∀ a, H a = none → ts a cls d { nx := fun τ G => G a = none → D.nx (τ.set i none) (upd G a (ExK cls d a)), rt := fun _ _ => False, bk := fun _ _ => False, ct := fun _ _ => False } (σ.set i (some (.ref a))) H) ∧ (yes = false → Wout cls d σ H)
section
variable {X : Cx} {x n : Str} {c : Value} {i : Nat} {body suite : List Stmt} {one : Stmt} {np pos pos' : Pos} {tb : WX → TS} {ts : Addr → Value → Option Addr → TS} {Wout : WX}
/-- try: body / except x as n: suite; behind the suite the exception's object is tracked -/
theorem ps_try_hold (stk : X.stack = X.env :: X.outer) (fr : X.env.frame = some X.env.locals) (nd : X.N.Nodup) (at_ : X.N[i]? = some n) (loc : X.env.kindOf n = some .local) (cls_ : Names X x c) (tk : Takes X Wout) (noEx : X.ex = [])
    (doBody : ∀ (W : WX) (pn : List (Addr × Obj)) (xe : Value → Shared → Prop), Takes (X.tr pn xe) W → PassesOwn (model X.prog X.w) X.A X.env xe → PSs (X.tr pn xe) body (tb W))
    (doSuite : ∀ (a : Addr) (ob : Obj) (cls : Value) (d : Option Addr) (pn : List (Addr × Obj)), Zc cls d ob → (∃ us, ob.data = .fields us) → PSs (X.suite a ((a, ob) :: pn)) (one :: suite) (ts a cls d)) :
    PS X (.Try body [.ExceptHandler (some (.Name x np)) (some n) (one :: suite) pos'] [] [] pos) (fun D σ H => tb (wHold X.K c i ts Wout D) D σ H) := by
  refine ⟨fun pins s σ H D I reading => wpAny_Try_except ?_⟩
  have good := I.ok
  have frames : X.A.frames = some (X.env :: X.outer) := good.frames.trans (congrArg some stk)
  have ran := (doBody (wHold X.K c i ts Wout D) (X.pn ++ pins)
    (fun e z1 => wpAny (model X.prog X.w) X.A (noteFrame e X.env)
      (fun _ z2 => wpAny (model X.prog X.w) X.A (setFlight e none)
        (fun _ z3 => wpAny (model X.prog X.w) X.A (handleBy e X.env [.ExceptHandler (some (.Name x np)) (some n) (one :: suite) pos']) (SP X pins D) X.xe z3) X.xe z2) X.xe z1)
    (fun u z thrown => ?caught) PassesOwn.looking).run [] s σ H D (I.toTry _) reading
  refine wpAny_mono ran (fun f z over => ?through) fun e z q => q
  case caught =>
    obtain ⟨a, ground, before, pins2, τ, G, cls, d, rfl, J0, kept, grown, sky, free, os, bare, yes, match_, onYes, onNo⟩ := thrown
    have J : Inv X pins τ G before := J0.ofTry good
    rw [stk] at sky
    show wpAny (model X.prog X.w) X.A (noteFrame (.ref a) X.env) _ _ _
    refine Sky.land Zc.steady frames fr sky fun h1 fly1 up1 => ?_
    have J1 : Inv X pins τ G { z with heap := h1 } := J.landed kept fly1.1 (grown.trans up1) os bare
    obtain ⟨ob1, us1, at1, z1, dat1⟩ := fly1.there
    have offFrames : a ∉ frs (X.env :: X.outer) := fun hm => by
      obtain ⟨_, o2, at2, not2⟩ := fly1.2.2.1.mem hm
      cases at1.symm.trans at2
      exact not2 _ dat1
    have nL : a ≠ X.env.locals := fun q => offFrames (List.mem_filterMap.mpr ⟨X.env, List.mem_cons_self, by rw [fr, q]⟩)
    have nF : a ∉ X.fs := fun hm => by
      obtain ⟨e, he, q⟩ := List.mem_filterMap.mp hm
      exact offFrames (List.mem_filterMap.mpr ⟨e, List.mem_cons_of_mem _ he, q⟩)
    -- it is new since the try began
    have newHere : before.heap.get? a = none := by
      cases q : before.heap.get? a with
      | none => rfl
      | some o =>
        have q2 := kept a o q (show a ∉ frs X.stack by rw [stk]; exact offFrames)
        rw [fly1.2.1] at q2
        cases q2
    have away : X.s_0.heap.get? a = none := by
      cases q : X.s_0.heap.get? a with
      | none => rfl
      | some o =>
        obtain ⟨o2, q2⟩ := J.base.there a o q (by rw [noEx]; exact List.not_mem_nil)
        rw [newHere] at q2
        cases q2
    have nC : ∀ y k, X.env.cells.lookup y = some k → k ≠ a := fun y k e q => by
      obtain ⟨v, o, ho, _⟩ := J.cell y k e
      rw [q, newHere] at ho
      cases ho
    have nP : ∀ p ∈ X.pn ++ pins, p.1 ≠ a := fun p hp q => by
      have e := (J.pin p hp).1
      rw [q, newHere] at e
      cases e
    have S1 := J1.suite at1 dat1 free nL nF
    refine wpAny_handleBy_cons (codeAny_handlers_test ?_) fun q => by cases q
    have typed : PySem.W.Looks (model X.prog X.w) h1 (typeOf (.ref a)) cls := fun A Q E s k q => wpAny_typeOf_ref (k _ _ at1) (by rw [z1.1]; exact q)
    have matched := PySem.W.exm_one (M := model X.prog X.w) J1.kIn typed match_
    have named : ∀ {Q : Value → Shared → Prop} {E : Value → Shared → Prop}, Q c { z with heap := h1 } → wpAny (model X.prog X.w) (X.A.mark (some (.ref a))) (eval (.Name x np) X.env) Q E { z with heap := h1 } := fun {Q E} q => by
      obtain ⟨gl, dbg, here | ⟨none_, boot, nm⟩⟩ := cls_
      · exact ld_glob (X := X.suite a ((a, ob1) :: (X.pn ++ pins))) S1 gl here q dbg
      · exact ld_blt (X := X.suite a ((a, ob1) :: (X.pn ++ pins))) S1 gl none_ boot q nm dbg
    refine named (matched.here ?_)
    cases yes with
    | true =>
      refine codeAny_handlers_suite_as (HandSPX.lands_againZ fly1 fun h2 fly2 up2 => ?_)
      have J2 : Inv X pins τ G { z with heap := h2 } := J.landed kept fly2.1 ((grown.trans up1).trans up2) os bare
      obtain ⟨ob2, us2, at2, z2, dat2⟩ := fly2.there
      have S2 := J2.suite at2 dat2 free nL nF
      refine store_ok (X := X.suite a ((a, ob2) :: (X.pn ++ pins))) (v := .ref a) S2 nd at_ (.inl loc) rfl (fun z5 S5 => ?_) (.inr loc)
      refine wpAny_mono ((doSuite a ob2 cls d (X.pn ++ pins) z2 ⟨_, dat2⟩).run [] z5 _ G _ S5 (onYes rfl a free)) (fun f z6 over => ?_) fun _ _ q => q.elim
      match f, over with
      | .next, ⟨τ6, G6, S6, q6⟩ =>
        obtain ⟨at6, free6, _⟩ := S6.pin (a, ob2) (List.mem_append.mpr (.inl List.mem_cons_self))
        have K6 := inv_track (o := ExK cls d a) (S6.unsuite good) away free6 nL nC nP (exK_ok at6 z2 dat2)
        exact gone_ok K6 nd at_ loc fun z7 J7 => ⟨_, _, J7, q6 free6⟩
      | .brk, ⟨_, _, _, q6⟩ => exact q6.elim
      | .cont, ⟨_, _, _, q6⟩ => exact q6.elim
      | .ret _, ⟨_, _, _, _, _, q6⟩ => exact q6.elim
    | false =>
      show wpAny _ X.A (handleBy (.ref a) X.env []) _ _ _
      refine wpAny_handleBy_nil ?_
      obtain ⟨w1, w2, w3, ob, us, tb_, oT, rows, hb, zb, db, f1, more⟩ := id fly1
      unfold PySem.passOn
      refine wpAny_bind (wpAny_field hb db f1 ?_)
      rw [if_neg (show ¬ ((Value.ref tb_ == Value.none) = true) from by simp)]
      have last : wpAny (model X.prog X.w) X.A (setFlight (.ref a) X.env.frame) (fun _ z4 => wpAny (model X.prog X.w) X.A (throw (.ref a) : Sem Flow) (SP X pins D) X.xe z4) X.xe { z with heap := h1 } := by
        rw [fr]
        refine HandSPX.setFlight_upZ fly1 fun h4 held4 up4 => wpAny_throw (tk _ _ ?_)
        exact ⟨a, ground, before, pins, τ, G, cls, d, rfl, J, kept, (grown.trans up1).trans up4, .inr (.inr (by rw [stk]; exact held4)), free, os, bare, onNo rfl⟩
      first
        | exact wpAny_bind (wpAny_pure (wpAny_bind last))
        | exact wpAny_bind last
  case through =>
    match f, over with
    | .next, ⟨τ, G, J, q⟩ => exact wpAny_execs_nil ⟨τ, G, J.ofTry good, q⟩
    | .brk, ⟨τ, G, J, q⟩ => exact ⟨τ, G, J.ofTry good, q⟩
    | .cont, ⟨τ, G, J, q⟩ => exact ⟨τ, G, J.ofTry good, q⟩
    | .ret _, ⟨v, τ, G, J, r, q⟩ => exact ⟨v, τ, G, J.ofTry good, r, q⟩
end
section
variable {X : Cx}
theorem inst_of {a D : Addr} {h : Heap} {ob : Obj} {us : Array Value} (e : h.get? a = some ob) (z : Zc (.ref D) none ob) (dat : ob.data = .fields us) : PySem.W.InstAt h a ob D none := by
  obtain ⟨oc, od, da, sl⟩ := ob
  obtain ⟨e1, e2⟩ := z
  dsimp only at e1 e2 dat
  subst e1 e2 dat
  exact ⟨e, rfl, rfl, trivial⟩
/-- isinstance(e, c), e a tracked exception of the class D, without a dict -/
def rIsH (K : PySem.W.Frag) : List V → Hp → VK → Prop := fun xs H Q => ∃ (a D : Addr) (c : V) (u : Value) (b : Bool), xs = [.ref a, c] ∧ H a = some (ExK (.ref D) none a) ∧ ExcC K D ∧ ClsV c u ∧ PySem.W.kitOne K (.ref D) u = some b ∧ Q (.bl b) H
theorem call_isH : CallR X (.builtin "isinstance") (rIsH X.K) := by
  intro pins s σ H xs us Q I r h
  obtain ⟨a, D, c, u, b, rfl, at_, C, k, e, q⟩ := h
  obtain ⟨u1, u2, rfl, r1, r2⟩ := vals2 r
  have e2 := k.eq r2
  subst e2
  cases (show u1 = Value.ref a from r1)
  obtain ⟨⟨ob, fs, o1, o2, o3⟩, _⟩ := I.hok a _ at_
  exact PySem.W.kia_one (PySem.W.handS_kitx_exc C.hg C.hk C.hs C.hd C.ha C.hn C.ht C.hm) I.kIn (inst_of o1 o2 o3) e (fun z => nomatch z) fun tk => ⟨.bl b, H, I.tok tk, rfl, q⟩
/-- isinstance(e, (c1, ..)) -/
def rIsHT (K : PySem.W.Frag) : List V → Hp → VK → Prop := fun xs H Q => ∃ (a D tp : Addr) (cs : List V) (us : List Value) (b : Bool), xs = [.ref a, .ref tp] ∧ H a = some (ExK (.ref D) none a) ∧ ExcC K D ∧ H tp = some (.tup cs) ∧ Paired ClsV cs us ∧ PySem.W.kitAny K (.ref D) us = some b ∧ Q (.bl b) H
theorem call_isHT : CallR X (.builtin "isinstance") (rIsHT X.K) := by
  intro pins s σ H xs us Q I r h
  obtain ⟨a, D, tp, cs, ws, b, rfl, at_, C, hT, k, e, q⟩ := h
  obtain ⟨u1, u2, rfl, r1, r2⟩ := vals2 r
  cases (show u1 = Value.ref a from r1)
  cases (show u2 = Value.ref tp from r2)
  obtain ⟨⟨ob, fs, o1, o2, o3⟩, _⟩ := I.hok a _ at_
  obtain ⟨_, its, rv, ot, h1, h2, n, h3⟩ := (show ObjOk X.prog X.w H s.heap tp (.tup cs) from I.hok tp _ hT)
  have e3 := ClsV.all k rv
  subst e3
  obtain ⟨oc, od, dt, sl⟩ := ot
  simp only at h2 h3
  subst h2 h3
  exact PySem.W.kia_tup (PySem.W.handS_kitx_exc C.hg C.hk C.hs C.hd C.ha C.hn C.ht C.hm) I.kIn (inst_of o1 o2 o3) h1 e (fun z => nomatch z) fun tk => ⟨.bl b, H, I.tok tk, rfl, q⟩
end
end Xk
set_option Elab.async false
set_option linter.all false
set_option maxRecDepth 100000
set_option maxHeartbeats 4000000
set_option pp.maxSteps 600
/-! Refusals that are kept, one of them with a field. -/
namespace Xk
open PySem PySem.Spec PyProof.Rows L2
/-- the own dict of a tracked exception, if it has one, is tracked -/
def DictOk (H : Hp) (d : Option Addr) : Prop := d = none ∨ ∃ dd fs, d = some dd ∧ H dd = some (.xd fs)
section
variable {X : Cx}
theorem inst_ofX {pins : List (Addr × Obj)} {σ : L2.St} {H : Hp} {s : Shared} {a D : Addr} {d : Option Addr} (I : Inv X pins σ H s) (at_ : H a = some (ExK (.ref D) d a)) (hd : DictOk H d) : ∃ ob od, PySem.W.InstAt s.heap a ob D od := by
  obtain ⟨⟨ob, fs, o1, o2, o3⟩, _⟩ := I.hok a _ at_
  obtain ⟨oc, od, da, sl⟩ := ob
  obtain ⟨e1, e2⟩ := o2
  dsimp only at e1 e2 o3
  subst e1 e2 o3
  rcases hd with e | ⟨dd, gs, e, hdd⟩
  · subst e
    exact ⟨_, none, o1, rfl, rfl, trivial⟩
  · subst e
    obtain ⟨mA, ⟨oD, es, ep, h1, _⟩, _⟩ := (show ObjOk X.prog X.w H s.heap dd (.xd gs) from I.hok dd _ hdd)
    exact ⟨_, some oD, o1, rfl, rfl, h1⟩
/-- isinstance(e, c), e a tracked exception of the class D -/
def rIsX (K : PySem.W.Frag) : List V → Hp → VK → Prop := fun xs H Q => ∃ (a D : Addr) (d : Option Addr) (c : V) (u : Value) (b : Bool), xs = [.ref a, c] ∧ H a = some (ExK (.ref D) d a) ∧ DictOk H d ∧ ExcC K D ∧ ClsV c u ∧ PySem.W.kitOne K (.ref D) u = some b ∧ Q (.bl b) H
theorem call_isX : CallR X (.builtin "isinstance") (rIsX X.K) := by
  intro pins s σ H xs us Q I r h
  obtain ⟨a, D, d, c, u, b, rfl, at_, hd, C, k, e, q⟩ := h
  obtain ⟨u1, u2, rfl, r1, r2⟩ := vals2 r
  have e2 := k.eq r2
  subst e2
  cases (show u1 = Value.ref a from r1)
  obtain ⟨ob, od, J⟩ := inst_ofX I at_ hd
  have hcl : (PySem.W.clsIn X.K D).isSome = true := by
    obtain ⟨cd, hc, _⟩ := PySem.W.any_some C.hd
    rw [hc]
    rfl
  exact PySem.W.kia_one (PySem.W.kitx_exc hcl C.hg C.hk C.hs C.ha C.hn C.ht C.hm) I.kIn J e (fun z => nomatch z) fun tk => ⟨.bl b, H, I.tok tk, rfl, q⟩
/-- isinstance(e, (c1, ..)) -/
def rIsXT (K : PySem.W.Frag) : List V → Hp → VK → Prop := fun xs H Q => ∃ (a D tp : Addr) (d : Option Addr) (cs : List V) (us : List Value) (b : Bool), xs = [.ref a, .ref tp] ∧ H a = some (ExK (.ref D) d a) ∧ DictOk H d ∧ ExcC K D ∧ H tp = some (.tup cs) ∧ Paired ClsV cs us ∧ PySem.W.kitAny K (.ref D) us = some b ∧ Q (.bl b) H
theorem call_isXT : CallR X (.builtin "isinstance") (rIsXT X.K) := by
  intro pins s σ H xs us Q I r h
  obtain ⟨a, D, tp, d, cs, ws, b, rfl, at_, hd, C, hT, k, e, q⟩ := h
  obtain ⟨u1, u2, rfl, r1, r2⟩ := vals2 r
  cases (show u1 = Value.ref a from r1)
  cases (show u2 = Value.ref tp from r2)
  obtain ⟨ob, od0, J⟩ := inst_ofX I at_ hd
  obtain ⟨_, its, rv, ot, h1, h2, n, h3⟩ := (show ObjOk X.prog X.w H s.heap tp (.tup cs) from I.hok tp _ hT)
  have e3 := ClsV.all k rv
  subst e3
  obtain ⟨oc, od, dt, sl⟩ := ot
  simp only at h2 h3
  subst h2 h3
  have hcl : (PySem.W.clsIn X.K D).isSome = true := by
    obtain ⟨cd, hc, _⟩ := PySem.W.any_some C.hd
    rw [hc]
    rfl
  exact PySem.W.kia_tup (PySem.W.kitx_exc hcl C.hg C.hk C.hs C.ha C.hn C.ht C.hm) I.kIn J h1 e (fun z => nomatch z) fun tk => ⟨.bl b, H, I.tok tk, rfl, q⟩
/-- e.f, e a tracked exception with the field f -/
theorem pe_fieldX {C : Addr} {e : Expr} {te : TE} {pos : Pos} {n : Str} (T : XfC X.K C) (hno : PySem.W.findIn X.K (.ref C) n = some none) (he : PE X e te) (hb : attributeBase e n X.env (eval e X.env) = eval e X.env := by rfl) :
    PE X (.Attribute e n pos) (fun σ H Q => te σ H fun x H1 => ∃ (a dd : Addr) (fs : List (Str × V)) (v : V), x = .ref a ∧ H1 a = some (ExK (.ref C) (some dd) a) ∧ H1 dd = some (.xd fs) ∧ fs.lookup n = some v ∧ Q v H1) := by
  refine ⟨fun pins s σ H Q I h => ?_⟩
  refine attr_of hb (thn (he.run pins s σ H _ I h) fun u s1 hh => ?_)
  obtain ⟨x, H1, I1, rx, a, dd, fs, v, ex, ea, ed, l, q⟩ := hh
  subst ex
  obtain rfl : u = Value.ref a := rx
  obtain ⟨⟨ob, us, o1, o2, o3⟩, _⟩ := I1.hok a _ ea
  have hx : ObjOk X.prog X.w H1 s1.heap dd (.xd fs) := I1.hok dd _ ed
  obtain ⟨mA, hns, hr⟩ := hx
  obtain ⟨od, ho, hl⟩ := lookIn_ns hns
  obtain ⟨u, hu, ru⟩ := RelO.some_of (v := v) (o := mA n) (by rw [← l]; exact hr n)
  have J : PySem.W.InstAt s1.heap a ob C (some od) := ⟨o1, o2.1, by unfold PySem.W.notCls; rw [o3] <;> rfl, by rw [o2.2]; exact ho⟩
  exact HandSPX.exc_get I1.kIn J T.ga T.gg T.exC (PySem.W.findObj_own T.hdC hno rfl (by rw [hl, hu])) (handed_of ru) ⟨v, H1, I1.tok _, ru, q⟩
end
end Xk
set_option Elab.async false
set_option linter.all false
set_option maxRecDepth 100000
set_option maxHeartbeats 8000000
set_option pp.maxSteps 500
/-! _law_ran. -/
namespace Kf
open PySem PySem.Spec PyProof.Rows L2 Sx RZ Xk
abbrev sRan : Stmt := top 69
abbrev ranN : List Str := ["program", "numbers", "most", "caught", "found", "e"]
theorem scRan : FnScope ranN ["program", "numbers", "most"] (defScope sRan) := ⟨rfl, rfl, rfl, by decide +kernel, rfl, by decide +kernel, by decide +kernel⟩
/-! ### a call with keywords that may raise into the own clause -/
section
variable {X : Cx} {CX : CXT} {k : Nat} {f : Addr} {fd : FuncData} {ps ks : List Str} {sp : Sp} {E : L2.St → XK} {x : Str} {p pos : Pos} {e : Expr} {es : List Expr} {kws : List Keyword} {t tk : TA} {g : List Value → List Value → List Value} {gV : List V → List V → List V}
def tCallKS (sp : Sp) (gV : List V → List V → List V) (E : L2.St → XK) (t tk : TA) : TE := fun σ H Q => t σ H fun vs H1 => tk σ H1 fun zs H2 => sp (gV vs zs) H2 Q (E σ)
theorem pe_callKS (F : FnOk X.prog X.w X.K X.mg X.base CX k f fd ps sp) (hr : Room k X.A) (hg : Gl X x) (hm : X.mg x = some (.ref f)) (hk : PySem.W.keepIn X.K (.ref f) = true) (hb : KBinds X.K fd ps ks g gV) (hx : ∀ σ, PassesAt CX X σ (E σ))
    (ha : PA X (e :: es) t) (hkw : PK X kws tk) (hall : (backToKw pos (keywordEach kws X.env)).all (·.1.isSome) = true := by rfl) (hks : (backToKw pos (keywordEach kws X.env)).filterMap (·.1) = ks := by rfl)
    (hdb : (x == ("__debug__" : Str)) = false := by decide) (he : starEach (e :: es) X.env = (false, eval e X.env) :: starEach es X.env := by rfl)
    (hpl : ((backTo pos (starEach (e :: es) X.env)).any (·.1) || (backToKw pos (keywordEach kws X.env)).any (·.1.isNone)) = false := by rfl) :
    PE X (.Call (.Name x p) (e :: es) kws pos) (tCallKS sp gV E t tk) := by
  refine ⟨fun pins s σ H Q I h => ?_⟩
  refine wpAny_Call_Name_kw (ld_glob I hg hm ?_ hdb)
  refine PySem.W.callWith_KW (h₀ := X.base) I.ok.mod.kin hk hall (thn (ha.run pos pins s σ H _ I h) fun us s1 ⟨vs, H1, I1, r, q⟩ => ?_) hpl he
  refine thn (hkw.run pos pins s1 σ H1 _ I1 q) fun ws s2 ⟨zs, H2, I2, rz, q2⟩ => ⟨I2.kIn, ?_⟩
  rw [hks]
  have r2 := hb.rel r rz
  have hl : (g us ws).length = ps.length := by rw [← r2.length]; exact F.len _ _ _ _ q2
  refine wpAny_call (codeAny_mono (F.run X.A X.stack s2 H2 ⟨us, ks.zip ws⟩ (g us ws) (gV vs zs) Q (E σ) hr I2.env0 (hb.to s2 us ws I2.kIn hl) r2 q2) fun r s' hq => ?_)
  cases r with
  | error e => exact hx σ pins H2 s2 e s' I2 hq
  | ok fl =>
    cases fl with
    | ret u => exact I2.after hq
    | next => exact False.elim hq
    | brk => exact False.elim hq
    | cont => exact False.elim hq
end
section
variable {P : Program} {w : World} {K : PySem.W.Frag} {mg : Str → Option Value} {base : Heap} {C TMa PT GE f fr : Addr} {fd dr : FuncData}
structure ExR (K : PySem.W.Frag) (mg : Str → Option Value) (TMa GE : Addr) : Prop where
  mG : mg "GroundError" = some (.ref GE)
  mT : mg "TooMany" = some (.ref TMa)
  up : PySem.W.exmOne K (.ref TMa) (.ref GE) = some true
  cl : ExcC K TMa
  tt : PySem.W.kitOne K (.ref TMa) (.ref TMa) = some true
  zIs : mg "isinstance" = none
/-- run's binding: limit is told by its name -/
def gRun {α : Type} : List α → List α → List α
  | [a, b], [c] => [a, b, c]
  | _, _ => []
theorem run_b1 {a b c : Value} (kV doc pm : Value) (an : Option Addr) (cdv ct : Value) : bindArgs (PySem.W.fnOf "run" "run" (defArgs sRun) (defBody sRun) (defScope sRun) .none kV doc pm an cdv ct) ⟨[a, b], (["limit"] : List Str).zip [c]⟩ = pure ((["program", "numbers", "limit"] : List Str).zip [a, b, c]) := rfl
theorem run_binds {fd : FuncData} {f : Addr} (F : Fun K "run" "run" sRun f fd) : KBinds K fd ["program", "numbers", "limit"] ["limit"] gRun gRun := by
  obtain ⟨oc, od, kV, doc, pm, an, cdv, ct, osl, rfl, lk, hcd⟩ := F.ex
  refine ⟨fun s us ws _ hl => ?_, fun {vs us zs ws} r rz => ?_⟩
  · have g : (∃ a b c, us = [a, b] ∧ ws = [c]) ∨ gRun us ws = [] := by
      rcases us with _ | ⟨a, _ | ⟨b, _ | ⟨d, us⟩⟩⟩
      · exact .inr rfl
      · exact .inr rfl
      · rcases ws with _ | ⟨c, _ | ⟨e, ws⟩⟩
        · exact .inr rfl
        · exact .inl ⟨a, b, c, rfl, rfl⟩
        · exact .inr rfl
      · exact .inr rfl
    rcases g with ⟨a, b, c, rfl, rfl⟩ | g
    · exact .of_eq (run_b1 kV doc pm an cdv ct)
    · rw [g] at hl
      cases hl
  · cases r with
    | nil => exact .nil
    | cons h1 r =>
      cases r with
      | nil => cases rz <;> exact .nil
      | cons h2 r =>
        cases r with
        | nil =>
          cases rz with
          | nil => exact .nil
          | cons h3 rz =>
            cases rz with
            | nil => exact .cons h1 (.cons h2 (.cons h3 .nil))
            | cons _ _ => exact .nil
        | cons _ _ => cases rz <;> exact .nil
def spRan (K : PySem.W.Frag) (C : Addr) (PT : Addr) : Sp := fun vs H Q _ => ∃ (v : V) (nq : Addr) (l : Int) (p : Pg) (k : Kd) (N : List Str) (ν : Str → Option Int) (kvs : List (Key × V)) (n : Nat) (o : Out), vs = [v, .ref nq, .int l] ∧ Dt K H v (pgD p) ∧ Ty (N, []) p k ∧ k.Okz ∧ NoFrom k ∧ N.length < 64 ∧ p.deep ≤ 50 ∧ p.size ≤ 5000 ∧ GxR.TabG H PT ∧
  H nq = some (.dK kvs) ∧ (∀ z, valV kvs (.inr z) = (ν z).map V.int) ∧ (∀ z n, ν z = some n → 0 ≤ n) ∧ (∀ z ∈ opn p, ∃ n, ν z = some n) ∧ EndsM ν n (st0 p l) o ∧ 10 * n + 100 ≤ sizeLine ∧
  (∀ w, o = .told w → ∀ q' v' H', Gen PT H H' → H' q' = some (.tup [.str "told", v']) → WvAt K C sizeLine H' v' w → Q (.ref q') H') ∧ (o = .many → ∀ q' H', Gen PT H H' → H' q' = some (.tup [.str "many"]) → Q (.ref q') H')
theorem ok_ran (F : Fun K "_law_ran" "_law_ran" sRan f fd) (G : FnOk P w K mg base (L2.CX P w) 7 fr dr ["program", "numbers", "limit"] (spRun K C PT TMa)) (bG : KBinds K dr ["program", "numbers", "limit"] ["limit"] gRun gRun) (kG : PySem.W.keepIn K (.ref fr) = true) (mG : mg "run" = some (.ref fr)) (M : ExR K mg TMa GE) :
    FnOk P w K mg base CX0 8 f fd ["program", "numbers", "most"] (spRan K C PT) := by
  refine F.ok scRan (fun vs H Q E h => ?_) (fun cdv Ar outer s0 H vs Q E hr h => ?_)
  · obtain ⟨v, nq, l, p, k, N, ν, kvs, n, o, rfl, _⟩ := h
    rfl
  have h7 : Room 7 _ := hr
  obtain ⟨v, nq, l, p, k, N, ν, kvs, n, o, rfl, hd, ty, okz, nf, nl, dp, sz, hT, hnq, hν, ν0, νo, en, nb, qt, qm⟩ := h
  refine ⟨_, (pss_cons (ps_set (i := 3) scRan.nd rfl (.inl rfl) pe_non)
    (pss_cons (ps_set (i := 4) scRan.nd rfl (.inl rfl) pe_non)
    (pss_cons (ps_try_hold (i := 5) (c := .ref GE) rfl rfl scRan.nd rfl rfl ⟨by rfl, by decide, .inl M.mG⟩ L2.takes0 rfl
      (fun W pn xe tk _ => pss_one (ps_set (i := 4) scRan.nd rfl (.inl rfl) (pe_callKS (E := fun σ => WE W σ) G h7 (by rfl) mG kG bG (fun σ => passAt tk σ) (pa_cons (pv 0) (pa_cons (pv 1) pa_nil)) (pk_cons (pv 2) pk_nil))))
      (fun a oe cls d pn _ _ => pss_one (ps_set (i := 3) scRan.nd rfl (.inl rfl) (pv 5))))
    (pss_cons (ps_if (pt_cmpR op_isN (pv 3) pe_non (nomark _)) (pss_one (ps_ret (pe_tup (pa_cons pe_str (pa_cons (pv 4) pa_nil))))) pss_nil)
    (pss_one (ps_ret (pe_ifExp (pt_val (pe_callB call_isX (by rfl) M.zIs (by decide +kernel) (pa_cons (pv 3) (pa_cons (pe_glob (v := .ref TMa) (by rfl) M.mT rfl) pa_nil)))) (pe_tup (pa_cons pe_str pa_nil)) (pe_tup (pa_cons pe_str pa_nil))))))))), ?_⟩
  refine ⟨_, rfl, _, rfl, _, rfl, v, nq, l, p, k, N, ν, kvs, n, o, rfl, hd, ty, okz, nf, nl, dp, sz, hT, hnq, hν, ν0, νo, en, nb, fun x e v' H1 g1 wv => ?_, fun e H1 g1 => ?_⟩
  · refine ⟨_, rfl, rfl, _, rfl, ?_⟩
    refine condT (decide_eq_true rfl) ⟨_, rfl, (by decide : 2 ≤ sizeLine), fun q' nq' => ?_⟩
    exact qt x e q' v' _ (g1.new nq') upd_same (wv.keep (same_new nq') (Nat.le_refl _))
  · refine ⟨true, M.up, fun _ a na => ?_, fun z => by cases z⟩
    refine ⟨_, rfl, fun _ => ?_⟩
    have g2 : Gen PT H (upd H1 a (ExK (.ref TMa) none a)) := g1.new na
    have eA : upd H1 a (ExK (.ref TMa) none a) a = some (ExK (.ref TMa) none a) := upd_same
    refine ⟨_, rfl, rfl, _, rfl, ?_⟩
    refine condF (decide_eq_false (fun z => by cases z)) ?_
    refine ⟨_, rfl, a, TMa, none, _, _, true, rfl, eA, .inl rfl, M.cl, .own TMa, M.tt, _, rfl, ?_⟩
    exact condT rfl ⟨(by decide : 1 ≤ sizeLine), fun q' nq' => qm e q' _ (g2.new nq') upd_same⟩
end
end Kf
set_option Elab.async false
set_option linter.all false
set_option maxRecDepth 100000
set_option maxHeartbeats 4000000
/-! Walks: what comes of items, in steps of the machine. -/
namespace Kf
open PySem PySem.Spec PyProof.Rows L2 Sx RZ
inductive StepsM (ν : Str → Option Int) : MSt → MSt → Prop
  | refl {S : MSt} : StepsM ν S S
  | step {it : Item} {l : Int} {r : List Item} {d : List Wv} {S S' : MSt} (h : stepI ν it ⟨l, r, d⟩ = .go S) (t : StepsM ν S S') : StepsM ν ⟨l, it :: r, d⟩ S'
theorem StepsM.trans {ν : Str → Option Int} {S S1 S2 : MSt} (a : StepsM ν S S1) (b : StepsM ν S1 S2) : StepsM ν S S2 := by
  induction a with
  | refl => exact b
  | step h _ ih => exact .step h (ih b)
theorem StepsM.ends {ν : Str → Option Int} {S S1 : MSt} (a : StepsM ν S S1) {o : Out} (b : ∃ n, EndsM ν n S1 o) : ∃ n, EndsM ν n S o := by
  induction a with
  | refl => exact b
  | step h _ ih =>
    obtain ⟨n, e⟩ := ih b
    exact ⟨n + 1, .go h e⟩
/-- the items come to w, from worths ds -/
def RunsD (ν : Str → Option Int) (L : Nat) (its : List Item) (ds : List Wv) (L' : Nat) (w : Wv) : Prop := ∀ r d, StepsM ν ⟨(L : Int), its ++ r, ds ++ d⟩ ⟨(L' : Int), r, w :: d⟩
def ManyD (ν : Str → Option Int) (L : Nat) (its : List Item) (ds : List Wv) : Prop := ∀ r d, ∃ n, EndsM ν n ⟨(L : Int), its ++ r, ds ++ d⟩ .many
section
variable {ν : Str → Option Int} {L L1 L2 : Nat} {it : Item} {its its' : List Item} {ds ds' : List Wv} {w w1 : Wv} {sc : Scp} {p : Pg}
theorem runs_seq (a : RunsD ν L [it] [] L1 w1) (b : RunsD ν L1 its (w1 :: ds) L2 w) : RunsD ν L (it :: its) ds L2 w := fun r d => (a (its ++ r) (ds ++ d)).trans (b r d)
theorem many_seq (a : RunsD ν L [it] [] L1 w1) (b : ManyD ν L1 its (w1 :: ds)) : ManyD ν L (it :: its) ds := fun r d => (a (its ++ r) (ds ++ d)).ends (b r d)
theorem many_head (a : ManyD ν L [it] []) : ManyD ν L (it :: its) ds := fun r d => a (its ++ r) (ds ++ d)
theorem runs_step (h : ∀ r d, stepI ν it ⟨(L : Int), its ++ r, ds ++ d⟩ = .go ⟨(L1 : Int), its' ++ r, ds' ++ d⟩) (b : RunsD ν L1 its' ds' L2 w) : RunsD ν L (it :: its) ds L2 w := fun r d => .step (h r d) (b r d)
theorem many_step (h : ∀ r d, stepI ν it ⟨(L : Int), its ++ r, ds ++ d⟩ = .go ⟨(L1 : Int), its' ++ r, ds' ++ d⟩) (b : ManyD ν L1 its' ds') : ManyD ν L (it :: its) ds := fun r d => by
  obtain ⟨n, e⟩ := b r d
  exact ⟨n + 1, .go (h r d) e⟩
theorem many_now (h : ∀ r d, stepI ν it ⟨(L : Int), its ++ r, ds ++ d⟩ = .many) : ManyD ν L (it :: its) ds := fun r d => ⟨1, .many (h r d)⟩
theorem runs_now (h : ∀ r d, stepI ν it ⟨(L : Int), r, ds ++ d⟩ = .go ⟨(L1 : Int), r, w :: d⟩) : RunsD ν L [it] ds L1 w := fun r d => .step (h r d) .refl
theorem dn1 {L : Nat} : (((L + 1 : Nat) : Int) - 1) = (L : Int) := by omega
theorem pos1 {L : Nat} : ¬ ((L + 1 : Nat) : Int) ≤ 0 := by omega
theorem many_zero : ManyD ν 0 [.into p sc] [] := many_now fun r d => by
  show stepIn ν p sc _ = _
  unfold stepIn
  exact if_pos (Int.le_refl 0)
theorem in_nothing : RunsD ν (L + 1) [.into .nothing sc] [] L .none := runs_now fun r d => by
  show stepIn ν .nothing sc _ = _
  unfold stepIn
  rw [if_neg pos1]
  show tellW ⟨((L + 1 : Nat) : Int) - 1, r, d⟩ .none = _
  rw [dn1]
  rfl
theorem in_num {n : Int} (h : n < 10 ^ 60) : RunsD ν (L + 1) [.into (.num n) sc] [] L (.int n) := runs_now fun r d => by
  show stepIn ν (.num n) sc _ = _
  unfold stepIn
  rw [if_neg pos1]
  show tellN ⟨((L + 1 : Nat) : Int) - 1, r, d⟩ n = _
  rw [dn1]
  exact if_neg (by omega)
theorem in_name {z : Str} {n : Int} (e : (sc.named.lookup z).or (ν z) = some n) (h : n < 10 ^ 60) : RunsD ν (L + 1) [.into (.name z) sc] [] L (.int n) := runs_now fun r d => by
  show stepIn ν (.name z) sc _ = _
  unfold stepIn
  rw [if_neg pos1]
  dsimp only
  rw [dn1]
  cases e1 : sc.named.lookup z with
  | some k =>
    rw [e1] at e
    cases e
    exact if_neg (by omega)
  | none =>
    rw [e1] at e
    have e : ν z = some n := e
    rw [e]
    exact if_neg (by omega)
theorem in_name_many {z : Str} {n : Int} (e : (sc.named.lookup z).or (ν z) = some n) (h : 10 ^ 60 ≤ n) : ManyD ν (L + 1) [.into (.name z) sc] [] := many_now fun r d => by
  show stepIn ν (.name z) sc _ = _
  unfold stepIn
  rw [if_neg pos1]
  dsimp only
  rw [dn1]
  cases e1 : sc.named.lookup z with
  | some k =>
    rw [e1] at e
    cases e
    exact if_pos h
  | none =>
    rw [e1] at e
    have e : ν z = some n := e
    rw [e]
    exact if_pos h
theorem in_known {z : Str} {k : Kd} (e : sc.known.lookup z = some w) : RunsD ν (L + 1) [.into (.known z k) sc] [] L w := runs_now fun r d => by
  show stepIn ν (.known z k) sc _ = _
  unfold stepIn
  rw [if_neg pos1]
  dsimp only
  rw [dn1, e]
  rfl
theorem in_lets {z : Str} {k : Kd} {a : Pg} : RunsD ν (L + 1) [.into (.lets z k a) sc] [] L (.rule (.lets z k a) sc.named sc.known) := runs_now fun r d => by
  show stepIn ν (.lets z k a) sc _ = _
  unfold stepIn
  rw [if_neg pos1]
  dsimp only
  rw [dn1]
  rfl
theorem in_for {z : Str} {a : Pg} : RunsD ν (L + 1) [.into (.for_ z a) sc] [] L (.rule (.for_ z a) sc.named sc.known) := runs_now fun r d => by
  show stepIn ν (.for_ z a) sc _ = _
  unfold stepIn
  rw [if_neg pos1]
  dsimp only
  rw [dn1]
  rfl
abbrev walkI (p : Pg) (sc : Scp) : List Item := (firsts p).map (fun a => .into a sc) ++ [.fin p sc]
theorem in_go (hp : p.isEnd = true) (r : List Item) (d : List Wv) : stepI ν (.into p sc) ⟨((L + 1 : Nat) : Int), [] ++ r, [] ++ d⟩ = .go ⟨(L : Int), walkI p sc ++ r, [] ++ d⟩ := by
  show stepI ν (.into p sc) ⟨((L + 1 : Nat) : Int), r, d⟩ = _
  rw [step_end hp pos1, dn1]
  unfold walkI
  rw [List.append_assoc]
  rfl
theorem in_runs (hp : p.isEnd = true) (h : RunsD ν L (walkI p sc) [] L1 w) : RunsD ν (L + 1) [.into p sc] [] L1 w := runs_step (in_go hp) h
theorem in_many (hp : p.isEnd = true) (h : ManyD ν L (walkI p sc) []) : ManyD ν (L + 1) [.into p sc] [] := many_step (in_go hp) h
end
section
variable {ν : Str → Option Int}
theorem step_left {it : Item} {l : Int} {r : List Item} {d : List Wv} {S : MSt} (h : stepI ν it ⟨l, r, d⟩ = .go S) : S.left = l ∨ (0 < l ∧ S.left = l - 1) := by
  cases it with
  | into p sc => exact .inr ⟨(less_in h).1, (less_in h).2.1⟩
  | fin p sc => exact .inl (less_fin h).1
  | turn p sc i j => exact .inl (less_turn h).1
theorem StepsM.le {S S' : MSt} (h : StepsM ν S S') : S'.left ≤ S.left := by
  induction h with
  | refl => exact Int.le_refl _
  | @step it l r d S1 S2 h _ ih =>
    have ih : S2.left ≤ S1.left := ih
    show S2.left ≤ l
    rcases step_left h with e | ⟨_, e⟩ <;> omega
theorem sh_go {R : Res} {e : Int} {S : MSt} (h : Res.go S = R.sh e) : R = .go ⟨S.left - e, S.todo, S.done⟩ := by
  cases R with
  | go S2 =>
    have h : Res.go S = .go ⟨S2.left + e, S2.todo, S2.done⟩ := h
    injection h with h
    subst h
    obtain ⟨a, b, c⟩ := S2
    show Res.go ⟨a, b, c⟩ = .go ⟨a + e - e, b, c⟩
    rw [show a + e - e = a by omega]
  | many => cases h
  | stuck => cases h
theorem step_down {it : Item} {l e : Int} {r : List Item} {d : List Wv} {S : MSt} (e0 : 0 ≤ e) (h : stepI ν it ⟨l, r, d⟩ = .go S) (le : e ≤ S.left) : stepI ν it ⟨l - e, r, d⟩ = .go ⟨S.left - e, S.todo, S.done⟩ := by
  have el : l - e + e = l := by omega
  cases it with
  | into p sc =>
    obtain ⟨pos, eq, _⟩ := less_in h
    have g := stepIn_sh (ν := ν) (p := p) (sc := sc) (l := l - e) (e := e) (t := r) (d := d) (by omega) e0
    rw [el] at g
    have h : stepIn ν p sc ⟨l, r, d⟩ = .go S := h
    rw [h] at g
    exact sh_go g
  | fin p sc =>
    have g := stepFin_sh (p := p) (sc := sc) (l := l - e) (e := e) (t := r) (d := d)
    rw [el] at g
    have h : stepFin p sc ⟨l, r, d⟩ = .go S := h
    rw [h] at g
    exact sh_go g
  | turn p sc i j =>
    have g := stepTurn_sh (p := p) (sc := sc) (i := i) (j := j) (l := l - e) (e := e) (t := r) (d := d)
    rw [el] at g
    have h : stepTurn p sc i j ⟨l, r, d⟩ = .go S := h
    rw [h] at g
    exact sh_go g
theorem StepsM.down {S S' : MSt} (h : StepsM ν S S') {e : Int} (e0 : 0 ≤ e) : e ≤ S'.left → StepsM ν ⟨S.left - e, S.todo, S.done⟩ ⟨S'.left - e, S'.todo, S'.done⟩ := by
  induction h with
  | refl => exact fun _ => .refl
  | @step it l r d S1 S2 h t ih => exact fun le => .step (step_down e0 h (Int.le_trans le t.le)) (ih le)
theorem StepsM.up {S S' : MSt} (h : StepsM ν S S') {e : Int} (e0 : 0 ≤ e) : StepsM ν ⟨S.left + e, S.todo, S.done⟩ ⟨S'.left + e, S'.todo, S'.done⟩ := by
  induction h with
  | refl => exact .refl
  | step h t ih => exact .step (stepI_go e0 h) ih
theorem StepsM.det {S A : MSt} (h : StepsM ν S A) : ∀ {B : MSt}, StepsM ν S B → A.todo = [] → B.todo = [] → A = B := by
  induction h with
  | refl =>
    intro B h2 ea eb
    cases h2 with
    | refl => rfl
    | step _ _ => cases ea
  | step h t ih =>
    intro B h2 ea eb
    cases h2 with
    | refl => cases eb
    | step h3 t3 =>
      rw [h] at h3
      injection h3 with h3
      subst h3
      exact ih t3 ea eb
theorem ends_steps {n : Nat} {S : MSt} {o : Out} (h : EndsM ν n S o) {w : Wv} (ho : o = .told w) : 0 ≤ S.left → ∃ l, 0 ≤ l ∧ StepsM ν S ⟨l, [], [w]⟩ := by
  induction h with
  | @done l w' => cases ho; exact fun h => ⟨l, h, .refl⟩
  | many _ => cases ho
  | @go n l it r d S1 o h e ih =>
    intro h0
    have h0 : 0 ≤ l := h0
    obtain ⟨l2, h2, st⟩ := ih ho (by rcases step_left h with e | ⟨_, e⟩ <;> omega)
    exact ⟨l2, h2, .step h st⟩
/-- just so many steps: told with as many, or more; with fewer too many -/
theorem exact_told {p : Pg} {c : Nat} {w : Wv} (h : StepsM ν (st0 p c) ⟨0, [], [w]⟩) : (∀ l : Int, (c : Int) ≤ l → Ran ν p l (.told w)) ∧ ∀ l : Int, 0 ≤ l → l < c → ∀ o, Ran ν p l o → o = .many := by
  refine ⟨fun l le => ?_, fun l l0 lt o ho => ?_⟩
  · have u := h.up (e := l - c) (by omega)
    have e1 : (⟨(st0 p c).left + (l - c), (st0 p c).todo, (st0 p c).done⟩ : MSt) = st0 p l := by
      show (⟨(c : Int) + (l - c), _, _⟩ : MSt) = _
      rw [show (c : Int) + (l - c) = l by omega]
      rfl
    rw [e1] at u
    exact u.ends ⟨0, .done⟩
  · cases o with
    | many => rfl
    | told w' =>
      obtain ⟨n, en⟩ := ho
      obtain ⟨l2, l20, s2⟩ := ends_steps en rfl l0
      have s3 := s2.up (e := c - l) (by omega)
      have e1 : (⟨(st0 p l).left + (c - l), (st0 p l).todo, (st0 p l).done⟩ : MSt) = st0 p c := by
        show (⟨l + (c - l), _, _⟩ : MSt) = _
        rw [show l + ((c : Int) - l) = c by omega]
        rfl
      rw [e1] at s3
      have e2 := h.det s3 rfl rfl
      injection e2 with e2
      have e2 : (0 : Int) = l2 + (c - l) := e2
      omega
end
end Kf
set_option Elab.async false
set_option linter.all false
set_option maxRecDepth 100000
set_option maxHeartbeats 4000000
/-! Chains of calls: what they come to, in how many steps. -/
namespace Kf
open PySem PySem.Spec PyProof.Rows L2 Sx RZ
abbrev arrow : Kd := .frm .number .number
def hereP (b : Bool) (w0 : Str) : Pg := if b then .name w0 else .known w0 .number
def roundP (b : Bool) (w0 : Str) (body : Pg) : Pg := if b then .for_ w0 body else .lets w0 .number body
def wayP (way : Nat) (b : Bool) (w0 w1 w2 : Str) : Pg :=
  match way with
  | 0 => .call (.known w1 arrow) (.next (hereP b w0))
  | 1 => .call (.known w1 arrow) (.plus (hereP b w0) (.name w2))
  | 2 => .next (.call (.known w1 arrow) (hereP b w0))
  | 3 => .first (.pair (.call (.known w1 arrow) (.next (.next (hereP b w0)))) (.num 0))
  | _ => .plus (.call (.known w1 arrow) (hereP b w0)) (.name w2)
def bodyP (way : Nat) (b : Bool) (w0 w1 w2 : Str) : Nat → Pg
  | 0 => hereP b w0
  | _ + 1 => wayP way b w0 w1 w2
def eldW (way : Nat) (b : Bool) (w0 w1 w2 : Str) : Nat → Wv
  | 0 => .rule (roundP b w0 (hereP b w0)) [] []
  | m + 1 => .rule (roundP b w0 (wayP way b w0 w1 w2)) [(w2, (m : Int))] [(w1, eldW way b w0 w1 w2 m)]
/-- the scope that elder m keeps -/
def kept (way : Nat) (b : Bool) (w0 w1 w2 : Str) : Nat → Scp
  | 0 => ⟨[], []⟩
  | m + 1 => ⟨[(w2, (m : Int))], [(w1, eldW way b w0 w1 w2 m)]⟩
def scX (b : Bool) (w0 : Str) (s : Scp) (x : Int) : Scp := if b then s.nm w0 x else s.lb w0 (.int x)
def valW (way : Nat) : Nat → Int → Int
  | 0, x => x
  | m + 1, x => match way with
    | 0 => valW way m (x + 1)
    | 1 => valW way m (x + m)
    | 2 => valW way m x + 1
    | 3 => valW way m (x + 2)
    | _ => valW way m x + m
def cost1 (way : Nat) : Nat :=
  match way with
  | 0 => 4
  | 1 => 5
  | 2 => 4
  | 3 => 8
  | _ => 5
def costW (way m : Nat) : Nat := cost1 way * m + 1
section
variable {ν : Str → Option Int} {way : Nat} {b : Bool} {w0 w1 w2 : Str} {L : Nat}
theorem eld_eq (m : Nat) : eldW way b w0 w1 w2 m = .rule (roundP b w0 (bodyP way b w0 w1 w2 m)) (kept way b w0 w1 w2 m).named (kept way b w0 w1 w2 m).known := by cases m <;> rfl
theorem fin_call {a c : Pg} {sc : Scp} (m : Nat) (x : Int) (r : List Item) (d : List Wv) : stepI ν (.fin (.call a c) sc) ⟨(L : Int), [] ++ r, [.int x, eldW way b w0 w1 w2 m] ++ d⟩ = .go ⟨(L : Int), [.into (bodyP way b w0 w1 w2 m) (scX b w0 (kept way b w0 w1 w2 m) x)] ++ r, [] ++ d⟩ := by
  rw [eld_eq m]
  cases b with
  | true => rfl
  | false => exact (fin_lets : stepFin (.call a c) sc ⟨(L : Int), r, .int x :: .rule (.lets w0 .number (bodyP way false w0 w1 w2 m)) (kept way false w0 w1 w2 m).named (kept way false w0 w1 w2 m).known :: d⟩ = _)
theorem run_here {s : Scp} {x : Int} (h : x < 10 ^ 60) : RunsD ν (L + 1) [.into (hereP b w0) (scX b w0 s x)] [] L (.int x) := by
  cases b with
  | true => exact in_name (by show ((putL s.named w0 x).lookup w0).or (ν w0) = some x; rw [putL_same]; rfl) h
  | false => exact in_known (by show (putL s.known w0 (.int x)).lookup w0 = _; exact putL_same _ _ _)
theorem run_eld (h10 : w1 ≠ w0) {x : Int} (m : Nat) : RunsD ν (L + 1) [.into (.known w1 arrow) (scX b w0 (kept way b w0 w1 w2 (m + 1)) x)] [] L (eldW way b w0 w1 w2 m) := by
  have e : ([(w1, eldW way b w0 w1 w2 m)] : List (Str × Wv)).lookup w1 = some (eldW way b w0 w1 w2 m) := by
    rw [List.lookup_cons, beq_self_eq_true]
  cases b with
  | true => exact in_known e
  | false => exact in_known (by show (putL _ w0 _).lookup w1 = _; rw [putL_ne h10]; exact e)
theorem run_turn (h20 : w2 ≠ w0) {x : Int} (m : Nat) (h : m ≤ 3000) : RunsD ν (L + 1) [.into (.name w2) (scX b w0 (kept way b w0 w1 w2 (m + 1)) x)] [] L (.int m) := by
  have big : (3000 : Int) < 10 ^ 60 := by decide
  have e : ([(w2, (m : Int))] : List (Str × Int)).lookup w2 = some (m : Int) := by
    rw [List.lookup_cons, beq_self_eq_true]
  cases b with
  | true => exact in_name (by show ((putL _ w0 x).lookup w2).or (ν w2) = _; rw [putL_ne h20]; show (List.lookup w2 [(w2, (m : Int))]).or _ = _; rw [e]; rfl) (by omega)
  | false => exact in_name (by show (List.lookup w2 [(w2, (m : Int))]).or _ = _; rw [e]; rfl) (by omega)
theorem run_next {a : Pg} {sc : Scp} {L1 : Nat} {x : Int} (h : RunsD ν L [.into a sc] [] L1 (.int x)) (hx : x + 1 < 10 ^ 60) : RunsD ν (L + 1) [.into (.next a) sc] [] L1 (.int (x + 1)) :=
  in_runs rfl (runs_seq h (runs_now (ds := [.int x]) fun r d => by show tellN ⟨(L1 : Int), r, d⟩ (x + 1) = _; exact if_neg (by omega)))
theorem run_plus {a c : Pg} {sc : Scp} {L1 L2 : Nat} {x y : Int} (h : RunsD ν L [.into a sc] [] L1 (.int x)) (h2 : RunsD ν L1 [.into c sc] [] L2 (.int y)) (hx : x + y < 10 ^ 60) : RunsD ν (L + 1) [.into (.plus a c) sc] [] L2 (.int (x + y)) :=
  in_runs rfl (runs_seq h (runs_seq h2 (runs_now (ds := [.int y, .int x]) fun r d => by show tellN ⟨(L2 : Int), r, d⟩ (x + y) = _; exact if_neg (by omega))))
theorem run_call {a c : Pg} {sc : Scp} {L1 L2 L3 : Nat} {x : Int} {w : Wv} {m : Nat} (h : RunsD ν L [.into a sc] [] L1 (eldW way b w0 w1 w2 m)) (h2 : RunsD ν L1 [.into c sc] [] L2 (.int x)) (h3 : RunsD ν L2 [.into (bodyP way b w0 w1 w2 m) (scX b w0 (kept way b w0 w1 w2 m) x)] [] L3 w) : RunsD ν (L + 1) [.into (.call a c) sc] [] L3 w :=
  in_runs rfl (runs_seq h (runs_seq h2 (runs_step (its := []) (ds := [.int x, eldW way b w0 w1 w2 m]) (ds' := []) (fin_call m x) h3)))
theorem run_first {a c : Pg} {sc : Scp} {L1 L2 : Nat} {x y : Wv} (h : RunsD ν L [.into a sc] [] L1 x) (h2 : RunsD ν L1 [.into c sc] [] L2 y) : RunsD ν (L + 2) [.into (.first (.pair a c)) sc] [] L2 x :=
  in_runs rfl (runs_seq (in_runs rfl (runs_seq h (runs_seq h2 (runs_now (ds := [y, x]) fun r d => rfl)))) (runs_now (ds := [.pair x y]) fun r d => rfl))
theorem val_up (way : Nat) : ∀ (m : Nat) (x : Int), m ≤ 3000 → x ≤ valW way m x ∧ valW way m x ≤ x + 3000 * m
  | 0, x, _ => ⟨Int.le_refl _, by show x ≤ x + 3000 * ((0 : Nat) : Int); omega⟩
  | m + 1, x, h => by
    have go : ∀ y, y ≤ valW way m y ∧ valW way m y ≤ y + 3000 * m := fun y => val_up way m y (by omega)
    unfold valW
    split
    · have := go (x + 1); omega
    · have := go (x + m); omega
    · have := go x; omega
    · have := go (x + 2); omega
    · have := go x; omega
theorem run_elder (h10 : w1 ≠ w0) (h20 : w2 ≠ w0) : ∀ (m : Nat) (x : Int), m ≤ 3000 → 0 ≤ x → x + 3000 * m ≤ 10 ^ 30 → ∀ L, RunsD ν (L + costW way m) [.into (bodyP way b w0 w1 w2 m) (scX b w0 (kept way b w0 w1 w2 m) x)] [] L (.int (valW way m x))
  | 0, x, _, x0, hx, L => by
    have big : (10 : Int) ^ 30 < 10 ^ 60 := by decide
    have e : costW way 0 = 1 := by unfold costW; omega
    rw [e]
    exact run_here (by omega)
  | m + 1, x, hm, x0, hx, L => by
    have big : (10 : Int) ^ 30 + 10 < 10 ^ 60 := by decide
    have hx' : x + 3000 * (m : Int) + 3000 ≤ 10 ^ 30 := by
      have : ((m + 1 : Nat) : Int) = (m : Int) + 1 := by omega
      rw [this] at hx
      omega
    have vu := fun y => val_up way m y (by omega)
    have rec_ := fun y y0 hy L => run_elder h10 h20 m y (by omega) y0 hy L
    have vx := (vu x).2
    show RunsD ν (L + costW way (m + 1)) [.into (wayP way b w0 w1 w2) (scX b w0 (kept way b w0 w1 w2 (m + 1)) x)] [] L (.int (valW way (m + 1) x))
    have cs : costW way (m + 1) = costW way m + cost1 way := by unfold costW; rw [Nat.mul_succ]; omega
    rw [cs]
    rcases way with _ | _ | _ | _ | way
    · have r := rec_ (x + 1) (by omega) (by omega) L
      exact run_call (run_eld h10 m) (run_next (run_here (by omega)) (by omega)) r
    · have r := rec_ (x + m) (by omega) (by omega) L
      exact run_call (run_eld h10 m) (run_plus (run_here (by omega)) (run_turn h20 m (by omega)) (by omega)) r
    · have r := rec_ x x0 (by omega) L
      exact run_next (run_call (run_eld h10 m) (run_here (by omega)) r) (by omega)
    · have r := rec_ (x + 2) (by omega) (by omega) (L + 1)
      rw [show L + 1 + costW 3 m = L + costW 3 m + 1 by omega] at r
      exact run_first (run_call (run_eld h10 m) (by
        have h := run_next (L := L + costW 3 m + 1 + 2) (run_next (L := L + costW 3 m + 1 + 1) (L1 := L + costW 3 m + 1) (run_here (ν := ν) (b := b) (w0 := w0) (s := kept 3 b w0 w1 w2 (m + 1)) (x := x) (L := L + costW 3 m + 1) (by omega)) (by omega)) (by omega)
        rw [show x + 1 + 1 = x + 2 by omega] at h
        exact h) r) (in_num (by decide))
    · have r := rec_ x x0 (by omega) (L + 1)
      rw [show L + 1 + costW (way + 4) m = L + costW (way + 4) m + 1 by omega] at r
      exact run_plus (run_call (run_eld h10 m) (run_here (by omega)) r) (run_turn h20 m (by omega)) (by omega)
theorem turn_stop {L : Nat} {p : Pg} {sc : Scp} {i t : Int} {w1 : Wv} (h : ¬ i < t) : RunsD ν L [.turn p sc i t] [w1] L w1 := runs_now (ds := [w1]) fun r d => by
  show stepTurn p sc i t ⟨(L : Int), r, w1 :: d⟩ = _
  unfold stepTurn
  exact if_neg h
theorem turn_on {a b c : Pg} {x u : Str} {sc : Scp} {i t : Int} {w1 : Wv} {L : Nat} (h : i < t) (r : List Item) (d : List Wv) : stepI ν (.turn (.climb a x u b c) sc i t) ⟨(L : Int), [] ++ r, [w1] ++ d⟩ = .go ⟨(L : Int), [.into b ((sc.nm x i).lb u w1), .turn (.climb a x u b c) sc (i + 1) t] ++ r, [] ++ d⟩ := by
  show stepTurn (.climb a x u b c) sc i t ⟨(L : Int), r, w1 :: d⟩ = _
  unfold stepTurn
  exact if_pos h
theorem run_round {body : Pg} {sc : Scp} : RunsD ν (L + 1) [.into (roundP b w0 body) sc] [] L (.rule (roundP b w0 body) sc.named sc.known) := by
  cases b with
  | true => exact in_for
  | false => exact in_lets
def climbP (way : Nat) (b : Bool) (w0 w1 w2 : Str) (many : Nat) : Pg := .climb (roundP b w0 (hereP b w0)) w2 w1 (roundP b w0 (wayP way b w0 w1 w2)) (.num many)
def chainP (way : Nat) (b : Bool) (w0 w1 w2 : Str) (many : Nat) (begin_ : Int) : Pg := .call (climbP way b w0 w1 w2 many) (.num begin_)
theorem run_turns (many : Nat) : ∀ (j i : Nat), i + j = many → RunsD ν (L + j) [.turn (climbP way b w0 w1 w2 many) ⟨[], []⟩ i many] [eldW way b w0 w1 w2 i] L (eldW way b w0 w1 w2 many)
  | 0, i, h => by
    have e : i = many := h
    subst e
    exact turn_stop (by omega)
  | j + 1, i, h => by
    have rest := run_turns many j (i + 1) (by omega)
    have r1 := run_round (ν := ν) (b := b) (w0 := w0) (L := L + j) (body := wayP way b w0 w1 w2) (sc := (Scp.nm ⟨[], []⟩ w2 i).lb w1 (eldW way b w0 w1 w2 i))
    refine runs_step (its := []) (ds := [eldW way b w0 w1 w2 i]) (ds' := []) (turn_on (by omega)) (runs_seq (L1 := L + j) r1 ?_)
    have e1 : ((i + 1 : Nat) : Int) = (i : Int) + 1 := by omega
    rw [e1] at rest
    exact rest
theorem run_climb (many : Nat) (h : many ≤ 3000) : RunsD ν (L + many + 3) [.into (climbP way b w0 w1 w2 many) ⟨[], []⟩] [] L (eldW way b w0 w1 w2 many) := by
  have big : (3000 : Int) < 10 ^ 60 := by decide
  refine in_runs rfl (runs_seq (in_num (by omega)) (runs_seq run_round (runs_step (its := []) (ds := [eldW way b w0 w1 w2 0, .int many]) (its' := [.turn (climbP way b w0 w1 w2 many) ⟨[], []⟩ 0 many]) (ds' := [eldW way b w0 w1 w2 0]) (fun r d => rfl) ?_)))
  exact run_turns many many 0 (by omega)
theorem run_chain (h10 : w1 ≠ w0) (h20 : w2 ≠ w0) (many : Nat) (x : Int) (h : many ≤ 3000) (x0 : 0 ≤ x) (hx : x + 3000 * many ≤ 10 ^ 30) : RunsD ν (L + (costW way many + many + 5)) [.into (chainP way b w0 w1 w2 many x) ⟨[], []⟩] [] L (.int (valW way many x)) := by
  have big : (10 : Int) ^ 30 < 10 ^ 60 := by decide
  have r1 := run_climb (ν := ν) (way := way) (b := b) (w0 := w0) (w1 := w1) (w2 := w2) (L := L + costW way many + 1) many h
  have r2 := in_num (ν := ν) (L := L + costW way many) (sc := ⟨[], []⟩) (n := x) (by omega)
  have r := run_call (b := b) r1 r2 (run_elder h10 h20 many x h x0 hx L)
  rw [show L + costW way many + 1 + many + 3 + 1 = L + (costW way many + many + 5) by omega] at r
  exact r
/-- in just so many steps -/
theorem chain_exact (h10 : w1 ≠ w0) (h20 : w2 ≠ w0) (many : Nat) (x : Int) (h : many ≤ 3000) (x0 : 0 ≤ x) (hx : x + 3000 * many ≤ 10 ^ 30) : StepsM ν (st0 (chainP way b w0 w1 w2 many x) ((costW way many + many + 5 : Nat) : Int)) ⟨0, [], [.int (valW way many x)]⟩ := by
  have r := run_chain (ν := ν) (way := way) (b := b) (L := 0) h10 h20 many x h x0 hx [] []
  rw [Nat.zero_add] at r
  exact r
theorem here_ty {s : Sc} (wz : WordZ w0) : Ty (if b then s.nm w0 else s.lb w0 .number) (hereP b w0) .number := by
  cases b with
  | true => exact .name List.mem_cons_self wz
  | false => exact .known List.mem_cons_self wz ⟨trivial, by decide⟩
theorem round_ty {s : Sc} {body : Pg} (wz : WordZ w0) (h : Ty (if b then s.nm w0 else s.lb w0 .number) body .number) : Ty s (roundP b w0 body) arrow := by
  cases b with
  | true => exact .for_ wz (fun z => by cases z) h
  | false => exact .lets wz ⟨trivial, by decide⟩ (fun z => by cases z) (fun z => by cases z) h
theorem way_ty {s : Sc} (h10 : w1 ≠ w0) (z0 : WordZ w0) (z1 : WordZ w1) (z2 : WordZ w2) : Ty (if b then ((s.nm w2).lb w1 arrow).nm w0 else ((s.nm w2).lb w1 arrow).lb w0 .number) (wayP way b w0 w1 w2) .number := by
  have hh : Ty (if b then ((s.nm w2).lb w1 arrow).nm w0 else ((s.nm w2).lb w1 arrow).lb w0 .number) (hereP b w0) .number := here_ty z0
  have he : Ty (if b then ((s.nm w2).lb w1 arrow).nm w0 else ((s.nm w2).lb w1 arrow).lb w0 .number) (.known w1 arrow) arrow := by
    cases b with
    | true => exact .known List.mem_cons_self z1 ⟨⟨trivial, trivial, (fun z => by cases z), (fun z => by cases z)⟩, by decide⟩
    | false => exact .known (List.mem_cons_of_mem _ (List.mem_filter.mpr ⟨List.mem_cons_self, decide_eq_true h10⟩)) z1 ⟨⟨trivial, trivial, (fun z => by cases z), (fun z => by cases z)⟩, by decide⟩
  have hn : Ty (if b then ((s.nm w2).lb w1 arrow).nm w0 else ((s.nm w2).lb w1 arrow).lb w0 .number) (.name w2) .number := by
    cases b with
    | true => exact .name (List.mem_cons_of_mem _ List.mem_cons_self) z2
    | false => exact .name List.mem_cons_self z2
  rcases way with _ | _ | _ | _ | way
  · exact .call he (.next hh)
  · exact .call he (.plus hh hn)
  · exact .next (.call he hh)
  · exact .first (.pair (fun z => by cases z) (fun z => by cases z) (.call he (.next (.next hh))) (.num (by decide) (by decide)))
  · exact .plus (.call he hh) hn
theorem chain_ty (h10 : w1 ≠ w0) (z0 : WordZ w0) (z1 : WordZ w1) (z2 : WordZ w2) {many : Nat} {x : Int} (hm : many ≤ 3000) (x0 : 0 ≤ x) (x1 : x < 10 ^ 60) : Ty ([], []) (chainP way b w0 w1 w2 many x) .number := by
  have big : (3000 : Int) < 10 ^ 60 := by decide
  exact .call (.climb z2 z1 (fun z => by cases z) (round_ty z0 (here_ty z0)) (round_ty z0 (way_ty h10 z0 z1 z2)) (.num (Int.natCast_nonneg _) (by omega))) (.num x0 x1)
theorem chain_small {many : Nat} {x : Int} : (chainP way b w0 w1 w2 many x).deep ≤ 50 ∧ (chainP way b w0 w1 w2 many x).size ≤ 5000 := by
  have hd : (hereP b w0).deep = 1 ∧ (hereP b w0).size = 1 := by cases b <;> exact ⟨rfl, rfl⟩
  have hr : ∀ body, (roundP b w0 body).deep = body.deep + 1 ∧ (roundP b w0 body).size = body.size + 1 := fun body => by cases b <;> exact ⟨rfl, rfl⟩
  have hw : (wayP way b w0 w1 w2).deep ≤ 10 ∧ (wayP way b w0 w1 w2).size ≤ 20 := by
    unfold wayP
    split <;> simp only [Pg.deep, Pg.size, hd.1, hd.2] <;> omega
  simp only [chainP, climbP, Pg.deep, Pg.size, (hr _).1, (hr _).2, hd.1, hd.2]
  omega
theorem valW_sum (way : Nat) (x : Int) (m : Nat) : (way = 0 ∨ way = 2 → valW way m x = x + m) ∧ (way = 3 → valW way m x = x + 2 * m) ∧ (way = 1 ∨ 4 ≤ way → 2 * valW way m x = 2 * x + (m : Int) * ((m : Int) - 1)) := by
  induction m generalizing x with
  | zero => exact ⟨fun _ => by show x = x + ((0 : Nat) : Int); omega, fun _ => by show x = x + 2 * ((0 : Nat) : Int); omega, fun _ => by show 2 * x = 2 * x + ((0 : Nat) : Int) * _; simp⟩
  | succ m ih =>
    have e : ((m + 1 : Nat) : Int) = (m : Int) + 1 := by omega
    have sq : ((m : Int) + 1) * ((m : Int) + 1 - 1) = (m : Int) * ((m : Int) - 1) + 2 * m := by
      rw [show (m : Int) + 1 - 1 = m by omega, Int.add_mul, Int.mul_sub]
      omega
    rw [e]
    refine ⟨fun h => ?_, fun h => ?_, fun h => ?_⟩
    · rcases h with rfl | rfl
      · have := (ih (x + 1)).1 (.inl rfl)
        show valW 0 m (x + 1) = _
        omega
      · have := (ih x).1 (.inr rfl)
        show valW 2 m x + 1 = _
        omega
    · subst h
      have := (ih (x + 2)).2.1 rfl
      show valW 3 m (x + 2) = _
      omega
    · rw [sq]
      rcases h with rfl | h
      · have := (ih (x + m)).2.2 (.inl rfl)
        show 2 * valW 1 m (x + m) = _
        omega
      · obtain ⟨k, rfl⟩ : ∃ k, way = k + 4 := ⟨way - 4, by omega⟩
        have := (ih x).2.2 (.inr h)
        show 2 * (valW (k + 4) m x + m) = _
        omega
end
end Kf
set_option Elab.async false
set_option linter.all false
set_option maxRecDepth 100000
set_option maxHeartbeats 4000000
/-! A climb just at the limit, pure. -/
namespace Kf
open PySem PySem.Spec PyProof.Rows L2 Sx RZ
def limP (m : Nat) : Pg := .climb (.num 5) "a" "b" (.name "a") (.num m)
def limW : Nat → Wv
  | 0 => .int 5
  | i + 1 => .int i
section
variable {ν : Str → Option Int} {L : Nat}
theorem lim_turns (m : Nat) (hm : m ≤ 30000) : ∀ (j i : Nat), i + j = m → RunsD ν (L + j) [.turn (limP m) ⟨[], []⟩ i m] [limW i] L (limW m)
  | 0, i, h => by
    have e : i = m := h
    subst e
    exact turn_stop (by omega)
  | j + 1, i, h => by
    have rest := lim_turns m hm j (i + 1) (by omega)
    have big : (30000 : Int) < 10 ^ 60 := by decide
    have r1 := in_name (ν := ν) (L := L + j) (sc := (Scp.nm ⟨[], []⟩ "a" (i : Int)).lb "b" (limW i)) (z := "a") (n := (i : Int)) rfl (by omega)
    refine runs_step (its := []) (ds := [limW i]) (ds' := []) (turn_on (by omega)) (runs_seq (L1 := L + j) r1 ?_)
    have e1 : ((i + 1 : Nat) : Int) = (i : Int) + 1 := by omega
    rw [e1] at rest
    exact rest
theorem lim_exact (m : Nat) (hm : m ≤ 30000) : StepsM ν (st0 (limP m) ((m + 3 : Nat) : Int)) ⟨0, [], [limW m]⟩ := by
  have big : (30000 : Int) < 10 ^ 60 := by decide
  have r : RunsD ν (0 + m + 3) [.into (limP m) ⟨[], []⟩] [] 0 (limW m) :=
    in_runs rfl (runs_seq (in_num (by omega)) (runs_seq (in_num (by decide)) (runs_step (its := []) (ds := [.int 5, .int m]) (its' := [.turn (limP m) ⟨[], []⟩ 0 m]) (ds' := [limW 0]) (fun r d => rfl) (lim_turns m hm m 0 (by omega)))))
  have r := r [] []
  rw [show (0 + m + 3 : Nat) = m + 3 by omega] at r
  exact r
theorem lim_ty (m : Nat) (hm : m ≤ 30000) : Ty ([], []) (limP m) .number := by
  have big : (30000 : Int) < 10 ^ 60 := by decide
  have za : WordZ "a" := ⟨by decide +kernel, by decide +kernel, by decide +kernel⟩
  have zb : WordZ "b" := ⟨by decide +kernel, by decide +kernel, by decide +kernel⟩
  exact .climb za zb (fun z => by cases z) (.num (by decide) (by decide)) (.name List.mem_cons_self za) (.num (Int.natCast_nonneg _) (by omega))
theorem lim_small (m : Nat) : (limP m).deep ≤ 50 ∧ (limP m).size ≤ 5000 := by
  simp only [limP, Pg.deep, Pg.size]
  omega
theorem lim_opn (m : Nat) : ∀ z ∈ opn (limP m), ∃ n, ν z = some n := fun z hz => by
  have e : opn (limP m) = [] := rfl
  rw [e] at hz
  cases hz
theorem lim_d (m : Nat) : pgD (limP m) = .tuple [.str "climb", .tuple [.str "num", .int 5], .str "a", .str "b", .tuple [.str "name", .str "a"], .tuple [.str "num", .int m]] := rfl
end
end Kf
set_option Elab.async false
set_option linter.all false
set_option maxRecDepth 100000
set_option maxHeartbeats 4000000
/-! Ackermann's numbers by climbs within climbs. -/
namespace Kf
open PySem PySem.Spec PyProof.Rows L2 Sx RZ
def ackFirst (w0 : Str) : Pg := .lets w0 .number (.next (.known w0 .number))
def ackInner (w0 w1 : Str) : Pg := .call (.known w1 arrow) (.known w0 .number)
def ackAgain (w0 w1 w2 w3 : Str) : Pg := .climb (.call (.known w1 arrow) (.num 1)) w2 w0 (ackInner w0 w1) (.name w3)
def ackP (w0 w1 w2 w3 : Str) (row number : Nat) : Pg := .call (.climb (ackFirst w0) w2 w1 (.for_ w3 (ackAgain w0 w1 w2 w3)) (.num row)) (.num number)
def ackW (w0 w1 w2 w3 : Str) : Nat → Wv
  | 0 => .rule (ackFirst w0) [] []
  | j + 1 => .rule (.for_ w3 (ackAgain w0 w1 w2 w3)) [(w2, (j : Int))] [(w1, ackW w0 w1 w2 w3 j)]
def bodyA (w0 w1 w2 w3 : Str) : Nat → Pg
  | 0 => .next (.known w0 .number)
  | _ + 1 => ackAgain w0 w1 w2 w3
def scA (w0 w1 w2 w3 : Str) : Nat → Int → Scp
  | 0, x => Scp.lb ⟨[], []⟩ w0 (.int x)
  | j + 1, x => Scp.nm ⟨[(w2, (j : Int))], [(w1, ackW w0 w1 w2 w3 j)]⟩ w3 x
def aVal : Nat → Nat → Nat
  | 0 => fun n => n + 1
  | j + 1 => fun n => Nat.rec (motive := fun _ => Nat) (aVal j 1) (fun _ v => aVal j v) n
def aCost : Nat → Nat → Nat
  | 0 => fun _ => 2
  | j + 1 => fun n => Nat.rec (motive := fun _ => Nat) (5 + aCost j 1) (fun m c => c + 3 + aCost j (aVal (j + 1) m)) n
theorem aV0 (j : Nat) : aVal (j + 1) 0 = aVal j 1 := rfl
theorem aVs (j n : Nat) : aVal (j + 1) (n + 1) = aVal j (aVal (j + 1) n) := rfl
theorem aC0 (j : Nat) : aCost (j + 1) 0 = 5 + aCost j 1 := rfl
theorem aCs (j n : Nat) : aCost (j + 1) (n + 1) = aCost (j + 1) n + 3 + aCost j (aVal (j + 1) n) := rfl
theorem aVal_le : ∀ (j n : Nat), aVal j n ≤ n + aCost j n
  | 0, n => by
    show n + 1 ≤ n + 2
    omega
  | j + 1, 0 => by
    have := aVal_le j 1
    rw [aV0, aC0]
    omega
  | j + 1, n + 1 => by
    have h1 := aVal_le (j + 1) n
    have h2 := aVal_le j (aVal (j + 1) n)
    rw [aVs, aCs]
    omega
theorem aCost_up (j : Nat) : ∀ (d i : Nat), aCost (j + 1) i ≤ aCost (j + 1) (i + d)
  | 0, i => Nat.le_refl _
  | d + 1, i => by
    have := aCost_up j d i
    show aCost (j + 1) i ≤ aCost (j + 1) (i + d + 1)
    rw [aCs]
    omega
section
variable {ν : Str → Option Int} {w0 w1 w2 w3 : Str} {L : Nat}
theorem fin_ack {a c : Pg} {sc : Scp} (j : Nat) (x : Int) (r : List Item) (d : List Wv) : stepI ν (.fin (.call a c) sc) ⟨(L : Int), [] ++ r, [.int x, ackW w0 w1 w2 w3 j] ++ d⟩ = .go ⟨(L : Int), [.into (bodyA w0 w1 w2 w3 j) (scA w0 w1 w2 w3 j x)] ++ r, [] ++ d⟩ := by
  cases j with
  | zero => exact (fin_lets : stepFin (.call a c) sc ⟨(L : Int), r, .int x :: .rule (.lets w0 .number (.next (.known w0 .number))) [] [] :: d⟩ = _)
  | succ j => rfl
theorem call_ack {a c : Pg} {sc : Scp} {L1 L2 L3 : Nat} {x : Int} {w : Wv} {j : Nat} (h : RunsD ν L [.into a sc] [] L1 (ackW w0 w1 w2 w3 j)) (h2 : RunsD ν L1 [.into c sc] [] L2 (.int x)) (h3 : RunsD ν L2 [.into (bodyA w0 w1 w2 w3 j) (scA w0 w1 w2 w3 j x)] [] L3 w) : RunsD ν (L + 1) [.into (.call a c) sc] [] L3 w :=
  in_runs rfl (runs_seq h (runs_seq h2 (runs_step (its := []) (ds := [.int x, ackW w0 w1 w2 w3 j]) (ds' := []) (fin_ack j x) h3)))
theorem run_ack (h10 : w1 ≠ w0) : ∀ (j n : Nat), n + aCost j n ≤ 10 ^ 30 → ∀ L, RunsD ν (L + aCost j n) [.into (bodyA w0 w1 w2 w3 j) (scA w0 w1 w2 w3 j n)] [] L (.int (aVal j n))
  | 0, n, hb, L => by
    have big : ((10 ^ 30 : Nat) : Int) + 10 < 10 ^ 60 := by decide
    have hb : n + 2 ≤ 10 ^ 30 := hb
    have e : RunsD ν (L + 1) [.into (.known w0 .number) (scA w0 w1 w2 w3 0 n)] [] L (.int n) := in_known (by show (putL [] w0 (Wv.int (n : Int))).lookup w0 = _; exact putL_same _ _ _)
    exact run_next e (by omega)
  | j + 1, n, hb, L => by
    have big : ((10 ^ 30 : Nat) : Int) + 10 < 10 ^ 60 := by decide
    have v1 := aVal_le (j + 1) n
    have small : ∀ i, i ≤ n → i + aCost (j + 1) i ≤ 10 ^ 30 := fun i h => by
      have := aCost_up j (n - i) i
      rw [show i + (n - i) = n by omega] at this
      omega
    have eld : ∀ (s : Scp) (L : Nat), s.known.lookup w1 = some (ackW w0 w1 w2 w3 j) → RunsD ν (L + 1) [.into (.known w1 arrow) s] [] L (ackW w0 w1 w2 w3 j) := fun s L e => in_known e
    have k1 : (scA w0 w1 w2 w3 (j + 1) n).known.lookup w1 = some (ackW w0 w1 w2 w3 j) := by
      show ([(w1, ackW w0 w1 w2 w3 j)] : List (Str × Wv)).lookup w1 = _
      rw [List.lookup_cons, beq_self_eq_true]
    have h3 : RunsD ν (L + (aCost (j + 1) n - 1)) [.into (.name w3) (scA w0 w1 w2 w3 (j + 1) n)] [] (L + (aCost (j + 1) n - 2)) (.int n) := by
      have c2 : 5 ≤ aCost (j + 1) n := Nat.le_trans (by show 5 ≤ 5 + aCost j 1; omega) (by have := aCost_up j n 0; rw [Nat.zero_add] at this; exact this)
      rw [show L + (aCost (j + 1) n - 1) = L + (aCost (j + 1) n - 2) + 1 by omega]
      exact in_name (by show ((putL [(w2, (j : Int))] w3 n).lookup w3).or (ν w3) = some (n : Int); rw [putL_same]; rfl) (by omega)
    have c0 : aCost (j + 1) 0 = 5 + aCost j 1 := rfl
    have up0 : aCost (j + 1) 0 ≤ aCost (j + 1) n := by
      have := aCost_up j n 0
      rw [Nat.zero_add] at this
      exact this
    have s0 := small 0 (Nat.zero_le _)
    have first : RunsD ν (L + (aCost (j + 1) n - 2)) [.into (.call (.known w1 arrow) (.num 1)) (scA w0 w1 w2 w3 (j + 1) n)] [] (L + (aCost (j + 1) n - aCost (j + 1) 0)) (.int (aVal (j + 1) 0)) := by
      have rec1 := run_ack h10 j 1 (by omega) (L + (aCost (j + 1) n - aCost (j + 1) 0))
      have n1 := in_num (ν := ν) (L := L + (aCost (j + 1) n - aCost (j + 1) 0) + aCost j 1) (sc := scA w0 w1 w2 w3 (j + 1) n) (n := 1) (by decide)
      have r := call_ack (eld _ _ k1) n1 rec1
      rw [show L + (aCost (j + 1) n - aCost (j + 1) 0) + aCost j 1 + 1 + 1 + 1 = L + (aCost (j + 1) n - 2) by omega] at r
      exact r
    have turns : ∀ (d i : Nat), i + d = n → RunsD ν (L + (aCost (j + 1) n - aCost (j + 1) i)) [.turn (ackAgain w0 w1 w2 w3) (scA w0 w1 w2 w3 (j + 1) n) i n] [.int (aVal (j + 1) i)] L (.int (aVal (j + 1) n)) := by
      intro d
      induction d with
      | zero =>
        intro i h
        have e : i = n := h
        subst e
        rw [Nat.sub_self]
        exact turn_stop (by omega)
      | succ d ih =>
        intro i h
        have nx := ih (i + 1) (by omega)
        have si := small (i + 1) (by omega)
        have ci : aCost (j + 1) (i + 1) = aCost (j + 1) i + 3 + aCost j (aVal (j + 1) i) := rfl
        have vi : aVal (j + 1) (i + 1) = aVal j (aVal (j + 1) i) := rfl
        have le1 := aVal_le (j + 1) i
        have upi : aCost (j + 1) (i + 1) ≤ aCost (j + 1) n := by
          have := aCost_up j (n - (i + 1)) (i + 1)
          rw [show i + 1 + (n - (i + 1)) = n by omega] at this
          exact this
        have k2 : ((Scp.nm (scA w0 w1 w2 w3 (j + 1) n) w2 i).lb w0 (.int (aVal (j + 1) i))).known.lookup w1 = some (ackW w0 w1 w2 w3 j) := by
          show (putL [(w1, ackW w0 w1 w2 w3 j)] w0 _).lookup w1 = _
          rw [putL_ne h10]
          exact k1
        have k0 : RunsD ν (L + (aCost (j + 1) n - aCost (j + 1) (i + 1)) + aCost j (aVal (j + 1) i) + 1) [.into (.known w0 .number) ((Scp.nm (scA w0 w1 w2 w3 (j + 1) n) w2 i).lb w0 (.int (aVal (j + 1) i)))] [] (L + (aCost (j + 1) n - aCost (j + 1) (i + 1)) + aCost j (aVal (j + 1) i)) (.int (aVal (j + 1) i)) := in_known (putL_same _ _ _)
        have rec2 := run_ack h10 j (aVal (j + 1) i) (by omega) (L + (aCost (j + 1) n - aCost (j + 1) (i + 1)))
        have r := call_ack (eld _ _ k2) k0 rec2
        rw [show L + (aCost (j + 1) n - aCost (j + 1) (i + 1)) + aCost j (aVal (j + 1) i) + 1 + 1 + 1 = L + (aCost (j + 1) n - aCost (j + 1) i) by omega] at r
        refine runs_step (its := []) (ds := [.int (aVal (j + 1) i)]) (ds' := []) (turn_on (by omega)) (runs_seq r ?_)
        have e1 : ((i + 1 : Nat) : Int) = (i : Int) + 1 := by omega
        rw [e1, vi] at nx
        exact nx
    have t0 := turns n 0 (Nat.zero_add n)
    rw [show L + aCost (j + 1) n = L + (aCost (j + 1) n - 1) + 1 by omega]
    exact in_runs rfl (runs_seq h3 (runs_seq first (runs_step (its := []) (ds := [.int (aVal (j + 1) 0), .int n]) (its' := [.turn (ackAgain w0 w1 w2 w3) (scA w0 w1 w2 w3 (j + 1) n) 0 n]) (ds' := [.int (aVal (j + 1) 0)]) (fun r d => rfl) t0)))
theorem run_rounds (row : Nat) : ∀ (j i : Nat), i + j = row → RunsD ν (L + j) [.turn (.climb (ackFirst w0) w2 w1 (.for_ w3 (ackAgain w0 w1 w2 w3)) (.num row)) ⟨[], []⟩ i row] [ackW w0 w1 w2 w3 i] L (ackW w0 w1 w2 w3 row)
  | 0, i, h => by
    have e : i = row := h
    subst e
    exact turn_stop (by omega)
  | j + 1, i, h => by
    have rest := run_rounds row j (i + 1) (by omega)
    have r1 : RunsD ν (L + j + 1) [.into (.for_ w3 (ackAgain w0 w1 w2 w3)) ((Scp.nm ⟨[], []⟩ w2 i).lb w1 (ackW w0 w1 w2 w3 i))] [] (L + j) (ackW w0 w1 w2 w3 (i + 1)) := in_for
    refine runs_step (its := []) (ds := [ackW w0 w1 w2 w3 i]) (ds' := []) (turn_on (by omega)) (runs_seq (L1 := L + j) r1 ?_)
    have e1 : ((i + 1 : Nat) : Int) = (i : Int) + 1 := by omega
    rw [e1] at rest
    exact rest
theorem run_ackP (h10 : w1 ≠ w0) (row n : Nat) (hr : row ≤ 100) (hb : n + aCost row n ≤ 10 ^ 30) : RunsD ν (L + (aCost row n + row + 5)) [.into (ackP w0 w1 w2 w3 row n) ⟨[], []⟩] [] L (.int (aVal row n)) := by
  have big : ((10 ^ 30 : Nat) : Int) + 10 < 10 ^ 60 := by decide
  have big2 : (100 : Int) < 10 ^ 60 := by decide
  have r1 : RunsD ν (L + aCost row n + 1 + row + 3) [.into (.climb (ackFirst w0) w2 w1 (.for_ w3 (ackAgain w0 w1 w2 w3)) (.num row)) ⟨[], []⟩] [] (L + aCost row n + 1) (ackW w0 w1 w2 w3 row) := by
    refine in_runs rfl (runs_seq (in_num (by omega)) (runs_seq (L1 := L + aCost row n + 1 + row) in_lets (runs_step (its := []) (ds := [ackW w0 w1 w2 w3 0, .int row]) (its' := [.turn (.climb (ackFirst w0) w2 w1 (.for_ w3 (ackAgain w0 w1 w2 w3)) (.num row)) ⟨[], []⟩ 0 row]) (ds' := [ackW w0 w1 w2 w3 0]) (fun r d => rfl) ?_)))
    exact run_rounds row row 0 (by omega)
  have r2 := in_num (ν := ν) (L := L + aCost row n) (sc := ⟨[], []⟩) (n := (n : Int)) (by omega)
  have r := call_ack r1 r2 (run_ack h10 row n hb L)
  rw [show L + aCost row n + 1 + row + 3 + 1 = L + (aCost row n + row + 5) by omega] at r
  exact r
theorem ack_exact (h10 : w1 ≠ w0) (row n : Nat) (hr : row ≤ 100) (hb : n + aCost row n ≤ 10 ^ 30) : StepsM ν (st0 (ackP w0 w1 w2 w3 row n) ((aCost row n + row + 5 : Nat) : Int)) ⟨0, [], [.int (aVal row n)]⟩ := by
  have r := run_ackP (ν := ν) (L := 0) (w2 := w2) (w3 := w3) h10 row n hr hb [] []
  rw [Nat.zero_add] at r
  exact r
theorem ack_ty (h10 : w1 ≠ w0) (z0 : WordZ w0) (z1 : WordZ w1) (z2 : WordZ w2) (z3 : WordZ w3) {row n : Nat} (hr : row ≤ 100) (hn : n ≤ 100) : Ty ([], []) (ackP w0 w1 w2 w3 row n) .number := by
  have big2 : (100 : Int) < 10 ^ 60 := by decide
  have oka : Kd.Okz arrow := ⟨⟨trivial, trivial, (fun z => by cases z), (fun z => by cases z)⟩, by decide⟩
  have okn : Kd.Okz .number := ⟨trivial, by decide⟩
  have ha : Ty ([], []) (ackFirst w0) arrow := .lets z0 okn (fun z => by cases z) (fun z => by cases z) (.next (.known List.mem_cons_self z0 okn))
  refine .call (.climb z2 z1 (fun z => by cases z) ha ?_ (.num (Int.natCast_nonneg _) (by omega))) (.num (Int.natCast_nonneg _) (by omega))
  refine .for_ z3 (fun z => by cases z) (.climb z2 z0 (fun z => by cases z) (.call (.known ?_ z1 oka) (.num (by decide) (by decide))) (.call (.known ?_ z1 oka) (.known List.mem_cons_self z0 okn)) (.name ?_ z3))
  · exact List.mem_cons_self
  · exact List.mem_cons_of_mem _ (List.mem_filter.mpr ⟨List.mem_cons_self, decide_eq_true h10⟩)
  · exact List.mem_cons_self
theorem ack_small {row n : Nat} : (ackP w0 w1 w2 w3 row n).deep ≤ 50 ∧ (ackP w0 w1 w2 w3 row n).size ≤ 5000 := by
  simp only [ackP, ackFirst, ackAgain, ackInner, Pg.deep, Pg.size]
  decide
end
theorem ack_rows : ∀ row : Fin 4, ∀ n : Fin 30, n.val < [30, 30, 12, 3].getD row.val 0 → aCost row.val n.val + row.val + 5 ≤ 20000 ∧ aVal row.val n.val = (if row.val = 0 then n.val + 1 else if row.val = 1 then n.val + 2 else if row.val = 2 then 2 * n.val + 3 else 8 * 2 ^ n.val - 3) := by decide +kernel
end Kf
set_option Elab.async false
set_option linter.all false
set_option maxRecDepth 100000
set_option maxHeartbeats 4000000
/-! Written things over trees of tuples: constants, names, words of a list. -/
namespace Kf
open PySem PySem.Spec PyProof.Rows L2 Sx RZ
theorem pe_imp {X : Cx} {e : Expr} {t t' : TE} (h : PE X e t) (i : ∀ σ H Q, t' σ H Q → t σ H Q) : PE X e t' := ⟨fun pins s σ H Q I z => h.run pins s σ H Q I (i σ H Q z)⟩
theorem pa_imp {X : Cx} {e : List Expr} {t t' : TA} (h : PA X e t) (i : ∀ σ H Q, t' σ H Q → t σ H Q) : PA X e t' := ⟨fun pos pins s σ H Q I z => h.run pos pins s σ H Q I (i σ H Q z)⟩
/-- names that stand for data, a list of words -/
structure Kt (K : PySem.W.Frag) (wi : Nat) (wl : Addr) (ws : List V) (tb : List (Nat × PyData)) (σ : L2.St) (H : Hp) : Prop where
  w : σ[wi]? = some (some (.ref wl))
  l : H wl = some (.lst ws)
  t : ∀ r ∈ tb, ∃ v, σ[r.1]? = some (some v) ∧ Dt K H v r.2
theorem Kt.same {K : PySem.W.Frag} {wi : Nat} {wl : Addr} {ws : List V} {tb : List (Nat × PyData)} {σ : L2.St} {H H' : Hp} (h : Kt K wi wl ws tb σ H) (s : Same H H') : Kt K wi wl ws tb σ H' := ⟨h.w, s _ _ h.l, fun r hr => by
  obtain ⟨v, a, b⟩ := h.t r hr
  exact ⟨v, a, b.keep (tups_same s)⟩⟩
section
variable {X : Cx} {wi : Nat} {wl : Addr} {ws : List V} {tb : List (Nat × PyData)}
def tLt (K : PySem.W.Frag) (wi : Nat) (wl : Addr) (ws : List V) (tb : List (Nat × PyData)) (d : PyData) : TE := fun σ H Q => Kt K wi wl ws tb σ H ∧ ∀ v H', Same H H' → Dt K H' v d → Q v H'
def tLts (K : PySem.W.Frag) (wi : Nat) (wl : Addr) (ws : List V) (tb : List (Nat × PyData)) (ds : List PyData) : TA := fun σ H Q => Kt K wi wl ws tb σ H ∧ ∀ vs H', Same H H' → DtAll K H' vs ds → Q vs H'
theorem lt_int {i j pos} : PE X (.Constant (.int i) j pos) (tLt X.K wi wl ws tb (.int i)) := pe_imp pe_int fun σ H Q ⟨_, q⟩ => q _ _ (Same.refl H) (.int _)
theorem lt_str {x j pos} : PE X (.Constant (.str x) j pos) (tLt X.K wi wl ws tb (.str x)) := pe_imp pe_str fun σ H Q ⟨_, q⟩ => q _ _ (Same.refl H) (.str _)
theorem lt_var (i j : Nat) {x : Str} {pos : Pos} {d : PyData} (h : PE X (.Name x pos) (tVar i)) (m : tb[j]? = some (i, d)) : PE X (.Name x pos) (tLt X.K wi wl ws tb d) := pe_imp h fun σ H Q ⟨c, q⟩ => by
  obtain ⟨v, a, b⟩ := c.t _ (List.mem_of_getElem? m)
  exact ⟨v, a, q _ _ (Same.refl H) b⟩
theorem lt_word (i : Nat) {x z : Str} {p1 p2 p3 : Pos} {j} (h : PE X (.Name x p1) (tVar wi)) (m : ws[i]? = some (.str z)) : PE X (.Subscript (.Name x p1) (.Constant (.int (i : Int)) j p2) p3) (tLt X.K wi wl ws tb (.str z)) := pe_imp (pe_ix ix_list h pe_int (fun _ _ => rfl)) fun σ H Q ⟨c, q⟩ => ⟨.ref wl, c.w, wl, ws, (i : Int), .str z, rfl, rfl, .inl (.inl c.l), atI_nat m, q _ _ (Same.refl H) (.str _)⟩
theorem lts_nil : PA X [] (tLts X.K wi wl ws tb []) := pa_imp pa_nil fun σ H Q ⟨_, q⟩ => q _ _ (Same.refl H) .nil
theorem lts_cons {e : Expr} {es : List Expr} {d : PyData} {ds : List PyData} (h : PE X e (tLt X.K wi wl ws tb d)) (r : PA X es (tLts X.K wi wl ws tb ds)) (hs : starEach (e :: es) X.env = (false, eval e X.env) :: starEach es X.env := by rfl) : PA X (e :: es) (tLts X.K wi wl ws tb (d :: ds)) :=
  pa_imp (pa_cons h r hs) fun σ H Q ⟨c, q⟩ => ⟨c, fun v H1 s1 hd => ⟨c.same s1, fun vs H2 s2 hv => q _ _ (s1.trans s2) (.cons (Dt.keep hd (tups_same s2)) hv)⟩⟩
theorem lt_tup {es : List Expr} {ds : List PyData} {x1 pos} (h : PA X es (tLts X.K wi wl ws tb ds)) (l : ds.length ≤ 1000 := by exact Nat.le_of_ble_eq_true rfl) : PE X (.Tuple es x1 pos) (tLt X.K wi wl ws tb (.tuple ds)) :=
  pe_imp (pe_tup h) fun σ H Q ⟨c, q⟩ => ⟨c, fun vs H1 s1 hv => ⟨by rw [dps_len hv]; exact Nat.le_trans l (by decide), fun p np => q _ _ (s1.trans (same_new np)) (by exact .tup (.inl (.inl (tups_of upd_same))) (DtAll.keep hv (tups_same (same_new np))))⟩⟩
end
end Kf
set_option Elab.async false
set_option linter.all false
set_option maxRecDepth 100000
set_option maxHeartbeats 8000000
set_option pp.maxSteps 500
/-! The law's programs. -/
namespace Kf
open PySem PySem.Spec PyProof.Rows L2 Sx RZ
abbrev sRd : Stmt := top 70
abbrev rdN : List Str := ["words", "kind", "body"]
theorem scRd : FnScope rdN ["words", "kind", "body"] (defScope sRd) := ⟨rfl, rfl, rfl, by decide +kernel, rfl, by decide +kernel, by decide +kernel⟩
abbrev sHe : Stmt := top 71
abbrev heN : List Str := ["words", "kind"]
theorem scHe : FnScope heN ["words", "kind"] (defScope sHe) := ⟨rfl, rfl, rfl, by decide +kernel, rfl, by decide +kernel, by decide +kernel⟩
abbrev sWy : Stmt := top 72
abbrev wyN : List Str := ["words", "kind", "way", "elder", "here"]
theorem scWy : FnScope wyN ["words", "kind", "way"] (defScope sWy) := ⟨rfl, rfl, rfl, by decide +kernel, rfl, by decide +kernel, by decide +kernel⟩
def kS (b : Bool) : Str := if b then "for" else "lets"
theorem kS_for (b : Bool) : decide (V.str (kS b) = V.str "for") = b := by cases b <;> decide +kernel
section
variable {P : Program} {w : World} {K : PySem.W.Frag} {mg : Str → Option Value} {base : Heap} {f fh : Addr} {fd dh : FuncData}
theorem boolB {A B : Prop} (b : Bool) (hf : b = false → B) (ht : b = true → A) : if b = true then A else B := by
  cases b
  · exact iteF (hf rfl)
  · exact iteT (ht rfl)
theorem kt0 {wl : Addr} {ws : List V} {σ : L2.St} {H : Hp} (h : σ[0]? = some (some (.ref wl))) (l : H wl = some (.lst ws)) : Kt K 0 wl ws [] σ H := ⟨h, l, fun _ m => nomatch m⟩
def spRd (K : PySem.W.Frag) : Sp := fun vs H Q _ => ∃ (wl : Addr) (w0 w1 w2 w3 : Str) (b : Bool) (v : V) (body : Pg), vs = [.ref wl, .str (kS b), v] ∧ H wl = some (.lst [V.str w0, V.str w1, V.str w2, V.str w3]) ∧ Dt K H v (pgD body) ∧ ∀ v' H', Same H H' → Dt K H' v' (pgD (roundP b w0 body)) → Q v' H'
theorem ok_rd (F : Fun K "_law_round" "_law_round" sRd f fd) : FnOk P w K mg base CX0 1 f fd ["words", "kind", "body"] (spRd K) := by
  refine F.ok scRd (fun vs H Q E h => ?_) (fun cdv Ar outer s0 H vs Q E hr h => ?_)
  · obtain ⟨wl, w0, w1, w2, w3, b, v, body, rfl, _⟩ := h
    rfl
  obtain ⟨wl, w0, w1, w2, w3, b, v, body, rfl, hw, hv, q⟩ := h
  refine ⟨_, (pss_cons (ps_if (pt_cmpR op_eq (pv 1) pe_str (nomark _)) (pss_one (ps_ret (lt_tup (wi := 0) (wl := wl) (ws := [V.str w0, V.str w1, V.str w2, V.str w3]) (tb := [(2, pgD body)]) (lts_cons lt_str (lts_cons (lt_word 0 (pv 0) rfl) (lts_cons (lt_var 2 0 (pv 2) rfl) lts_nil)))))) pss_nil)
    (pss_one (ps_ret (lt_tup (wi := 0) (wl := wl) (ws := [V.str w0, V.str w1, V.str w2, V.str w3]) (tb := [(2, pgD body)]) (lts_cons lt_str (lts_cons (lt_word 0 (pv 0) rfl) (lts_cons (lt_tup (lts_cons lt_str lts_nil)) (lts_cons (lt_var 2 0 (pv 2) rfl) lts_nil)))))))), ?_⟩
  have kt : ∀ σ : L2.St, σ[0]? = some (some (.ref wl)) → σ[2]? = some (some v) → Kt K 0 wl [V.str w0, V.str w1, V.str w2, V.str w3] [(2, pgD body)] σ H := fun σ a c => ⟨a, hw, fun r m => by rw [List.mem_singleton.mp m]; exact ⟨v, c, hv⟩⟩
  refine ⟨_, rfl, rfl, _, rfl, ?_⟩
  rw [kS_for]
  cases b with
  | true => exact iteT ⟨kt _ rfl rfl, q⟩
  | false => exact iteF ⟨kt _ rfl rfl, q⟩
def spHe (K : PySem.W.Frag) : Sp := fun vs H Q _ => ∃ (wl : Addr) (w0 w1 w2 w3 : Str) (b : Bool), vs = [.ref wl, .str (kS b)] ∧ H wl = some (.lst [V.str w0, V.str w1, V.str w2, V.str w3]) ∧ ∀ v' H', Same H H' → Dt K H' v' (pgD (hereP b w0)) → Q v' H'
theorem ok_he (F : Fun K "_law_here" "_law_here" sHe f fd) : FnOk P w K mg base CX0 1 f fd ["words", "kind"] (spHe K) := by
  refine F.ok scHe (fun vs H Q E h => ?_) (fun cdv Ar outer s0 H vs Q E hr h => ?_)
  · obtain ⟨wl, w0, w1, w2, w3, b, rfl, _⟩ := h
    rfl
  obtain ⟨wl, w0, w1, w2, w3, b, rfl, hw, q⟩ := h
  refine ⟨_, (pss_cons (ps_if (pt_cmpR op_eq (pv 1) pe_str (nomark _)) (pss_one (ps_ret (lt_tup (wi := 0) (wl := wl) (ws := [V.str w0, V.str w1, V.str w2, V.str w3]) (tb := []) (lts_cons lt_str (lts_cons (lt_word 0 (pv 0) rfl) lts_nil))))) pss_nil)
    (pss_one (ps_ret (lt_tup (wi := 0) (wl := wl) (ws := [V.str w0, V.str w1, V.str w2, V.str w3]) (tb := []) (lts_cons lt_str (lts_cons (lt_word 0 (pv 0) rfl) (lts_cons (lt_tup (lts_cons lt_str lts_nil)) lts_nil))))))), ?_⟩
  refine ⟨_, rfl, rfl, _, rfl, ?_⟩
  rw [kS_for]
  cases b with
  | true => exact iteT ⟨kt0 rfl hw, q⟩
  | false => exact iteF ⟨kt0 rfl hw, q⟩
def spWy (K : PySem.W.Frag) : Sp := fun vs H Q _ => ∃ (wl : Addr) (w0 w1 w2 w3 : Str) (b : Bool) (way : Nat), vs = [.ref wl, .str (kS b), .int (way : Int)] ∧ H wl = some (.lst [V.str w0, V.str w1, V.str w2, V.str w3]) ∧ ∀ v' H', Same H H' → Dt K H' v' (pgD (wayP way b w0 w1 w2)) → Q v' H'
theorem ok_wy (F : Fun K "_law_way" "_law_way" sWy f fd) (GH : FnOk P w K mg base CX0 1 fh dh ["words", "kind"] (spHe K)) (bH : Binds K dh ["words", "kind"] []) (kH : PySem.W.keepIn K (.ref fh) = true) (mH : mg "_law_here" = some (.ref fh)) : FnOk P w K mg base CX0 2 f fd ["words", "kind", "way"] (spWy K) := by
  refine F.ok scWy (fun vs H Q E h => ?_) (fun cdv Ar outer s0 H vs Q E hr h => ?_)
  · obtain ⟨wl, w0, w1, w2, w3, b, way, rfl, _⟩ := h
    rfl
  have h1 : Room 1 _ := hr
  obtain ⟨wl, w0, w1, w2, w3, b, way, rfl, hw, q⟩ := h
  refine ⟨_, (pss_cons (ps_set (i := 3) scWy.nd rfl (.inl rfl) (lt_tup (wi := 0) (wl := wl) (ws := [V.str w0, V.str w1, V.str w2, V.str w3]) (tb := []) (lts_cons lt_str (lts_cons (lt_word 1 (pv 0) rfl) (lts_cons (lt_tup (lts_cons lt_str (lts_cons (lt_tup (lts_cons lt_str lts_nil)) (lts_cons (lt_tup (lts_cons lt_str lts_nil)) lts_nil)))) lts_nil)))))
    (pss_cons (ps_set (i := 4) scWy.nd rfl (.inl rfl) (pe_call GH h1 (by rfl) mH kH bH .nil pass0 (pa_cons (pv 0) (pa_cons (pv 1) pa_nil))))
    (pss_cons (ps_if (pt_cmpR op_eq (pv 2) pe_int (nomark _)) (pss_one (ps_ret (lt_tup (wi := 0) (wl := wl) (ws := [V.str w0, V.str w1, V.str w2, V.str w3]) (tb := [(3, pgD (.known w1 arrow)), (4, pgD (hereP b w0))]) (lts_cons lt_str (lts_cons (lt_var 3 0 (pv 3) rfl) (lts_cons (lt_tup (lts_cons lt_str (lts_cons (lt_var 4 1 (pv 4) rfl) lts_nil))) lts_nil)))))) pss_nil)
    (pss_cons (ps_if (pt_cmpR op_eq (pv 2) pe_int (nomark _)) (pss_one (ps_ret (lt_tup (wi := 0) (wl := wl) (ws := [V.str w0, V.str w1, V.str w2, V.str w3]) (tb := [(3, pgD (.known w1 arrow)), (4, pgD (hereP b w0))]) (lts_cons lt_str (lts_cons (lt_var 3 0 (pv 3) rfl) (lts_cons (lt_tup (lts_cons lt_str (lts_cons (lt_var 4 1 (pv 4) rfl) (lts_cons (lt_tup (lts_cons lt_str (lts_cons (lt_word 2 (pv 0) rfl) lts_nil))) lts_nil)))) lts_nil)))))) pss_nil)
    (pss_cons (ps_if (pt_cmpR op_eq (pv 2) pe_int (nomark _)) (pss_one (ps_ret (lt_tup (wi := 0) (wl := wl) (ws := [V.str w0, V.str w1, V.str w2, V.str w3]) (tb := [(3, pgD (.known w1 arrow)), (4, pgD (hereP b w0))]) (lts_cons lt_str (lts_cons (lt_tup (lts_cons lt_str (lts_cons (lt_var 3 0 (pv 3) rfl) (lts_cons (lt_var 4 1 (pv 4) rfl) lts_nil)))) lts_nil))))) pss_nil)
    (pss_cons (ps_if (pt_cmpR op_eq (pv 2) pe_int (nomark _)) (pss_one (ps_ret (lt_tup (wi := 0) (wl := wl) (ws := [V.str w0, V.str w1, V.str w2, V.str w3]) (tb := [(3, pgD (.known w1 arrow)), (4, pgD (hereP b w0))]) (lts_cons lt_str (lts_cons (lt_tup (lts_cons lt_str (lts_cons (lt_tup (lts_cons lt_str (lts_cons (lt_var 3 0 (pv 3) rfl) (lts_cons (lt_tup (lts_cons lt_str (lts_cons (lt_tup (lts_cons lt_str (lts_cons (lt_var 4 1 (pv 4) rfl) lts_nil))) lts_nil))) lts_nil)))) (lts_cons (lt_tup (lts_cons lt_str (lts_cons lt_int lts_nil))) lts_nil)))) lts_nil))))) pss_nil)
    (pss_one (ps_ret (lt_tup (wi := 0) (wl := wl) (ws := [V.str w0, V.str w1, V.str w2, V.str w3]) (tb := [(3, pgD (.known w1 arrow)), (4, pgD (hereP b w0))]) (lts_cons lt_str (lts_cons (lt_tup (lts_cons lt_str (lts_cons (lt_var 3 0 (pv 3) rfl) (lts_cons (lt_var 4 1 (pv 4) rfl) lts_nil)))) (lts_cons (lt_tup (lts_cons lt_str (lts_cons (lt_word 2 (pv 0) rfl) lts_nil))) lts_nil)))))))))))), ?_⟩
  refine ⟨kt0 rfl hw, fun ve H1 s1 de => ?_⟩
  refine ⟨_, rfl, _, rfl, wl, w0, w1, w2, w3, b, rfl, s1 _ _ hw, fun vh H2 s2 dh => ?_⟩
  have de2 := Dt.keep de (tups_same s2)
  have s12 := s1.trans s2
  have hw2 := s12 _ _ hw
  have kt : ∀ σ : L2.St, σ[0]? = some (some (.ref wl)) → σ[3]? = some (some ve) → σ[4]? = some (some vh) → Kt K 0 wl [V.str w0, V.str w1, V.str w2, V.str w3] [(3, pgD (.known w1 arrow)), (4, pgD (hereP b w0))] σ H2 := fun σ a c d => ⟨a, hw2, fun r m => by
    rcases List.mem_cons.mp m with rfl | m
    · exact ⟨ve, c, de2⟩
    · rw [List.mem_singleton.mp m]
      exact ⟨vh, d, dh⟩⟩
  have q2 : ∀ v' H', Same H2 H' → Dt K H' v' (pgD (wayP way b w0 w1 w2)) → Q v' H' := fun v' H' s d => q v' H' (s12.trans s) d
  rcases way with _ | _ | _ | _ | way
  · exact ⟨_, rfl, rfl, _, rfl, condT (by show decide (V.int 0 = V.int 0) = true; decide +kernel) ⟨kt _ rfl rfl rfl, q2⟩⟩
  · exact ⟨_, rfl, rfl, _, rfl, condF (by show decide (V.int 1 = V.int 0) = false; decide +kernel) ⟨_, rfl, rfl, _, rfl, condT (by show decide (V.int 1 = V.int 1) = true; decide +kernel) ⟨kt _ rfl rfl rfl, q2⟩⟩⟩
  · exact ⟨_, rfl, rfl, _, rfl, condF (by show decide (V.int 2 = V.int 0) = false; decide +kernel) ⟨_, rfl, rfl, _, rfl, condF (by show decide (V.int 2 = V.int 1) = false; decide +kernel) ⟨_, rfl, rfl, _, rfl, condT (by show decide (V.int 2 = V.int 2) = true; decide +kernel) ⟨kt _ rfl rfl rfl, q2⟩⟩⟩⟩
  · exact ⟨_, rfl, rfl, _, rfl, condF (by show decide (V.int 3 = V.int 0) = false; decide +kernel) ⟨_, rfl, rfl, _, rfl, condF (by show decide (V.int 3 = V.int 1) = false; decide +kernel) ⟨_, rfl, rfl, _, rfl, condF (by show decide (V.int 3 = V.int 2) = false; decide +kernel) ⟨_, rfl, rfl, _, rfl, condT (by show decide (V.int 3 = V.int 3) = true; decide +kernel) ⟨kt _ rfl rfl rfl, q2⟩⟩⟩⟩⟩
  · have ne : ∀ i : Int, i ≤ 3 → decide (V.int ((way + 1 + 1 + 1 + 1 : Nat) : Int) = V.int i) = false := fun i h => decide_eq_false fun e => by
      injection e with e
      omega
    exact ⟨_, rfl, rfl, _, rfl, condF (ne 0 (by decide)) ⟨_, rfl, rfl, _, rfl, condF (ne 1 (by decide)) ⟨_, rfl, rfl, _, rfl, condF (ne 2 (by decide)) ⟨_, rfl, rfl, _, rfl, condF (ne 3 (by decide)) ⟨kt _ rfl rfl rfl, q2⟩⟩⟩⟩⟩
end
end Kf
set_option Elab.async false
set_option linter.all false
set_option maxRecDepth 100000
set_option maxHeartbeats 8000000
set_option pp.maxSteps 500
/-! The law's chains, Ackermann's, what is due. -/
namespace Kf
open PySem PySem.Spec PyProof.Rows L2 Sx RZ
abbrev sCn : Stmt := top 73
abbrev cnN : List Str := ["dice", "words", "way", "many", "begin", "kind", "first", "turn_v"]
theorem scCn : FnScope cnN ["dice", "words", "way", "many", "begin"] (defScope sCn) := ⟨rfl, rfl, rfl, by decide +kernel, rfl, by decide +kernel, by decide +kernel⟩
abbrev sAk : Stmt := top 75
abbrev akN : List Str := ["words", "row", "number", "arrow", "first", "elder", "inner", "again", "turn_v"]
theorem scAk : FnScope akN ["words", "row", "number"] (defScope sAk) := ⟨rfl, rfl, rfl, by decide +kernel, rfl, by decide +kernel, by decide +kernel⟩
abbrev sWo : Stmt := top 74
abbrev woN : List Str := ["way", "many", "begin"]
theorem scWo : FnScope woN ["way", "many", "begin"] (defScope sWo) := ⟨rfl, rfl, rfl, by decide +kernel, rfl, by decide +kernel, by decide +kernel⟩
abbrev sPw : Stmt := top 76
abbrev pwN : List Str := ["row", "number", "found", "turn_v"]
theorem scPw : FnScope pwN ["row", "number"] (defScope sPw) := ⟨rfl, rfl, rfl, by decide +kernel, rfl, by decide +kernel, by decide +kernel⟩
section
variable {P : Program} {w : World} {K : PySem.W.Frag} {mg : Str → Option Value} {base : Heap} {f fh fr fw fq fp : Addr} {fd dh dr dw dq dp : FuncData}
theorem pe_ex {X : Cx} {e : Expr} {α : Type} {t : α → TE} (h : ∀ a, PE X e (t a)) : PE X e (fun σ H Q => ∃ a, t a σ H Q) := ⟨fun pins s σ H Q I ⟨a, z⟩ => (h a).run pins s σ H Q I z⟩
theorem nil_k {σ : L2.St} {H : Hp} {k : List V → Hp → Prop} (h : k [] H) : tNil σ H k := h
theorem DiceAt.neL {H : Hp} {p L q : Addr} {m : Int} (h : DiceAt H p L m) (e : H q = none) : q ≠ L := fun z => by
  obtain ⟨x, n, r, cs, _, _, e2, _⟩ := h
  rw [z, e2] at e
  cases e
def spCn (K : PySem.W.Frag) : Sp := fun vs H Q _ => ∃ (p wl L : Addr) (w0 w1 w2 w3 : Str) (way many : Nat) (x m : Int), vs = [.ref p, .ref wl, .int (way : Int), .int (many : Int), .int x] ∧ H wl = some (.lst [V.str w0, V.str w1, V.str w2, V.str w3]) ∧ wl ≠ p ∧ DiceAt H p L m ∧ m < 2 ^ 50 ∧ ∀ v' b H', But p H H' → DiceAt H' p L (m + 1) → Dt K H' v' (pgD (chainP way b w0 w1 w2 many x)) → Q v' H'
theorem ok_cn (F : Fun K "_law_chain" "_law_chain" sCn f fd) (D : Draw P w K mg base fq fp dq dp) (GH : FnOk P w K mg base CX0 1 fh dh ["words", "kind"] (spHe K)) (bH : Binds K dh ["words", "kind"] []) (kH : PySem.W.keepIn K (.ref fh) = true) (mH : mg "_law_here" = some (.ref fh))
    (GR : FnOk P w K mg base CX0 1 fr dr ["words", "kind", "body"] (spRd K)) (bR : Binds K dr ["words", "kind", "body"] []) (kR : PySem.W.keepIn K (.ref fr) = true) (mR : mg "_law_round" = some (.ref fr))
    (GW : FnOk P w K mg base CX0 2 fw dw ["words", "kind", "way"] (spWy K)) (bW : Binds K dw ["words", "kind", "way"] []) (kW : PySem.W.keepIn K (.ref fw) = true) (mW : mg "_law_way" = some (.ref fw)) : FnOk P w K mg base CX0 3 f fd ["dice", "words", "way", "many", "begin"] (spCn K) := by
  refine F.ok scCn (fun vs H Q E h => ?_) (fun cdv Ar outer s0 H vs Q E hr h => ?_)
  · obtain ⟨p, wl, L, w0, w1, w2, w3, way, many, x, m, rfl, _⟩ := h
    rfl
  have h1 : Room 1 _ := hr.mono (by decide)
  have h2 : Room 2 _ := hr
  obtain ⟨p, wl, L, w0, w1, w2, w3, way, many, x, m, rfl, hw, nwp, hD, mb, q⟩ := h
  refine ⟨_, (pss_cons (ps_set (i := 5) scCn.nd rfl (.inl rfl) (pe_call D.Pk h2 (by rfl) D.mP D.kP D.bP .nil pass0 (pa_cons (pv 0) (pa_cons (pe_lst (pa_cons pe_str (pa_cons pe_str pa_nil))) pa_nil))))
    (pss_cons (ps_set (i := 6) scCn.nd rfl (.inl rfl) (pe_call GR h1 (by rfl) mR kR bR .nil pass0 (pa_cons (pv 1) (pa_cons (pv 5) (pa_cons (pe_call GH h1 (by rfl) mH kH bH .nil pass0 (pa_cons (pv 1) (pa_cons (pv 5) pa_nil))) pa_nil)))))
    (pss_cons (ps_set (i := 7) scCn.nd rfl (.inl rfl) (pe_call GR h1 (by rfl) mR kR bR .nil pass0 (pa_cons (pv 1) (pa_cons (pv 5) (pa_cons (pe_call GW h2 (by rfl) mW kW bW .nil pass0 (pa_cons (pv 1) (pa_cons (pv 5) (pa_cons (pv 2) pa_nil)))) pa_nil)))))
    (pss_one (ps_ret (pe_ex fun b => (lt_tup (wi := 1) (wl := wl) (ws := [V.str w0, V.str w1, V.str w2, V.str w3]) (tb := [(6, pgD (roundP b w0 (hereP b w0))), (7, pgD (roundP b w0 (wayP way b w0 w1 w2))), (3, PyData.int (many : Int)), (4, PyData.int x)]) (lts_cons lt_str (lts_cons (lt_tup (lts_cons lt_str (lts_cons (lt_var 6 0 (pv 6) rfl) (lts_cons (lt_word 2 (pv 1) rfl) (lts_cons (lt_word 1 (pv 1) rfl) (lts_cons (lt_var 7 1 (pv 7) rfl) (lts_cons (lt_tup (lts_cons lt_str (lts_cons (lt_var 3 2 (pv 3) rfl) lts_nil))) lts_nil))))))) (lts_cons (lt_tup (lts_cons lt_str (lts_cons (lt_var 4 3 (pv 4) rfl) lts_nil))) lts_nil)))))))))), ?_⟩
  refine ⟨_, rfl, (by decide : 2 ≤ sizeLine), fun l nl => ?_⟩
  have s1 := same_new (o := HO.lst [.str "for", .str "lets"]) nl
  have el : upd H l (.lst [.str "for", .str "lets"]) l = some (.lst [.str "for", .str "lets"]) := upd_same
  have hw1 := s1 _ _ hw
  have hD1 := hD.same s1
  have nlp := hD.ne nl
  generalize upd H l (.lst [.str "for", .str "lets"]) = H1 at s1 el hw1 hD1 ⊢
  refine ⟨p, l, L, _, m, rfl, .inl (.inl el), nlp, (by show 0 < 2; decide), (by show 2 ≤ 1000; decide), mb, hD1, fun kv mk H2 b2 hD2 => ?_⟩
  obtain ⟨b, rfl⟩ : ∃ b, kv = .str (kS b) := by
    rcases List.mem_cons.mp mk with rfl | mk
    · exact ⟨true, rfl⟩
    · rw [List.mem_singleton.mp mk]
      exact ⟨false, rfl⟩
  have hw2 := b2 _ _ nwp hw1
  have bH : But p H H2 := (but_same s1).trans b2
  refine ⟨_, rfl, _, rfl, _, rfl, _, rfl, nil_k ?_⟩
  refine ⟨wl, w0, w1, w2, w3, b, rfl, hw2, fun vh H3 s3 dh => ?_⟩
  refine ⟨wl, w0, w1, w2, w3, b, vh, hereP b w0, rfl, s3 _ _ hw2, dh, fun vf H4 s4 df => ?_⟩
  have s24 := s3.trans s4
  have hw4 := s24 _ _ hw2
  refine ⟨_, rfl, _, rfl, _, rfl, _, rfl, _, rfl, nil_k ?_⟩
  refine ⟨wl, w0, w1, w2, w3, b, way, rfl, hw4, fun vy H5 s5 dy => ?_⟩
  refine ⟨wl, w0, w1, w2, w3, b, vy, wayP way b w0 w1 w2, rfl, s5 _ _ hw4, dy, fun vt H6 s6 dt => ?_⟩
  have s46 := s5.trans s6
  have hw6 := s46 _ _ hw4
  have df6 := Dt.keep df (tups_same s46)
  refine ⟨b, ⟨rfl, hw6, fun r mr => by
    rcases List.mem_cons.mp mr with rfl | mr
    · exact ⟨vf, rfl, df6⟩
    rcases List.mem_cons.mp mr with rfl | mr
    · exact ⟨vt, rfl, dt⟩
    rcases List.mem_cons.mp mr with rfl | mr
    · exact ⟨_, rfl, .int _⟩
    · rw [List.mem_singleton.mp mr]; exact ⟨_, rfl, .int _⟩⟩, fun v' H' s d => ?_⟩
  have sA := s24.trans (s46.trans s)
  exact q v' b H' (bH.trans (but_same sA)) (hD2.same sA) d
def spAk (K : PySem.W.Frag) : Sp := fun vs H Q _ => ∃ (wl : Addr) (w0 w1 w2 w3 : Str) (row n : Nat), vs = [.ref wl, .int (row : Int), .int (n : Int)] ∧ H wl = some (.lst [V.str w0, V.str w1, V.str w2, V.str w3]) ∧ ∀ v' H', Same H H' → Dt K H' v' (pgD (ackP w0 w1 w2 w3 row n)) → Q v' H'
theorem ok_ak (F : Fun K "_law_ackermann" "_law_ackermann" sAk f fd) : FnOk P w K mg base CX0 1 f fd ["words", "row", "number"] (spAk K) := by
  refine F.ok scAk (fun vs H Q E h => ?_) (fun cdv Ar outer s0 H vs Q E hr h => ?_)
  · obtain ⟨wl, w0, w1, w2, w3, row, n, rfl, _⟩ := h
    rfl
  obtain ⟨wl, w0, w1, w2, w3, row, n, rfl, hw, q⟩ := h
  refine ⟨_, (pss_cons (ps_set (i := 3) scAk.nd rfl (.inl rfl) (lt_tup (wi := 0) (wl := wl) (ws := [V.str w0, V.str w1, V.str w2, V.str w3]) (tb := []) (lts_cons lt_str (lts_cons (lt_tup (lts_cons lt_str lts_nil)) (lts_cons (lt_tup (lts_cons lt_str lts_nil)) lts_nil)))))
    (pss_cons (ps_set (i := 4) scAk.nd rfl (.inl rfl) (lt_tup (wi := 0) (wl := wl) (ws := [V.str w0, V.str w1, V.str w2, V.str w3]) (tb := []) (lts_cons lt_str (lts_cons (lt_word 0 (pv 0) rfl) (lts_cons (lt_tup (lts_cons lt_str lts_nil)) (lts_cons (lt_tup (lts_cons lt_str (lts_cons (lt_tup (lts_cons lt_str (lts_cons (lt_word 0 (pv 0) rfl) (lts_cons (lt_tup (lts_cons lt_str lts_nil)) lts_nil)))) lts_nil))) lts_nil))))))
    (pss_cons (ps_set (i := 5) scAk.nd rfl (.inl rfl) (lt_tup (wi := 0) (wl := wl) (ws := [V.str w0, V.str w1, V.str w2, V.str w3]) (tb := [(3, kdD arrow)]) (lts_cons lt_str (lts_cons (lt_word 1 (pv 0) rfl) (lts_cons (lt_var 3 0 (pv 3) rfl) lts_nil)))))
    (pss_cons (ps_set (i := 6) scAk.nd rfl (.inl rfl) (lt_tup (wi := 0) (wl := wl) (ws := [V.str w0, V.str w1, V.str w2, V.str w3]) (tb := [(5, pgD (.known w1 arrow))]) (lts_cons lt_str (lts_cons (lt_var 5 0 (pv 5) rfl) (lts_cons (lt_tup (lts_cons lt_str (lts_cons (lt_word 0 (pv 0) rfl) (lts_cons (lt_tup (lts_cons lt_str lts_nil)) lts_nil)))) lts_nil)))))
    (pss_cons (ps_set (i := 7) scAk.nd rfl (.inl rfl) (lt_tup (wi := 0) (wl := wl) (ws := [V.str w0, V.str w1, V.str w2, V.str w3]) (tb := [(5, pgD (.known w1 arrow)), (6, pgD (ackInner w0 w1))]) (lts_cons lt_str (lts_cons (lt_tup (lts_cons lt_str (lts_cons (lt_var 5 0 (pv 5) rfl) (lts_cons (lt_tup (lts_cons lt_str (lts_cons lt_int lts_nil))) lts_nil)))) (lts_cons (lt_word 2 (pv 0) rfl) (lts_cons (lt_word 0 (pv 0) rfl) (lts_cons (lt_var 6 1 (pv 6) rfl) (lts_cons (lt_tup (lts_cons lt_str (lts_cons (lt_word 3 (pv 0) rfl) lts_nil))) lts_nil))))))))
    (pss_cons (ps_set (i := 8) scAk.nd rfl (.inl rfl) (lt_tup (wi := 0) (wl := wl) (ws := [V.str w0, V.str w1, V.str w2, V.str w3]) (tb := [(7, pgD (ackAgain w0 w1 w2 w3))]) (lts_cons lt_str (lts_cons (lt_word 3 (pv 0) rfl) (lts_cons (lt_var 7 0 (pv 7) rfl) lts_nil)))))
    (pss_one (ps_ret (lt_tup (wi := 0) (wl := wl) (ws := [V.str w0, V.str w1, V.str w2, V.str w3]) (tb := [(4, pgD (ackFirst w0)), (8, pgD (.for_ w3 (ackAgain w0 w1 w2 w3))), (1, PyData.int (row : Int)), (2, PyData.int (n : Int))]) (lts_cons lt_str (lts_cons (lt_tup (lts_cons lt_str (lts_cons (lt_var 4 0 (pv 4) rfl) (lts_cons (lt_word 2 (pv 0) rfl) (lts_cons (lt_word 1 (pv 0) rfl) (lts_cons (lt_var 8 1 (pv 8) rfl) (lts_cons (lt_tup (lts_cons lt_str (lts_cons (lt_var 1 2 (pv 1) rfl) lts_nil))) lts_nil))))))) (lts_cons (lt_tup (lts_cons lt_str (lts_cons (lt_var 2 3 (pv 2) rfl) lts_nil))) lts_nil)))))))))))), ?_⟩
  refine ⟨kt0 rfl hw, fun va H1 s1 da => ?_⟩
  have hw1 := s1 _ _ hw
  refine ⟨kt0 rfl hw1, fun vf H2 s2 df => ?_⟩
  have hw2 := s2 _ _ hw1
  have da2 := Dt.keep da (tups_same s2)
  refine ⟨⟨rfl, hw2, fun r mr => by rw [List.mem_singleton.mp mr]; exact ⟨va, rfl, da2⟩⟩, fun ve H3 s3 de => ?_⟩
  have hw3 := s3 _ _ hw2
  have df3 := Dt.keep df (tups_same s3)
  refine ⟨⟨rfl, hw3, fun r mr => by rw [List.mem_singleton.mp mr]; exact ⟨ve, rfl, de⟩⟩, fun vi H4 s4 di => ?_⟩
  have hw4 := s4 _ _ hw3
  have df4 := Dt.keep df3 (tups_same s4)
  have de4 := Dt.keep de (tups_same s4)
  refine ⟨⟨rfl, hw4, fun r mr => by
    rcases List.mem_cons.mp mr with rfl | mr
    · exact ⟨ve, rfl, de4⟩
    · rw [List.mem_singleton.mp mr]; exact ⟨vi, rfl, di⟩⟩, fun vg H5 s5 dg => ?_⟩
  have hw5 := s5 _ _ hw4
  have df5 := Dt.keep df4 (tups_same s5)
  refine ⟨⟨rfl, hw5, fun r mr => by rw [List.mem_singleton.mp mr]; exact ⟨vg, rfl, dg⟩⟩, fun vt H6 s6 dt => ?_⟩
  have hw6 := s6 _ _ hw5
  have df6 := Dt.keep df5 (tups_same s6)
  refine ⟨⟨rfl, hw6, fun r mr => by
    rcases List.mem_cons.mp mr with rfl | mr
    · exact ⟨vf, rfl, df6⟩
    rcases List.mem_cons.mp mr with rfl | mr
    · exact ⟨vt, rfl, dt⟩
    rcases List.mem_cons.mp mr with rfl | mr
    · exact ⟨_, rfl, .int _⟩
    · rw [List.mem_singleton.mp mr]; exact ⟨_, rfl, .int _⟩⟩, fun v' H' s d => q v' H' (s1.trans (s2.trans (s3.trans (s4.trans (s5.trans (s6.trans s)))))) d⟩
def spWo : Sp := fun vs H Q _ => ∃ (way many : Nat) (x : Int), vs = [.int (way : Int), .int (many : Int), .int x] ∧ way < 5 ∧ many ≤ 3000 ∧ ∀ H', Same H H' → Q (.int (valW way many x)) H'
theorem ok_wo (F : Fun K "_law_worth" "_law_worth" sWo f fd) : FnOk P w K mg base CX0 1 f fd ["way", "many", "begin"] spWo := by
  refine F.ok scWo (fun vs H Q E h => ?_) (fun cdv Ar outer s0 H vs Q E hr h => ?_)
  · obtain ⟨way, many, x, rfl, _⟩ := h
    rfl
  obtain ⟨way, many, x, rfl, lt, mm, q⟩ := h
  refine ⟨_, (pss_cons (ps_if (pt_cmpR op_in_seq (pv 0) (pe_tup (pa_cons pe_int (pa_cons pe_int pa_nil))) (by rfl)) (pss_one (ps_ret (pe_op op_add (pv 2) (pv 1)))) pss_nil)
    (pss_cons (ps_if (pt_cmpR op_eq (pv 0) pe_int (nomark _)) (pss_one (ps_ret (pe_op op_add (pv 2) (pe_op op_mul pe_int (pv 1))))) pss_nil)
    (pss_one (ps_ret (pe_op op_add (pv 2) (pe_op op_fdiv (pe_op op_mulX (pv 1) (pe_op op_sub (pv 1) pe_int)) pe_int)))))), ?_⟩
  refine ⟨_, rfl, (by decide : 2 ≤ sizeLine), fun q2 n2 => ⟨q2, _, rfl, .inr (.inl (.inl upd_same)), rfl, rfl, _, rfl, ?_⟩⟩
  have s2 := same_new (o := HO.tup [.int 0, .int 2]) n2
  have sums := valW_sum way x many
  have mulOk : CMulX (many : Int) ((many : Int) - 1) := by
    have b1 : Builtin.Int.intBits (many : Int) ≤ 20 := PyProof.Rows.intBits_le (k := 20) (Nat.lt_of_le_of_lt (m := 3000) (by omega) (by decide))
    have b2 : Builtin.Int.intBits ((many : Int) - 1) ≤ 20 := PyProof.Rows.intBits_le (k := 20) (Nat.lt_of_le_of_lt (m := 3000) (by omega) (by decide))
    unfold CMulX
    omega
  have pos : 0 ≤ (many : Int) * ((many : Int) - 1) := by
    rcases many with _ | many
    · simp
    · exact Int.mul_nonneg (by omega) (by omega)
  have divOk : CDiv ((many : Int) * ((many : Int) - 1)) 2 := by unfold CDiv; omega
  have half : way = 1 ∨ 4 ≤ way → x + (many : Int) * ((many : Int) - 1) / 2 = valW way many x := fun h => by
    have := sums.2.2 h
    omega
  rcases way with _ | _ | _ | _ | _ | way
  · refine condT (by show inV (V.int 0) [.int 0, .int 2] = true; decide +kernel) ?_
    refine ⟨_, rfl, _, rfl, _, _, rfl, rfl, ?_⟩
    have := sums.1 (.inl rfl)
    show Q (.int (x + (many : Int))) _
    rw [← this]
    exact q _ s2
  · refine condF (by show inV (V.int 1) [.int 0, .int 2] = false; decide +kernel) ?_
    refine ⟨_, rfl, rfl, _, rfl, condF (by show decide (V.int 1 = V.int 3) = false; decide +kernel) ?_⟩
    refine ⟨_, rfl, _, rfl, _, rfl, _, _, rfl, rfl, _, _, rfl, rfl, mulOk, _, _, rfl, rfl, divOk, _, _, rfl, rfl, ?_⟩
    show Q (.int (x + (many : Int) * ((many : Int) - 1) / 2)) _
    rw [half (.inl rfl)]
    exact q _ s2
  · refine condT (by show inV (V.int 2) [.int 0, .int 2] = true; decide +kernel) ?_
    refine ⟨_, rfl, _, rfl, _, _, rfl, rfl, ?_⟩
    have := sums.1 (.inr rfl)
    show Q (.int (x + (many : Int))) _
    rw [← this]
    exact q _ s2
  · refine condF (by show inV (V.int 3) [.int 0, .int 2] = false; decide +kernel) ?_
    refine ⟨_, rfl, rfl, _, rfl, condT (by show decide (V.int 3 = V.int 3) = true; decide +kernel) ?_⟩
    refine ⟨_, rfl, _, rfl, _, _, rfl, rfl, .inl ⟨by decide, by decide⟩, _, _, rfl, rfl, ?_⟩
    have := sums.2.1 rfl
    show Q (.int (x + 2 * (many : Int))) _
    rw [← this]
    exact q _ s2
  · refine condF (by show inV (V.int 4) [.int 0, .int 2] = false; decide +kernel) ?_
    refine ⟨_, rfl, rfl, _, rfl, condF (by show decide (V.int 4 = V.int 3) = false; decide +kernel) ?_⟩
    refine ⟨_, rfl, _, rfl, _, rfl, _, _, rfl, rfl, _, _, rfl, rfl, mulOk, _, _, rfl, rfl, divOk, _, _, rfl, rfl, ?_⟩
    show Q (.int (x + (many : Int) * ((many : Int) - 1) / 2)) _
    rw [half (.inr (by decide))]
    exact q _ s2
  · omega
end
end Kf
set_option Elab.async false
set_option linter.all false
set_option maxRecDepth 100000
set_option maxHeartbeats 8000000
set_option pp.maxSteps 500
/-! What the power draws. -/
namespace Kf
open PySem PySem.Spec PyProof.Rows L2 Sx RZ
section
variable {P : Program} {w : World} {K : PySem.W.Frag} {mg : Str → Option Value} {base : Heap} {f : Addr} {fd : FuncData}
def powV (row n : Nat) : Int := if row = 0 then n + 1 else if row = 1 then n + 2 else if row = 2 then 2 * n + 3 else 8 * 2 ^ n - 3
def spPw : Sp := fun vs H Q _ => ∃ (row n : Nat), vs = [.int (row : Int), .int (n : Int)] ∧ row < 4 ∧ n ≤ 30 ∧ ∀ H', Same H H' → Q (.int (powV row n)) H'
theorem ok_pw (F : Fun K "_law_power" "_law_power" sPw f fd) (zRange : mg "range" = none) : FnOk P w K mg base CX0 1 f fd ["row", "number"] spPw := by
  refine F.ok scPw (fun vs H Q E h => ?_) (fun cdv Ar outer s0 H vs Q E hr h => ?_)
  · obtain ⟨row, n, rfl, _⟩ := h
    rfl
  obtain ⟨row, n, rfl, r4, n30, q⟩ := h
  refine ⟨_, (pss_cons (ps_if (pt_cmpR op_lt (pv 0) pe_int (nomark _)) (pss_one (ps_ret (pe_ix ix_list (pe_lst (pa_cons (pe_op op_add (pv 1) pe_int) (pa_cons (pe_op op_add (pv 1) pe_int) (pa_cons (pe_op op_add (pe_op op_mul pe_int (pv 1)) pe_int) pa_nil)))) (pv 0) (fun _ _ => rfl)))) pss_nil)
    (pss_cons (ps_set (i := 2) scPw.nd rfl (.inl rfl) pe_int)
    (pss_cons (ps_for PassesOwn.never rfl (pi_range1 (by rfl) zRange (pa_cons (pv 1) pa_nil)) (pg_name (i := 3) scPw.nd rfl (.inl rfl)) (pss_one (ps_set (i := 2) scPw.nd rfl (.inl rfl) (pe_op op_mul pe_int (pv 2)))))
    (pss_one (ps_ret (pe_op op_sub (pv 2) pe_int)))))), ?_⟩
  refine ⟨_, rfl, _, _, rfl, rfl, _, rfl, ?_⟩
  by_cases hrow : row < 3
  · refine condT (decide_eq_true (by show (row : Int) < 3; omega)) ?_
    refine ⟨_, rfl, _, _, rfl, rfl, _, rfl, _, _, rfl, rfl, _, rfl, _, _, rfl, rfl, .inl ⟨by decide, by decide⟩, _, _, rfl, rfl, (by decide : 3 ≤ sizeLine), fun l nl => ?_⟩
    have s1 := same_new (o := HO.lst [V.int ((n : Int) + 1), V.int ((n : Int) + 2), V.int (2 * (n : Int) + 3)]) nl
    have three : row = 0 ∨ row = 1 ∨ row = 2 := by omega
    rcases three with rfl | rfl | rfl
    · exact ⟨_, rfl, l, _, _, _, rfl, rfl, .inl (.inl upd_same), atI_nat (j := 0) rfl, q _ s1⟩
    · exact ⟨_, rfl, l, _, _, _, rfl, rfl, .inl (.inl upd_same), atI_nat (j := 1) rfl, q _ s1⟩
    · exact ⟨_, rfl, l, _, _, _, rfl, rfl, .inl (.inl upd_same), atI_nat (j := 2) rfl, q _ s1⟩
  · refine condF (decide_eq_false (by show ¬ (row : Int) < 3; omega)) ?_
    have e3 : row = 3 := by omega
    subst e3
    refine ⟨_, rfl, _, rfl, by omega, by omega, ?_⟩
    refine for_range (lo := 0) (n := n) (fun i σ H' => ∃ (y3 : Option V), σ = [some (.int (3 : Nat)), some (.int (n : Int)), some (.int (8 * 2 ^ i)), y3] ∧ Same H H')
      ⟨none, rfl, Same.refl _⟩ ?_ ?_
    · rintro i σ H1 hi ⟨y3, rfl, s⟩
      refine ⟨_, rfl, _, _, rfl, rfl, .inl ⟨by decide, by decide⟩, some (V.int (0 + (i : Int))), ?_, s⟩
      have e : (2 : Int) * (8 * 2 ^ i) = 8 * 2 ^ (i + 1) := by rw [Int.pow_succ]; omega
      rw [← e]
      rfl
    · rintro σ H1 ⟨y3, rfl, s⟩
      refine ⟨_, rfl, _, _, rfl, rfl, ?_⟩
      exact q _ s
end
end Kf
set_option Elab.async false
set_option linter.all false
set_option maxRecDepth 100000
set_option maxHeartbeats 3900000
/-! The end of a law whose defs want to know that no repr is under way around them: its def is run from the caller alone. -/
namespace Gd
open PySem PySem.Spec PyProof.Rows L2 LamX LmY
section
variable {P : Program} {w : World} {K : PySem.W.Frag} {mg mb : Str → Option Value} {k : Nat} {fa scr : Addr} {cs : List (Addr × Addr)} {st : Shared} {vs : List Value} {ns : List Int}
/-- what stands in the heap ahead of the law's call -/
structure Ahead (K : PySem.W.Frag) (mg mb : Str → Option Value) (cs : List (Addr × Addr)) (scr : Addr) (vs : List Value) (st : Shared) : Prop where
  kin : K.In st.heap
  glob : st.heap.Ns mainGlobals mg
  blt : st.heap.Ns builtinsNs mb
  boot : ∀ x : Str, x ≠ "__name__" → mb x = bootBuiltins x
  lim : st.heap.NoLimit
  gens : st.gens = #[]
  tabs : ∀ p ∈ cs, st.heap.get? p.2 = some { cls := .none, data := .fields #[] }
  offK : ∀ p ∈ cs, K.lookup p.2 = none
  codes : ∀ p ∈ cs, PySem.W.CodeHd st.heap p.1 p.2
  mod : ∃ (bm : Addr) (ob : Obj), mg "__builtins__" = some (.ref bm) ∧ bm ≠ builtinsNs ∧ st.heap.get? bm = some ob ∧ ob.cls = .type "module" ∧ ob.dict = some builtinsNs ∧ ob.data = .plain
  list : st.heap.get? scr = some { cls := .type "list", data := .seq vs.toArray }
/-- tracked are the script and the tables at most -/
structure Few (K : PySem.W.Frag) (cs : List (Addr × Addr)) (scr : Addr) (H : Hp) : Prop where
  only : ∀ b, H b ≠ none → b = scr ∨ ∃ p ∈ cs, p.2 = b
  notK : H scr ≠ none → K.lookup scr = none
theorem untracked (W : Ahead K mg mb cs scr vs st) {H : Hp} (F : Few K cs scr H) {b : Addr} {ob : Obj} (at_ : st.heap.get? b = some ob) (n1 : ∀ us m, ob.data ≠ .seq us m) (n2 : ob.data ≠ .fields #[]) : H b = none := by
  refine Decidable.byContradiction fun z => ?_
  rcases F.only b z with rfl | ⟨p, hp, rfl⟩
  · rw [W.list] at at_
    cases at_
    exact n1 _ _ rfl
  · rw [W.tabs p hp] at at_
    cases at_
    exact n2 rfl
theorem hid_ns (W : Ahead K mg mb cs scr vs st) {H : Hp} (F : Few K cs scr H) {b : Addr} {m : Str → Option Value} (h : st.heap.Ns b m) : (hidT st.heap H).Ns b m := by
  obtain ⟨ob, es, ep, at_, dat, rest⟩ := h
  refine ⟨ob, es, ep, hidT_get at_ (untracked W F at_ (fun us m z => ?_) fun z => ?_), dat, rest⟩ <;> (rw [dat] at z; cases z)
theorem hid_in (W : Ahead K mg mb cs scr vs st) {H : Hp} (F : Few K cs scr H) : K.In (hidT st.heap H) := fun b ob e => by
  refine hidT_get (W.kin b ob e) (Decidable.byContradiction fun z => ?_)
  rcases F.only b z with rfl | ⟨p, hp, rfl⟩
  · rw [F.notK z] at e
    cases e
  · rw [W.offK p hp] at e
    cases e
theorem hid_tab (W : Ahead K mg mb cs scr vs st) {H : Hp} (F : Few K cs scr H) : ∀ p ∈ cs, TabB (hidT st.heap H) mg p.1 p.2 := fun p hp => by
  have here := W.tabs p hp
  have plainG : ∀ {b : Addr} {ob : Obj}, st.heap.get? b = some ob → (∃ es ep, ob.data = .dict es ep) → b ≠ p.2 := fun e ⟨es, ep, d⟩ z => by
    rw [z, here] at e
    cases e
    cases d
  refine ⟨?_, ?_, ?_⟩
  · obtain ⟨ob, us, file, tf, flags, tg, inF, text, tt, e1, r1, r2, r3, rest⟩ := W.codes p hp
    refine ⟨ob, us, file, tf, flags, tg, inF, text, tt, hidT_get e1 (untracked W F e1 (fun us m z => ?_) fun z => ?_), r1, r2, r3, rest⟩
    · rw [r2] at z
      cases z
    · rw [r2] at z
      cases z
      simp at r3
  · obtain ⟨bm, ob, b1, b2, b3, b4, b5, b6⟩ := W.mod
    refine ⟨bm, ob, b1, b2, fun z => ?_, fun z => ?_, hidT_get b3 (untracked W F b3 (fun us m z => ?_) fun z => ?_), b4, b5, b6⟩
    · obtain ⟨og, es, ep, e, dat, _⟩ := W.glob
      rw [z, e] at b3
      cases b3
      rw [dat] at b6
      cases b6
    · rw [z, here] at b3
      cases b3
      cases b6
    · rw [b6] at z
      cases z
    · rw [b6] at z
      cases z
  · obtain ⟨og, es, ep, e, dat, _⟩ := W.glob
    exact plainG e ⟨es, ep, dat⟩
theorem hid_env (W : Ahead K mg mb cs scr vs st) {H : Hp} (F : Few K cs scr H) (hok : HOk P w H st.heap) : Env0 P w K mg (hidT st.heap H) callerA [] st H :=
  ⟨rfl, ⟨hid_in W F, hid_ns W F W.glob, ⟨mb, hid_ns W F W.blt, W.boot⟩, let ⟨mc, c1, c2⟩ := W.lim; ⟨mc, hid_ns W F c1, c2⟩⟩, fun b ob e => of_hidT e, Nat.le_of_eq (hidT_size _ _), trivial, fun b hb => (List.not_mem_nil (show b ∈ ([] : List Addr) from hb)).elim, hok, .of_eq W.gens⟩
/-- what is told of the heap behind the call -/
theorem behind (W : Ahead K mg mb cs scr vs st) {H : Hp} (F : Few K cs scr H) (hok : HOk P w H st.heap) (tb : ∀ p ∈ cs, H p.2 = some (.tbl #[])) (fz : H scr = none ∨ ∃ ob xs, H scr = some (.frz ob (.lst xs))) {r : Result} {s' : Shared}
    (told : CR L2.CX0 [] P w H st (fun v _ => v = .bl true) L2.E0 r s') : r = .ok (.ret (.bool true)) ∧ OldK st.heap s'.heap ∧ s'.os = st.os ∧ AllBare s'.gens := by
  match r, told with
  | .error _, told => exact (show False from told).elim
  | .ok .next, told => exact (show False from told).elim
  | .ok .brk, told => exact (show False from told).elim
  | .ok .cont, told => exact (show False from told).elim
  | .ok (.ret u), told =>
    obtain ⟨v, H2, os, bare, un, hok2, rel, isT⟩ := told
    have isT : v = .bl true := isT
    subst isT
    obtain rfl : u = Value.bool true := rel
    have noE : ∀ b : Addr, b ∉ ([] : List Addr) := fun _ => List.not_mem_nil
    have grown : ∀ p ∈ cs, ∃ more : Array Value, s'.heap.get? p.2 = some { cls := .none, data := .fields more } := fun p hp => by
      obtain ⟨more, e⟩ := un.tbls p.2 #[] (tb p hp)
      exact ⟨_, hok2 p.2 _ e⟩
    have stays : ∀ b ob, (¬ ∃ p ∈ cs, p.2 = b) → st.heap.get? b = some ob → s'.heap.get? b = some ob := fun b ob far e => by
      by_cases z : H b = none
      · exact un.keep b ob e z (noE b) (noE b)
      · rcases F.only b z with rfl | h
        · rcases fz with f | ⟨o2, xs, f⟩
          · exact absurd f z
          · obtain ⟨e1, _⟩ := hok _ _ f
            obtain ⟨e2, _⟩ := hok2 _ _ (un.frzs _ _ _ f)
            rw [e] at e1
            cases e1
            exact e2
        · exact absurd h far
    refine ⟨rfl, ⟨fun b ob e => ?_, fun b ob e => ?_⟩, os, bare⟩
    · by_cases h : ∃ p ∈ cs, p.2 = b
      · obtain ⟨p, hp, rfl⟩ := h
        obtain ⟨more, hm⟩ := grown p hp
        rw [W.tabs p hp] at e
        cases e
        exact .inr (.inl ⟨((W.codes p hp).tab (W.tabs p hp)).isCodeTable, rfl, #[], more, rfl, by rw [Array.empty_append]; exact hm⟩)
      · exact .inl (stays b ob h e)
    · by_cases h : ∃ p ∈ cs, p.2 = b
      · obtain ⟨p, hp, rfl⟩ := h
        obtain ⟨more, hm⟩ := grown p hp
        exact ⟨_, hm⟩
      · exact ⟨ob, stays b ob h e⟩
open Classical in
/-- THE END: the law's def by its run from the caller alone -/
theorem end_at (W : Ahead K mg mb cs scr vs st) (are : IntsAre vs ns) (short : ns.length ≤ sizeLine)
    (run : ∀ (base : Heap) (H : Hp), K.In base → base.Ns mainGlobals mg → (∀ p ∈ cs, TabB base mg p.1 p.2) → (∀ p ∈ cs, H p.2 = some (.tbl #[])) → SqL K H scr (ns.map V.int) → Env0 P w K mg base callerA [] st H →
      codeAny (model P w) callerA (.call (.ref fa) ⟨[.ref scr], []⟩) (CR L2.CX0 [] P w H st (fun v _ => v = .bl true) L2.E0) st) :
    codeAny (model P w) callerA (.call (.ref fa) ⟨[.ref scr], []⟩) (fun r s' => r = .ok (.ret (.bool true)) ∧ OldK st.heap s'.heap ∧ s'.os = st.os ∧ AllBare s'.gens) st := by
  have rv := vals_ints are
  have same := are.length
  have scrT : ¬ ∃ p ∈ cs, p.2 = scr := fun ⟨p, hp, e⟩ => by
    have z := W.tabs p hp
    rw [e, W.list] at z
    cases z
  have go : ∀ H : Hp, (∀ b, (∃ p ∈ cs, p.2 = b) → H b = some (.tbl #[])) → (∀ b, (¬ ∃ p ∈ cs, p.2 = b) → b ≠ scr → H b = none) → (H scr = none ∨ (K.lookup scr = none ∧ H scr = some (.frz { cls := .type "list", data := .seq vs.toArray } (.lst (ns.map V.int))))) → SqL K H scr (ns.map V.int) →
      codeAny (model P w) callerA (.call (.ref fa) ⟨[.ref scr], []⟩) (fun r s' => r = .ok (.ret (.bool true)) ∧ OldK st.heap s'.heap ∧ s'.os = st.os ∧ AllBare s'.gens) st := by
    intro H isTab noneElse atScr seq
    have few : Few K cs scr H := ⟨fun b z => by
      by_cases h : ∃ p ∈ cs, p.2 = b
      · exact .inr h
      · exact .inl (Decidable.byContradiction fun n => z (noneElse b h n)), fun z => (atScr.resolve_left z).1⟩
    have hok : HOk P w H st.heap := fun b ob e => by
      by_cases h : ∃ p ∈ cs, p.2 = b
      · rw [isTab b h] at e
        cases e
        obtain ⟨p, hp, rfl⟩ := h
        exact W.tabs p hp
      · by_cases n : b = scr
        · subst n
          rcases atScr with z | ⟨_, z⟩
          · rw [z] at e
            cases e
          · rw [z] at e
            cases e
            exact ⟨W.list, by rw [List.length_map]; exact short, vs, _, rv, W.list⟩
        · rw [noneElse b h n] at e
          cases e
    have tb : ∀ p ∈ cs, H p.2 = some (.tbl #[]) := fun p hp => isTab p.2 ⟨p, hp, rfl⟩
    exact codeAny_mono (run _ H (hid_in W few) (hid_ns W few W.glob) (hid_tab W few) tb seq (hid_env W few hok)) fun r s' told => behind W few hok tb (atScr.imp id fun z => ⟨_, _, z.2⟩) told
  cases hk : K.lookup scr with
  | some ob =>
    have e := W.kin scr ob hk
    rw [W.list] at e
    cases e
    exact go (fun b => if ∃ p ∈ cs, p.2 = b then some (.tbl #[]) else none) (fun b h => if_pos h) (fun b h _ => if_neg h) (.inl (if_neg scrT)) (.inr ⟨_, vs.toArray, _, hk, rfl, rfl, rfl, by rw [List.size_toArray, same]; exact short, by simpa using rv⟩)
  | none =>
    refine go (fun b => if b = scr then some (.frz { cls := .type "list", data := .seq vs.toArray } (.lst (ns.map V.int))) else if ∃ p ∈ cs, p.2 = b then some (.tbl #[]) else none) (fun b h => ?_) (fun b h n => ?_) (.inr ⟨hk, if_pos rfl⟩) (.inl (.inr ⟨_, if_pos rfl⟩))
    · exact (if_neg (fun z => scrT (by rw [← z]; exact h))).trans (if_pos h)
    · exact (if_neg n).trans (if_neg h)
end
end Gd
set_option Elab.async false
set_option linter.all false
set_option maxRecDepth 100000
set_option maxHeartbeats 3900000
/-! Defs that are run where no repr is under way; repr of data. -/
namespace Gd
open PySem PySem.Spec PyProof.Rows L2 LamX LmY
/-- as FnOk, where no repr is under way around the call -/
structure FnG (P : Program) (w : World) (K : PySem.W.Frag) (mg : Str → Option Value) (base : Heap) (k : Nat) (f : Addr) (fd : FuncData) (ps : List Str) (sp : Sp) : Prop where
  len : ∀ vs H Q E, sp vs H Q E → vs.length = ps.length
  run : ∀ (A : Around) (outer : List Env) (s : Shared) (H : Hp) (args : Args) (us : List Value) (vs : List V) (Q : VK), A.guards = some [] → Room k A → Env0 P w K mg base A outer s H → BindsTo s fd args (ps.zip us) → Vals vs us → sp vs H Q L2.E0 →
    codeAny (model P w) A (.call (.ref f) args) (CR L2.CX0 outer P w H s Q L2.E0) s
section
variable {P : Program} {w : World} {K : PySem.W.Frag} {mg : Str → Option Value} {base : Heap}
/-- a def of the text, by its body -/
theorem okG {x : Str} {st : Stmt} {f : Addr} {fd : FuncData} {N ps : List Str} {k : Nat} {sp : Sp} (F : Fun K x x st f fd) (S : FnScope N ps (defScope st)) (len : ∀ vs H Q E, sp vs H Q E → vs.length = ps.length)
    (body : ∀ (cdv : Value) (A : Around) (outer : List Env) (s : Shared) (H : Hp) (vs : List V) (Q : VK), A.guards = some [] → Room k (A.deeper (envOfC x (defScope st) s.heap.objs.size f cdv)) → sp vs H Q L2.E0 →
      ∃ t, PSs (cxOf L2.CX0 P w K mg base N x (defScope st) f cdv A outer s H L2.E0).nox (defBody st) t ∧ t { nx := fun _ H' => Q .non H', rt := Q } (L2.start N vs) H) : FnG P w K mg base (k + 1) f fd ps sp := by
  obtain ⟨oc, od, kV, doc, pm, an, cdv, ct, osl, rfl, look, code⟩ := F.ex
  refine ⟨len, fun A outer s H args us vs Q gu room e0 bind rel h => ?_⟩
  refine run_ofS look code S room e0 bind rel (len _ _ _ _ h) fun room1 => ?_
  obtain ⟨t, run, told⟩ := body cdv A outer s H vs Q gu room1 h
  exact ⟨t, run.nox, told⟩
/-- FnOk is more -/
theorem FnG.of {k : Nat} {f : Addr} {fd : FuncData} {ps : List Str} {sp : Sp} (F : FnOk P w K mg base L2.CX0 k f fd ps sp) : FnG P w K mg base k f fd ps sp := ⟨F.len, fun A outer s H args us vs Q _ room e0 bind rel h => F.run A outer s H args us vs Q L2.E0 room e0 bind rel h⟩
end
section
variable {X : Cx}
/-- x(e, ..), x such a def -/
theorem pe_callG {k : Nat} {f : Addr} {fd : FuncData} {ps : List Str} {sp : Sp} {x : Str} {p pos : Pos} {e : Expr} {es : List Expr} {t : TA} (F : FnG X.prog X.w X.K X.mg X.base k f fd ps sp) (gu : X.A.guards = some []) (room : Room k X.A) (gl : Gl X x) (mx : X.mg x = some (.ref f)) (kx : PySem.W.keepIn X.K (.ref f) = true)
    (bind : L2.Binds X.K fd ps []) (pa : PA X (e :: es) t) (h0 : (x == ("__debug__" : Str)) = false := by decide)
    (h1 : starEach (e :: es) X.env = (false, eval e X.env) :: starEach es X.env := by rfl) (h2 : (backTo pos (starEach es X.env)).any (·.1) = false := by rfl) :
    PE X (.Call (.Name x p) (e :: es) [] pos) (fun σ H Q => t σ H fun vs H1 => sp vs H1 Q L2.E0) := by
  refine ⟨fun pins s σ H Q I reading => wpAny_Call_Name_kw (ld_glob I gl mx (PySem.W.callWith_K (h₀ := X.base) I.ok.mod.kin kx (thn (pa.run pos pins s σ H _ I reading) fun us s1 ⟨vs, H1, I1, rel, q⟩ => ⟨I1.kIn, land (us := us) I1 ?_⟩) h1 h2) h0)⟩
  have given := bind s1 us I1.kIn (by rw [List.append_nil]; exact rel.length.symm.trans (F.len _ _ _ _ q))
  rw [List.append_nil] at given
  exact F.run X.A X.stack s1 H1 ⟨us, []⟩ us vs Q gu room I1.env0 given rel q
/-- repr of data, no repr being under way -/
theorem cr_reprD (gu : X.A.guards = some []) (un : X.A.units + 64 < cLine) : CallR X (.builtin "repr") (fun xs H Q => ∃ (a : Addr) (d : PyData), xs = [.ref a] ∧ Dp X.K H (.ref a) d ∧ d.showable = true ∧ d.hasDict = false ∧ d.depth ≤ 60 ∧ d.shown.length ≤ sizeLine ∧ Q (.str d.shown) H) := by
  intro pins s σ H xs us Q I rel ⟨a, d, ex, dp, sh, nd, dd, fits, q⟩
  subst ex
  rw [Vals.ref1 rel]
  obtain ⟨as, rd⟩ := Dp.reads I d (.ref a) (.ref a) dp rfl
  exact repr_of_reads' rd sh (fun e => by rw [nd] at e; cases e) gu (by omega) (fun _ _ e => e) (fun h' u tk kp => ⟨.str d.shown, H, I.kept kp, ⟨u, rfl⟩, q⟩) fits
end
/-- what the end wants of the law's def -/
def LawG (l : PySem.W.OpenLaw) (w : World) (K : PySem.W.Frag) (k n : Nat) (x : Str) (mg : Str → Option Value) (fa : Addr) (h : Heap) : Prop :=
  ∃ (fd : FuncData) (cs : List (Addr × Addr)) (sp : Sp), (∀ p ∈ cs, h.get? p.2 = some { cls := .none, data := .fields #[] }) ∧ (∀ p ∈ cs, K.lookup p.2 = none) ∧ (∀ p ∈ cs, PySem.W.CodeHd h p.1 p.2) ∧ (∀ (s : Shared) (u : Value), BindsTo s fd ⟨[u], []⟩ [(x, u)]) ∧
    (∀ (H : Hp) (a : Addr) (ns : List Int), ns.length ≤ n → (∀ z ∈ ns, Builtin.Int.intBits z ≤ 1048576) → (∀ p ∈ cs, H p.2 = some (.tbl #[])) → SqL K H a (ns.map V.int) → sp [.ref a] H (fun v _ => v = .bl true) L2.E0) ∧
    ∀ base : Heap, K.In base → base.Ns mainGlobals mg → (∀ p ∈ cs, TabB base mg p.1 p.2) → FnG l.prog w K mg base k fa fd [x] sp
/-- the end of a law some defs of which say repr, or hold lambdas: these ones' tables are still empty -/
theorem walk_guard {l : PySem.W.OpenLaw} {n k : Nat} {q : Program} {loose : List Str} {XP : (Str → Option Value) → Heap → Prop} {YP : World → Heap → Prop} {d : DefRec} {K : Params → PySem.W.Frag} {x : Str} (nms : List Str)
    (hn : l.most = some n) (line : n ≤ sizeLine) (hdf : d.params.defaults = []) (room : Room k callerA) (recs : ∀ nm ∈ nms, ((recsOf q).any fun e => e.name == nm) = true) (hY : ∀ (w : World) (h : Heap), YP w h → (K w.params).In h)
    (F : ∀ (w : World) (mg : Str → Option Value) (fa : Addr) (h : Heap), YP w h → (K w.params).In h → h.Ns mainGlobals mg → mg d.name = some (.ref fa) → (∀ nm ∈ nms, ∀ fw, mg nm = some (.ref fw) → OwnTab (K w.params) fw h) → LawG l w (K w.params) k n x mg fa h) :
    PySem.W.WalkO q loose XP YP l.row.toRowW d [] (fun f vs => PySem.call f vs) := by
  refine Att.attach_callB hn hdf fun w s0 s1 mg mb fa o pm cd doc a vs ns G Y ho hd hcd hmg hobj hints hlen hbits hg => ?_
  have KX := hY w _ Y
  have tabs : ∀ nm ∈ nms, ∀ fw, mg nm = some (.ref fw) → OwnTab (K w.params) fw s1.heap := by
    intro nm inn fw hw c P o1 fd1 e dd us sl look isF isC lookC at11
    obtain ⟨dR, mem, same⟩ := List.any_eq_true.mp (recs nm inn)
    have eN : dR.name = nm := beq_iff_eq.mp same
    obtain ⟨a2, o2, fd2, c2, P2, g1, g2, g3, g4, _, ⟨oc, vc, g5, _, g6, g7⟩, empty⟩ := G.T.tab dR mem
    rw [eN] at g1
    cases hw.symm.trans g1
    cases (KX _ _ look).symm.trans g2
    cases isF.symm.trans g3
    cases isC.symm.trans g4
    cases (KX _ _ lookC).symm.trans g5
    cases g6
    cases at11.symm.trans g7
    exact empty
  obtain ⟨fd, cs, sp, hT, nT, hC, hb, hsp, hF⟩ := F w mg fa _ Y KX G.T.g hmg tabs
  exact end_at ⟨KX, G.T.g, G.T.b, G.T.builtins, G.T.nolimit, hg, hT, nT, hC, G.T.bmain, hobj⟩ hints (Nat.le_trans hlen line) fun base H hK hG hB ht hS e0 =>
    (hF base hK hG hB).run callerA [] s1 H ⟨[.ref a], []⟩ [.ref a] [.ref a] _ rfl room e0 (hb s1 (.ref a)) (.cons rfl .nil) (hsp H a ns hlen hbits ht hS)
end Gd
set_option Elab.async false
set_option linter.all false
set_option maxRecDepth 100000
set_option maxHeartbeats 4000000
/-! repr of atoms and of data. -/
namespace Kf
open PySem PySem.Spec PyProof.Rows L2 Sx LamX LmY _root_.Gd
theorem cr_reprE {X : Cx} (gu : X.A.guards = some []) (un : X.A.units + 130 < cLine) : CallR X (.builtin "repr") (fun xs H Q => ∃ (a : Addr) (d : PyData), xs = [.ref a] ∧ Dp X.K H (.ref a) d ∧ d.showable = true ∧ d.hasDict = false ∧ d.depth ≤ 120 ∧ d.shown.length ≤ sizeLine ∧ Q (.str d.shown) H) := by
  intro pins s σ H xs us Q I rel ⟨a, d, ex, dp, sh, nd, dd, fits, q⟩
  subst ex
  rw [Vals.ref1 rel]
  obtain ⟨as, rd⟩ := Dp.reads I d (.ref a) (.ref a) dp rfl
  exact repr_of_reads' rd sh (fun e => by rw [nd] at e; cases e) gu (by omega) (fun _ _ e => e) (fun h' u tk kp => ⟨.str d.shown, H, I.kept kp, ⟨u, rfl⟩, q⟩) fits
theorem cr_reprX {X : Cx} (gu : X.A.guards = some []) (un : X.A.units + 130 < cLine) : CallR X (.builtin "repr") (fun xs H Q => ∃ (v : V) (d : PyData), xs = [v] ∧ Dp X.K H v d ∧ d.showable = true ∧ d.hasDict = false ∧ d.depth ≤ 120 ∧ d.shown.length ≤ sizeLine ∧ Q (.str d.shown) H) := by
  intro pins s σ H xs us Q I rel ⟨v, d, ex, dp, sh, nd, dd, fits, q⟩
  subst ex
  cases dp with
  | lst h g => exact cr_reprE gu un pins s σ H _ us Q I rel ⟨_, _, rfl, .lst h g, sh, nd, dd, fits, q⟩
  | tup h g => exact cr_reprE gu un pins s σ H _ us Q I rel ⟨_, _, rfl, .tup h g, sh, nd, dd, fits, q⟩
  | non =>
    cases rel with
    | cons r rr =>
      cases rr
      cases r
      exact P.repr_of_none ⟨.str (PyData.shown .none), H, I.tok _, ⟨_, rfl⟩, q⟩
  | bl b =>
    cases rel with
    | cons r rr =>
      cases rr
      cases r
      cases b with
      | false => exact P.repr_of_bool (b := false) ⟨.str (PyData.shown (.bool false)), H, I.tok _, ⟨_, rfl⟩, q⟩
      | true => exact P.repr_of_bool (b := true) ⟨.str (PyData.shown (.bool true)), H, I.tok _, ⟨_, rfl⟩, q⟩
  | int i =>
    cases rel with
    | cons r rr =>
      cases rr
      obtain ⟨t, rfl⟩ := r
      exact P.repr_of_int (of_decide_eq_true sh) ⟨.str (PyData.shown (.int i)), H, I.tok _, ⟨_, rfl⟩, q⟩
  | str x =>
    cases rel with
    | cons r rr =>
      cases rr
      obtain ⟨t, rfl⟩ := r
      exact P.repr_of_str ⟨.str (PyData.shown (.str x)), H, I.tok _, ⟨_, rfl⟩, q⟩ fits
end Kf
set_option Elab.async false
set_option linter.all false
set_option maxRecDepth 100000
set_option maxHeartbeats 8000000
set_option pp.maxSteps 500
/-! The climb at the limit. -/
namespace Kf
open PySem PySem.Spec PyProof.Rows L2 Sx RZ Xk LamX LmY _root_.Gd
abbrev sLi : Stmt := top 77
abbrev liN : List Str := ["dice", "more", "program", "caught", "found", "e"]
theorem scLi : FnScope liN ["dice"] (defScope sLi) := ⟨rfl, rfl, rfl, by decide +kernel, rfl, by decide +kernel, by decide +kernel⟩
section
variable {X : Cx} {CX : CXT} {k : Nat} {f : Addr} {fd : FuncData} {ps : List Str} {sp : Sp} {E : L2.St → XK} {x : Str} {p pos : Pos} {e : Expr} {es : List Expr} {t : TA} {ds : List Value} {dvs : List V}
/-! ### a call with defaults that may raise into the own clause -/
def tCallSD (sp : Sp) (dvs : List V) (E : L2.St → XK) (t : TA) : TE := fun σ H Q => t σ H fun vs H1 => sp (vs ++ dvs) H1 Q (E σ)
theorem pe_callSD (F : FnOk X.prog X.w X.K X.mg X.base CX k f fd ps sp) (hr : Room k X.A) (hg : Gl X x) (hm : X.mg x = some (.ref f)) (hk : PySem.W.keepIn X.K (.ref f) = true) (hb : Binds X.K fd ps ds) (hd : Vals dvs ds) (hx : ∀ σ, PassesAt CX X σ (E σ))
    (ha : PA X (e :: es) t) (hdb : (x == ("__debug__" : Str)) = false := by decide) (he : starEach (e :: es) X.env = (false, eval e X.env) :: starEach es X.env := by rfl) (hpl : (backTo pos (starEach es X.env)).any (·.1) = false := by rfl) :
    PE X (.Call (.Name x p) (e :: es) [] pos) (tCallSD sp dvs E t) := by
  refine ⟨fun pins s σ H Q I h => ?_⟩
  refine wpAny_Call_Name_kw (ld_glob I hg hm ?_ hdb)
  refine PySem.W.callWith_K (h₀ := X.base) I.ok.mod.kin hk (thn (ha.run pos pins s σ H _ I h) fun us s1 ⟨vs, H1, I1, r, q⟩ => ⟨I1.kIn, ?_⟩) he hpl
  have r2 : Vals (vs ++ dvs) (us ++ ds) := r.append hd
  have hl : (us ++ ds).length = ps.length := by rw [← r2.length]; exact F.len _ _ _ _ q
  refine wpAny_call (codeAny_mono (F.run X.A X.stack s1 H1 ⟨us, []⟩ (us ++ ds) (vs ++ dvs) Q (E σ) hr I1.env0 (hb s1 us I1.kIn hl) r2 q) fun r s' hq => ?_)
  cases r with
  | error e => exact hx σ pins H1 s1 e s' I1 hq
  | ok fl =>
    cases fl with
    | ret u => exact I1.after hq
    | next => exact False.elim hq
    | brk => exact False.elim hq
    | cont => exact False.elim hq
end
section
variable {P : Program} {w : World} {K : PySem.W.Frag} {mg : Str → Option Value} {base : Heap} {C TMa PT GE f fr fq fp : Addr} {fd dr dq dp : FuncData} {ds : List Value}
theorem tab_sm {H H' : Hp} (s : Same H H') (h : GxR.TabG H PT) : GxR.TabG H' PT := by
  obtain ⟨ps, h1, h2⟩ := h
  exact ⟨ps, s _ _ h1, h2⟩
theorem tab_li {H H' : Hp} {p L : Addr} {m : Int} (d : DiceAt H p L m) (b : But p H H') (h : GxR.TabG H PT) : GxR.TabG H' PT := by
  obtain ⟨ps, h1, h2⟩ := h
  have ne : PT ≠ p := fun z => by
    obtain ⟨x, n, r, cs, e1, _⟩ := d
    rw [← z, h1] at e1
    cases e1
  exact ⟨ps, b _ _ ne h1, h2⟩
def spLiR (K : PySem.W.Frag) (PT : Addr) : Sp := fun vs H Q _ => ∃ (p L : Addr) (m : Int), vs = [.ref p] ∧ DiceAt H p L m ∧ m < 2 ^ 50 ∧ GxR.TabG H PT ∧ ∀ H', Q (.bl true) H'
theorem ok_li (F : Fun K "_law_limit_right" "_law_limit_right" sLi f fd) (D : Draw P w K mg base fq fp dq dp) (G : FnOk P w K mg base (L2.CX P w) 7 fr dr ["program", "numbers", "limit"] (spRun K C PT TMa)) (vR : Vals [.int 20000] ds) (bR : Binds K dr ["program", "numbers", "limit"] ds) (kR : PySem.W.keepIn K (.ref fr) = true) (mR : mg "run" = some (.ref fr)) (M : ExR K mg TMa GE) (upT : PySem.W.exmOne K (.ref TMa) (.ref TMa) = some true) (zRepr : mg "repr" = none) : FnG P w K mg base 8 f fd ["dice"] (spLiR K PT) := by
  refine okG F scLi (fun vs H Q E h => ?_) (fun cdv Ar outer s0 H vs Q gu hr h => ?_)
  · obtain ⟨p, L, m, rfl, _⟩ := h
    rfl
  have h7 : Room 7 _ := hr
  have h1 : Room 1 _ := hr.mono (by decide)
  have u0 : (Ar.deeper (envOfC "_law_limit_right" (defScope sLi) s0.heap.objs.size f cdv)).units + 130 < cLine := by
    have := hr.un
    omega
  obtain ⟨p, L, m, rfl, hD, mb, hT, q⟩ := h
  refine ⟨_, (pss_cons (ps_set (i := 1) scLi.nd rfl (.inl rfl) (pe_call D.R h1 (by rfl) D.mR D.kR D.bR .nil pass0 (pa_cons (pv 0) (pa_cons pe_int pa_nil))))
    (pss_cons (ps_set (i := 2) scLi.nd rfl (.inl rfl) (pe_tup (pa_cons pe_str (pa_cons (pe_tup (pa_cons pe_str (pa_cons pe_int pa_nil))) (pa_cons pe_str (pa_cons pe_str (pa_cons (pe_tup (pa_cons pe_str (pa_cons pe_str pa_nil))) (pa_cons (pe_tup (pa_cons pe_str (pa_cons (pe_op op_add pe_int (pv 1)) pa_nil))) pa_nil))))))))
    (pss_cons (ps_set (i := 3) scLi.nd rfl (.inl rfl) pe_non)
    (pss_cons (ps_set (i := 4) scLi.nd rfl (.inl rfl) pe_non)
    (pss_cons (ps_try_hold (i := 5) (c := .ref TMa) rfl rfl scLi.nd rfl rfl ⟨by rfl, by decide, .inl M.mT⟩ L2.takes0 rfl
      (fun W pn xe tk _ => pss_one (ps_set (i := 4) scLi.nd rfl (.inl rfl) (pe_callSD (E := fun σ => WE W σ) (dvs := [.int 20000]) G h7 (by rfl) mR kR bR vR (fun σ => passAt tk σ) (pa_cons (pv 2) (pa_cons pe_dnewK pa_nil)))))
      (fun a oe cls d pn _ _ => pss_one (ps_set (i := 3) scLi.nd rfl (.inl rfl) (pv 5))))
    (pss_cons (ps_if (pt_cmpR op_eq (pv 1) pe_int (nomark _)) (pss_one (ps_ret (pe_and (pe_cmpR op_isN (pv 3) pe_non (nomark _)) (pe_one (pe_cmpR op_eq (pe_callB (cr_reprX gu u0) (by rfl) zRepr (by decide +kernel) (pa_cons (pv 4) pa_nil)) pe_str (nomark _)))))) pss_nil)
    (pss_one (ps_ret (pe_cmpR op_notN (pv 3) pe_non (nomark _)))))))))), ?_⟩
  refine ⟨_, rfl, p, L, 2, m, rfl, by decide, by decide, mb, hD, fun r H1 r0 r1 b1 hD1 => ?_⟩
  have hT1 : GxR.TabG H1 PT := tab_li hD b1 hT
  obtain ⟨k, rfl⟩ : ∃ k : Nat, r = (k : Int) := ⟨r.toNat, by omega⟩
  have k2 : k = 0 ∨ k = 1 := by omega
  refine ⟨(by decide : 2 ≤ sizeLine), fun q1 n1 => ⟨(by decide : 2 ≤ sizeLine), fun q2 n2 => ⟨_, rfl, _, _, rfl, rfl, (by decide : 2 ≤ sizeLine), fun q3 n3 => ⟨(by decide : 6 ≤ sizeLine), fun q4 n4 => ?_⟩⟩⟩⟩
  have s1 := same_new (o := HO.tup [.str "num", .int 5]) n1
  have s2 := same_new (o := HO.tup [.str "name", .str "a"]) n2
  have s3 := same_new (o := HO.tup [.str "num", .int (19997 + (k : Int))]) n3
  have s4 := same_new (o := HO.tup [.str "climb", .ref q1, .str "a", .str "b", .ref q2, .ref q3]) n4
  have e1 := s4 _ _ (s3 _ _ (s2 _ _ (upd_same (H := H1) (a := q1) (o := .tup [.str "num", .int 5]))))
  have e2 := s4 _ _ (s3 _ _ (upd_same (a := q2) (o := .tup [.str "name", .str "a"])))
  have e3 := s4 _ _ (upd_same (a := q3) (o := .tup [.str "num", .int (19997 + (k : Int))]))
  have ss := s1.trans (s2.trans (s3.trans s4))
  have dm : Dt K (upd (upd (upd (upd H1 q1 (.tup [.str "num", .int 5])) q2 (.tup [.str "name", .str "a"])) q3 (.tup [.str "num", .int (19997 + (k : Int))])) q4 (.tup [.str "climb", .ref q1, .str "a", .str "b", .ref q2, .ref q3])) (V.ref q4) (pgD (limP (19997 + k))) := by
    rw [lim_d, show ((19997 + k : Nat) : Int) = 19997 + (k : Int) by omega]
    exact .tup (.inl (.inl (tups_of upd_same))) (.cons (.str _) (.cons (.tup (.inl (.inl (tups_of e1))) (.cons (.str _) (.cons (.int _) .nil))) (.cons (.str _) (.cons (.str _) (.cons (.tup (.inl (.inl (tups_of e2))) (.cons (.str _) (.cons (.str _) .nil))) (.cons (.tup (.inl (.inl (tups_of e3))) (.cons (.str _) (.cons (.int _) .nil))) .nil))))))
  have hT4 := tab_sm ss hT1
  obtain ⟨n, o, en, _, nb⟩ := run_ends (lim_ty (19997 + k) (by omega)) (ν := fun _ => none) (lim_opn _) (fun _ _ e => by cases e) 20000
  have nb : n ≤ 9 * 20000 + 2 * 0 + 0 + 1 := nb
  have big : 10 * 180001 + 100 ≤ sizeLine := by decide
  have ex := exact_told (lim_exact (ν := fun _ => none) (19997 + k) (by omega))
  have told0 : k = 0 → o = .told (.int 19996) := fun e => by
    subst e
    exact (Ran.det ⟨n, en⟩ (ex.1 20000 (by decide)))
  have many1 : k = 1 → o = .many := fun e => by
    subst e
    exact ex.2 20000 (by decide) (by decide) o ⟨n, en⟩
  refine ⟨_, rfl, fun d0 nd0 => ?_⟩
  have s5 := same_new (o := HO.dK []) nd0
  refine ⟨.ref q4, d0, 20000, limP (19997 + k), .number, [], fun _ => none, [], n, o, rfl, Dt.keep dm (tups_same s5), lim_ty _ (by omega), ⟨trivial, by decide⟩, trivial, by decide, (lim_small _).1, (lim_small _).2, tab_sm s5 hT4, upd_same, (fun z => rfl), (fun _ _ e => by cases e), lim_opn _, en, by omega, fun x e v' H' g hw => ?_, fun e H' g => ?_⟩
  · rcases k2 with rfl | rfl
    · have e5 := (told0 rfl).symm.trans e
      injection e5 with e5
      subst e5
      cases hw
      refine ⟨_, rfl, rfl, _, rfl, condT (by show decide (V.int ((0 : Nat) : Int) = V.int 0) = true; decide +kernel) ?_⟩
      refine ⟨_, rfl, rfl, _, rfl, condT (decide_eq_true rfl) ?_⟩
      refine ⟨_, rfl, .int 19996, .int 19996, rfl, .int _, rfl, rfl, by decide +kernel, by decide +kernel, rfl, ?_⟩
      have e9 : decide (V.str (PyData.int 19996).shown = V.str (Str.ofString "19996")) = true := by decide +kernel
      rw [e9]
      exact q _
    · exact absurd ((many1 rfl).symm.trans e) (fun z => by cases z)
  · rcases k2 with rfl | rfl
    · exact absurd ((told0 rfl).symm.trans e) (fun z => by cases z)
    · refine ⟨true, upT, fun _ a na => ?_, fun z => by cases z⟩
      refine ⟨_, rfl, fun _ => ?_⟩
      refine ⟨_, rfl, rfl, _, rfl, condF (by show decide (V.int ((1 : Nat) : Int) = V.int 0) = false; decide +kernel) ?_⟩
      exact ⟨_, rfl, rfl, q _⟩
end
end Kf
set_option Elab.async false
set_option linter.all false
set_option maxRecDepth 100000
set_option maxHeartbeats 4000000
/-! Four words unlike, steps that are enough: pure. -/
namespace Kf
open PySem PySem.Spec PyProof.Rows L2 Sx RZ
theorem cost_small (way many : Nat) (h : many < 600) : costW way many + many + 5 ≤ 20000 := by
  have c : cost1 way ≤ 8 := by
    unfold cost1
    split <;> decide
  have m := Nat.mul_le_mul c (Nat.le_of_lt h)
  unfold costW
  omega
theorem cost_big (way many : Nat) (h : 9 < many) : many / 10 < costW way many + many + 5 := by
  have := Nat.div_le_self many 10
  omega
abbrev k4 : List Str := ["ka", "kb", "kc", "kd"]
theorem k4_nodup : k4.Nodup := by decide +kernel
/-- of four names there is one that is not among three -/
theorem free4 (ws : List Str) (h : ws.length ≤ 3) : ∃ z ∈ k4, z ∉ ws := by
  refine Classical.byContradiction fun no => ?_
  have all : ∀ z ∈ k4, z ∈ ws := fun z hz => Classical.byContradiction fun n => no ⟨z, hz, n⟩
  have l := nodup_le k4 ws k4_nodup all
  have e : k4.length = 4 := rfl
  omega
theorem k4_word : ∀ z ∈ k4, WordZ z := by
  intro z hz
  rcases List.mem_cons.mp hz with rfl | hz
  · exact ⟨by decide +kernel, by decide +kernel, by decide +kernel⟩
  rcases List.mem_cons.mp hz with rfl | hz
  · exact ⟨by decide +kernel, by decide +kernel, by decide +kernel⟩
  rcases List.mem_cons.mp hz with rfl | hz
  · exact ⟨by decide +kernel, by decide +kernel, by decide +kernel⟩
  rw [List.mem_singleton.mp hz]
  exact ⟨by decide +kernel, by decide +kernel, by decide +kernel⟩
theorem inV_strs (z : Str) : ∀ ys : List Str, inV (.str z) (ys.map V.str) = decide (z ∈ ys)
  | [] => by simp [inV]
  | y :: r => by
    have h := inV_strs z r
    unfold inV at h ⊢
    rw [List.map_cons, List.any_cons, h]
    have e1 : eqV (.str y) (.str z) = decide (y = z) := by
      unfold eqV
      rfl
    rw [e1]
    by_cases e : y = z
    · subst e
      simp
    · rw [decide_eq_false e, Bool.false_or]
      have e3 : z ≠ y := fun q => e q.symm
      simp [e3]
/-- the first of the four that is not among them -/
theorem free4_head (ws : List Str) (h : ws.length ≤ 3) : ∃ z r, (k4.filter fun z => !decide (z ∈ ws)) = z :: r ∧ z ∈ k4 ∧ z ∉ ws := by
  cases e : k4.filter fun z => !decide (z ∈ ws) with
  | nil =>
    obtain ⟨z, hz, hn⟩ := free4 ws h
    have m : z ∈ k4.filter fun z => !decide (z ∈ ws) := List.mem_filter.mpr ⟨hz, by simp [hn]⟩
    rw [e] at m
    cases m
  | cons z r =>
    have m : z ∈ k4.filter fun z => !decide (z ∈ ws) := by
      rw [e]
      exact List.mem_cons_self
    obtain ⟨m1, m2⟩ := List.mem_filter.mp m
    exact ⟨z, r, rfl, m1, by simpa using m2⟩
end Kf
set_option Elab.async false
set_option linter.all false
set_option maxRecDepth 100000
set_option maxHeartbeats 8000000
set_option pp.maxSteps 500
/-! k28: closed programs of numbers, run to their ends. -/
namespace Kf
open PySem PySem.Spec PyProof.Rows L2 Sx RZ Xk LamX LmY _root_.Gd
theorem DiceAt.gen {PT p L : Addr} {H H' : Hp} {m : Int} (hD : DiceAt H p L m) (g : Gen PT H H') (t : GxR.TabG H PT) : DiceAt H' p L m := by
  obtain ⟨x, n, r, cs, e, nl, eL, q⟩ := hD
  exact ⟨x, n, r, cs, g.lst t e, nl, g.lst t eL, q⟩
theorem closed_opn {p : Pg} {k : Kd} (ty : Ty ([], []) p k) : ∀ z ∈ opn p, False := fun z m => by
  have h : z ∈ ([] : List Str) := ty.opens.1 z m
  cases h
theorem told_ends {p : Pg} {c : Nat} {w : Wv} {k : Kd} (ty : Ty ([], []) p k) (h : StepsM (fun _ => none) (st0 p c) ⟨0, [], [w]⟩) (le : c ≤ 20000) : ∃ n, EndsM (fun _ => none) n (st0 p 20000) (.told w) ∧ 10 * n + 100 ≤ sizeLine := by
  obtain ⟨n, o, en, _, nb⟩ := run_ends ty (ν := fun _ => none) (fun z m => (closed_opn ty z m).elim) (fun _ _ e => nomatch e) 20000
  have e := Ran.det ⟨n, en⟩ ((exact_told h).1 20000 (by omega))
  subst e
  have nb : n ≤ 9 * 20000 + 2 * 0 + 0 + 1 := nb
  have big : 10 * 180001 + 100 ≤ sizeLine := by decide
  exact ⟨n, en, by omega⟩
theorem many_ends {p : Pg} {c : Nat} {w : Wv} {k : Kd} (ty : Ty ([], []) p k) (h : StepsM (fun _ => none) (st0 p c) ⟨0, [], [w]⟩) {l : Nat} (lt : l < c) (le : l ≤ 600) : ∃ n, EndsM (fun _ => none) n (st0 p (l : Int)) .many ∧ 10 * n + 100 ≤ sizeLine := by
  obtain ⟨n, o, en, _, nb⟩ := run_ends ty (ν := fun _ => none) (fun z m => (closed_opn ty z m).elim) (fun _ _ e => nomatch e) (l : Int)
  have e := (exact_told h).2 (l : Int) (by omega) (by omega) o ⟨n, en⟩
  subst e
  have nb : n ≤ 9 * ((l : Nat) : Int).toNat + 2 * 0 + 0 + 1 := nb
  have big : 10 * 180001 + 100 ≤ sizeLine := by decide
  exact ⟨n, en, by omega⟩
theorem int_shown {x : Int} (h0 : 0 ≤ x) (h : x < 10 ^ 61) : (PyData.int x).shown.length ≤ sizeLine := by
  have l := (fit (.int x) (decide_eq_true (by omega))).len
  have e : psz (.int x) = 1 := rfl
  rw [sizeLine_eq]
  omega
theorem int_showable {x : Int} (h0 : 0 ≤ x) (h : x < 10 ^ 61) : (PyData.int x).showable = true := (fit (.int x) (decide_eq_true (by omega))).show_
theorem str_self (s : Str) : decide (V.str s = V.str s) = true := decide_eq_true rfl
/-- a closed program of a number's kind, that is told -/
def spRunC (K : PySem.W.Frag) (C : Addr) (PT : Addr) : Sp := fun vs H Q _ => ∃ (v : V) (nq : Addr) (p : Pg) (x : Int) (c : Nat), vs = [v, .ref nq, .int 20000] ∧ Dt K H v (pgD p) ∧ Ty ([], []) p .number ∧ p.deep ≤ 50 ∧ p.size ≤ 5000 ∧ GxR.TabG H PT ∧ H nq = some (.dK []) ∧
  StepsM (fun _ => none) (st0 p c) ⟨0, [], [.int x]⟩ ∧ c ≤ 20000 ∧ ∀ H', Gen PT H H' → Q (.int x) H'
theorem run_closed {P : Program} {w : World} {K : PySem.W.Frag} {mg : Str → Option Value} {base : Heap} {C PT TMa f : Addr} {fd : FuncData} {k : Nat} (G : FnOk P w K mg base (L2.CX P w) k f fd ["program", "numbers", "limit"] (spRun K C PT TMa)) : FnOk P w K mg base CX0 k f fd ["program", "numbers", "limit"] (spRunC K C PT) :=
  fn_calm G fun vs H Q E h => by
    obtain ⟨v, nq, p, x, c, rfl, hd, ty, dp, sz, hT, hq, st, le, q⟩ := h
    obtain ⟨n, en, nb⟩ := told_ends ty st le
    refine ⟨v, nq, 20000, p, .number, [], fun _ => none, [], n, .told (.int x), rfl, hd, ty, ⟨trivial, by decide⟩, trivial, by decide, dp, sz, hT, hq, (fun z => rfl), (fun _ _ e => nomatch e), (fun z m => (closed_opn ty z m).elim), en, nb, fun x' e v' H' g hw => ?_, fun e => nomatch e⟩
    injection e with e
    subst e
    cases hw
    exact q H' g
/-- .. that takes more steps than it may -/
def spRanM (K : PySem.W.Frag) (C : Addr) (PT : Addr) : Sp := fun vs H Q _ => ∃ (v : V) (nq : Addr) (p : Pg) (x : Int) (c l : Nat), vs = [v, .ref nq, .int (l : Int)] ∧ Dt K H v (pgD p) ∧ Ty ([], []) p .number ∧ p.deep ≤ 50 ∧ p.size ≤ 5000 ∧ GxR.TabG H PT ∧ H nq = some (.dK []) ∧
  StepsM (fun _ => none) (st0 p c) ⟨0, [], [.int x]⟩ ∧ l < c ∧ l ≤ 600 ∧ ∀ q' H', Gen PT H H' → H' q' = some (.tup [.str "many"]) → Q (.ref q') H'
theorem ran_many {P : Program} {w : World} {K : PySem.W.Frag} {mg : Str → Option Value} {base : Heap} {C PT f : Addr} {fd : FuncData} {k : Nat} (G : FnOk P w K mg base CX0 k f fd ["program", "numbers", "most"] (spRan K C PT)) : FnOk P w K mg base CX0 k f fd ["program", "numbers", "most"] (spRanM K C PT) :=
  G.imp fun vs H Q E h => by
    obtain ⟨v, nq, p, x, c, l, rfl, hd, ty, dp, sz, hT, hq, st, lt, le, q⟩ := h
    obtain ⟨n, en, nb⟩ := many_ends ty st lt le
    exact ⟨v, nq, l, p, .number, [], fun _ => none, [], n, .many, rfl, hd, ty, ⟨trivial, by decide⟩, trivial, by decide, dp, sz, hT, hq, (fun z => rfl), (fun _ _ e => nomatch e), (fun z m => (closed_opn ty z m).elim), en, nb, (fun _ e => nomatch e), fun _ q' H' g e => q q' H' g e⟩
theorem pow_rows {row n : Nat} (hr : row < 4) (hn : n < [30, 30, 12, 3].getD row 0) : aCost row n + row + 5 ≤ 20000 ∧ (aVal row n : Int) = powV row n ∧ aVal row n ≤ 10 ^ 30 ∧ n + aCost row n ≤ 10 ^ 30 := by
  have hn30 : n < 30 := by
    have : [30, 30, 12, 3].getD row 0 ≤ 30 := by
      have : row = 0 ∨ row = 1 ∨ row = 2 ∨ row = 3 := by omega
      rcases this with rfl | rfl | rfl | rfl <;> decide
    omega
  obtain ⟨h1, h2⟩ := ack_rows ⟨row, hr⟩ ⟨n, hn30⟩ hn
  have h1 : aCost row n + row + 5 ≤ 20000 := h1
  have h2 : aVal row n = (if row = 0 then n + 1 else if row = 1 then n + 2 else if row = 2 then 2 * n + 3 else 8 * 2 ^ n - 3) := h2
  have l := aVal_le row n
  refine ⟨h1, ?_, by omega, by omega⟩
  rw [h2]
  unfold powV
  have p1 : 0 < 2 ^ n := Nat.pow_pos (by decide)
  split
  · omega
  split
  · omega
  split
  · omega
  · have e : ((8 * 2 ^ n - 3 : Nat) : Int) = 8 * ((2 ^ n : Nat) : Int) - 3 := by omega
    rw [e, Int.natCast_pow]
    rfl
end Kf
set_option Elab.async false
set_option linter.all false
set_option maxRecDepth 100000
set_option maxHeartbeats 8000000
set_option pp.maxSteps 500
/-! k28: the law. -/
namespace Kf
open PySem PySem.Spec PyProof.Rows L2 Sx RZ Xk LamX LmY _root_.Gd
abbrev sLaw : Stmt := top 78
abbrev lawN : List Str := ["script", "dice", "branch", "words", "k", "word", "way", "turn_v", "many", "begin", "program", "row", "number", "one"]
theorem scLaw : FnScope lawN ["script"] (defScope sLaw) := ⟨rfl, rfl, rfl, by decide +kernel, rfl, by decide +kernel, by decide +kernel⟩
theorem joinR {C G : L2.St → Hp → Prop} {M : Prop} (main : (∀ σ H, C σ H → G σ H) → M) (rest : ∀ σ H, C σ H → G σ H) : M := main rest
def spLaw (K : PySem.W.Frag) (PT : Addr) : Sp := fun vs H Q _ => ∃ (a : Addr) (ns : List Int), vs = [.ref a] ∧ SqL K H a (ns.map V.int) ∧ ns.length ≤ 63 ∧ (∀ z ∈ ns, Builtin.Int.intBits z ≤ 1048576) ∧ GxR.TabG H PT ∧ ∀ H', Q (.bl true) H'
section
variable {P : Program} {w : World} {K : PySem.W.Frag} {mg : Str → Option Value} {base : Heap} {PT C_ fq fp : Addr} {dq dp : FuncData}
structure Calls (P : Program) (w : World) (K : PySem.W.Frag) (mg : Str → Option Value) (base : Heap) (PT C_ fl fw fc fo fn fa fv fr : Addr) (dl dw dc do_ dn da dv dr : FuncData) : Prop where
  Li : FnG P w K mg base 8 fl dl ["dice"] (spLiR K PT)
  bLi : Binds K dl ["dice"] []
  kLi : PySem.W.keepIn K (.ref fl) = true
  mLi : mg "_law_limit_right" = some (.ref fl)
  Wd : FnOk P w K mg base CX0 3 fw dw ["dice"] spWord
  bWd : Binds K dw ["dice"] []
  kWd : PySem.W.keepIn K (.ref fw) = true
  mWd : mg "_law_word" = some (.ref fw)
  Ch : FnOk P w K mg base CX0 3 fc dc ["dice", "words", "way", "many", "begin"] (spCn K)
  bCh : Binds K dc ["dice", "words", "way", "many", "begin"] []
  kCh : PySem.W.keepIn K (.ref fc) = true
  mCh : mg "_law_chain" = some (.ref fc)
  Wo : FnOk P w K mg base CX0 1 fo do_ ["way", "many", "begin"] spWo
  bWo : Binds K do_ ["way", "many", "begin"] []
  kWo : PySem.W.keepIn K (.ref fo) = true
  mWo : mg "_law_worth" = some (.ref fo)
  Rn : FnOk P w K mg base CX0 8 fn dn ["program", "numbers", "most"] (spRanM K C_ PT)
  bRn : Binds K dn ["program", "numbers", "most"] []
  kRn : PySem.W.keepIn K (.ref fn) = true
  mRn : mg "_law_ran" = some (.ref fn)
  Ak : FnOk P w K mg base CX0 1 fa da ["words", "row", "number"] (spAk K)
  bAk : Binds K da ["words", "row", "number"] []
  kAk : PySem.W.keepIn K (.ref fa) = true
  mAk : mg "_law_ackermann" = some (.ref fa)
  Pw : FnOk P w K mg base CX0 1 fv dv ["row", "number"] spPw
  bPw : Binds K dv ["row", "number"] []
  kPw : PySem.W.keepIn K (.ref fv) = true
  mPw : mg "_law_power" = some (.ref fv)
  R : FnOk P w K mg base CX0 7 fr dr ["program", "numbers", "limit"] (spRunC K C_ PT)
  kR : PySem.W.keepIn K (.ref fr) = true
  mR : mg "run" = some (.ref fr)
  zRange : mg "range" = none
  zList : mg "list" = none
  zRepr : mg "repr" = none
theorem ok_law {f fl fw fc fo fn fa fv fr : Addr} {fd0 dl dw dc do_ dn da dv dr : FuncData} {ds : List Value} (F : Fun K "law" "law" sLaw f fd0) (D : Draw P w K mg base fq fp dq dp) (C : Calls P w K mg base PT C_ fl fw fc fo fn fa fv fr dl dw dc do_ dn da dv dr) (vR : Vals [.int 20000] ds) (bR : Binds K dr ["program", "numbers", "limit"] ds) : FnG P w K mg base 9 f fd0 ["script"] (spLaw K PT) := by
  refine okG F scLaw (fun vs H Q E h => ?_) (fun cdv A outer s0 H vs Q gu hr h => ?_)
  · obtain ⟨a, ns, rfl, _⟩ := h
    rfl
  obtain ⟨a, ns, rfl, hS, hlen, hb, hT, q⟩ := h
  have h7 : Room 7 _ := hr.mono (by decide)
  have h3 : Room 3 _ := hr.mono (by decide)
  have h1 : Room 1 _ := hr.mono (by decide)
  have u0 : (A.deeper (envOfC "law" (defScope sLaw) s0.heap.objs.size f cdv)).units + 130 < cLine := by
    have := hr.un
    omega
  refine ⟨_, (pss_cons (ps_set (i := 1) scLaw.nd rfl (.inl rfl) (pe_lst (pa_cons (pe_callTy call_list_of (by rfl) C.zList (by decide +kernel) (pa_cons (pe_slice sl_list (pv 0) po_none (po_some pe_int)) pa_nil)) (pa_cons pe_int (pa_cons pe_int (pa_cons pe_int pa_nil))))))
    (pss_cons (ps_set (i := 2) scLaw.nd rfl (.inl rfl) (pe_call D.R h1 (by rfl) D.mR D.kR D.bR .nil pass0 (pa_cons (pv 1) (pa_cons pe_int pa_nil))))
    (pss_cons (ps_if (pt_cmpR op_eq (pv 2) pe_int (nomark _)) (pss_one (ps_ret (pe_callG C.Li gu hr (by rfl) C.mLi C.kLi C.bLi (pa_cons (pv 1) pa_nil)))) pss_nil)
    (pss_cons (ps_set (i := 3) scLaw.nd rfl (.inr rfl) (pe_lst pa_nil))
    (pss_cons (ps_for PassesOwn.never rfl (pi_range1 (by rfl) C.zRange (pa_cons pe_int pa_nil)) (pg_name (i := 4) scLaw.nd rfl (.inl rfl)) (pss_cons (ps_set (i := 5) scLaw.nd rfl (.inl rfl) (pe_call C.Wd h3 (by rfl) C.mWd C.kWd C.bWd .nil pass0 (pa_cons (pv 1) pa_nil)))
    (pss_cons (ps_if (pt_cmpR op_in_seq (pv 5) (pv 3) (by rfl)) (pss_one (ps_set (i := 5) scLaw.nd rfl (.inl rfl) (pe_ix ix_list (pe_lc (own := [("one", 13)]) (g := gName 13) (tt := tTest (tOp (rIn K true) (tVar 13) (tVar 3))) (by rfl) scLaw.nd (pi_list (pe_lst (pa_cons pe_str (pa_cons pe_str (pa_cons pe_str (pa_cons pe_str pa_nil)))))) (blkOk_by (N := lawN) (sc := defScope sLaw) (by decide +kernel)) (fun _ _ _ _ _ => pg_name (i := 13) scLaw.nd rfl (Or.inl rfl)) (fun _ _ _ _ _ => (pts_one (pt_cmpR op_notIn_seq (pv 13) (pv 3) (by rfl)))) (fun _ _ _ _ _ => (pv 13))) pe_int (fun _ _ => rfl)))) pss_nil)
    (pss_one (ps_expr (pe_bm PySem.F.plainAttrs_list PySem.F.slot_list_append PySem.F.type_list_append mt_append (pv 3) (pa_cons (pv 5) pa_nil)))))))
    (pss_cons (ps_if (pt_cmpR op_eq (pv 2) pe_int (nomark _)) (pss_cons (ps_set (i := 6) scLaw.nd rfl (.inl rfl) (pe_op op_mul pe_int (pe_call D.R h1 (by rfl) D.mR D.kR D.bR .nil pass0 (pa_cons (pv 1) (pa_cons pe_int pa_nil)))))
    (pss_one (ps_ret (pe_cmpR op_eq (pe_callB (cr_reprX gu u0) (by rfl) C.zRepr (by decide +kernel) (pa_cons (pe_call (dvs := [.int 20000]) C.R h7 (by rfl) C.mR C.kR bR vR pass0 (pa_cons (pe_call C.Ch h3 (by rfl) C.mCh C.kCh C.bCh .nil pass0 (pa_cons (pv 1) (pa_cons (pv 3) (pa_cons (pv 6) (pa_cons pe_int (pa_cons pe_int pa_nil)))))) (pa_cons pe_dnewK pa_nil))) pa_nil)) pe_str (nomark _))))) pss_nil)
    (pss_cons (ps_for PassesOwn.never rfl (pi_range1 (by rfl) C.zRange (pa_cons pe_int pa_nil)) (pg_name (i := 7) scLaw.nd rfl (.inl rfl)) (pss_cons (ps_set (i := 6) scLaw.nd rfl (.inl rfl) (pe_call D.R h1 (by rfl) D.mR D.kR D.bR .nil pass0 (pa_cons (pv 1) (pa_cons pe_int pa_nil))))
    (pss_cons (ps_par (i := 8) (j := 9) rfl scLaw.nd rfl rfl (by decide) rfl rfl (pa_cons (pe_call D.R h1 (by rfl) D.mR D.kR D.bR .nil pass0 (pa_cons (pv 1) (pa_cons pe_int pa_nil))) (pa_cons (pe_call D.R h1 (by rfl) D.mR D.kR D.bR .nil pass0 (pa_cons (pv 1) (pa_cons (pe_op op_pow pe_int pe_int) pa_nil))) pa_nil)) (by rfl))
    (pss_cons (ps_set (i := 10) scLaw.nd rfl (.inl rfl) (pe_call C.Ch h3 (by rfl) C.mCh C.kCh C.bCh .nil pass0 (pa_cons (pv 1) (pa_cons (pv 3) (pa_cons (pv 6) (pa_cons (pv 8) (pa_cons (pv 9) pa_nil)))))))
    (pss_cons (ps_if (pt_cmpR op_ne (pe_callB (cr_reprX gu u0) (by rfl) C.zRepr (by decide +kernel) (pa_cons (pe_call (dvs := [.int 20000]) C.R h7 (by rfl) C.mR C.kR bR vR pass0 (pa_cons (pv 10) (pa_cons pe_dnewK pa_nil))) pa_nil)) (pe_callB (cr_reprX gu u0) (by rfl) C.zRepr (by decide +kernel) (pa_cons (pe_call C.Wo h1 (by rfl) C.mWo C.kWo C.bWo .nil pass0 (pa_cons (pv 6) (pa_cons (pv 8) (pa_cons (pv 9) pa_nil)))) pa_nil)) (nomark _)) (pss_one (ps_ret pe_bl)) pss_nil)
    (pss_one (ps_if (PW.pt (pw_and (pt_cmpR op_gt (pv 8) pe_int (nomark _)) (pw_and1 (pt_cmpR (op_neW u0) (pe_call C.Rn hr (by rfl) C.mRn C.kRn C.bRn .nil pass0 (pa_cons (pv 10) (pa_cons pe_dnewK (pa_cons (pe_op op_fdiv (pv 8) pe_int) pa_nil)))) (pe_tup (pa_cons pe_str pa_nil)) (nomark _))))) (pss_one (ps_ret pe_bl)) pss_nil)))))))
    (pss_cons (ps_set (i := 11) scLaw.nd rfl (.inl rfl) (pe_call D.R h1 (by rfl) D.mR D.kR D.bR .nil pass0 (pa_cons (pv 1) (pa_cons pe_int pa_nil))))
    (pss_cons (ps_set (i := 12) scLaw.nd rfl (.inl rfl) (pe_call D.R h1 (by rfl) D.mR D.kR D.bR .nil pass0 (pa_cons (pv 1) (pa_cons (pe_ix ix_list (pe_lst (pa_cons pe_int (pa_cons pe_int (pa_cons pe_int (pa_cons pe_int pa_nil))))) (pv 11) (fun _ _ => rfl)) pa_nil))))
    (pss_one (ps_ret (pe_cmpR op_eq (pe_callB (cr_reprX gu u0) (by rfl) C.zRepr (by decide +kernel) (pa_cons (pe_call (dvs := [.int 20000]) C.R h7 (by rfl) C.mR C.kR bR vR pass0 (pa_cons (pe_call C.Ak h1 (by rfl) C.mAk C.kAk C.bAk .nil pass0 (pa_cons (pv 3) (pa_cons (pv 11) (pa_cons (pv 12) pa_nil)))) (pa_cons pe_dnewK pa_nil))) pa_nil)) (pe_callB (cr_reprX gu u0) (by rfl) C.zRepr (by decide +kernel) (pa_cons (pe_call C.Pw h1 (by rfl) C.mPw C.kPw C.bPw .nil pass0 (pa_cons (pv 11) (pa_cons (pv 12) pa_nil))) pa_nil)) (nomark _))))))))))))), ?_⟩
  refine ⟨_, rfl, 63, rfl, a, _, rfl, hS, fun l0 nl0 => ?_⟩
  rw [show cutV (ns.map V.int) none (some 63) = ns.map V.int from cut63 (by rw [List.length_map]; exact hlen)]
  have e0 : upd H l0 (.lst (ns.map V.int)) l0 = _ := upd_same
  have hT0 := tab_sm (same_new (o := .lst (ns.map V.int)) nl0) hT
  generalize upd H l0 (.lst (ns.map V.int)) = H0 at e0 hT0
  refine ⟨l0, _, rfl, .inl (.inl (.inl e0)), fun L nL => ?_⟩
  have e1 : upd H0 L (.lst (ns.map V.int)) L = _ := upd_same
  have hT1 := tab_sm (same_new (o := .lst (ns.map V.int)) nL) hT0
  generalize upd H0 L (.lst (ns.map V.int)) = H1 at e1 hT1
  refine ⟨(by show 4 ≤ sizeLine; decide), fun p np => ?_⟩
  have nLp : L ≠ p := fun z => by
    rw [← z, e1] at np
    cases np
  have hD0 : DiceAt (upd H1 p (.lst [.ref L, .int 0, .int 0, .int 0])) p L 0 := ⟨0, 0, 0, ns, upd_same, nLp, by rw [upd_ne nLp]; exact e1, hlen, Int.le_refl _, Int.le_refl _⟩
  have hT2 := tab_sm (same_new (o := .lst [.ref L, .int 0, .int 0, .int 0]) np) hT1
  generalize upd H1 p (.lst [.ref L, .int 0, .int 0, .int 0]) = H2 at hD0 hT2
  clear hT hT0 hT1 e0 e1 nl0 nL np
  -- the branch
  refine ⟨_, rfl, p, L, 6, 0, rfl, by decide, by decide, by decide, hD0, fun br H3 br0 br1 b3 hD3 => ?_⟩
  have hT3 := tab_li hD0 b3 hT2
  refine ⟨_, rfl, rfl, _, rfl, ?_⟩
  refine boolB _ (fun nb5 => ?_) (fun b5 => ⟨_, rfl, p, L, _, rfl, hD3, by decide, hT3, q⟩)
  -- words
  refine ⟨by decide, fun lw nlw => ?_⟩
  have s1 := same_new (o := .lst []) nlw
  have nwp : lw ≠ p := fun z => by
    obtain ⟨x, n, r, cs, e, _⟩ := hD3
    rw [← z, nlw] at e
    cases e
  have nwL : lw ≠ L := hD3.neL nlw
  refine ⟨_, rfl, by decide, by decide, ?_⟩
  refine for_range (lo := 0) (n := 4) (fun i σ X => ∃ (y4 y5 y13 : Option V) (ws : List Str), σ = [some (.ref a), some (.ref p), some (.int br), some (.ref lw), y4, y5, none, none, none, none, none, none, none, y13] ∧ X lw = some (.lst (ws.map V.str)) ∧ ws.length = i ∧ ws.Nodup ∧ (∀ z ∈ ws, WordZ z) ∧ DiceAt X p L (1 + 20 * (i : Int)) ∧ GxR.TabG X PT)
    ⟨none, none, none, [], rfl, upd_same, rfl, .nil, (fun _ m => nomatch m), hD3.same s1, tab_sm s1 hT3⟩ ?_ ?_
  · rintro i σ X hi ⟨y4, y5, y13, ws, rfl, hlw, wl, wn, wz, hD, hT⟩
    refine ⟨_, rfl, p, L, _, rfl, by omega, hD, fun z X1 zz b1 hD1 => ?_⟩
    have hT1 := tab_li hD b1 hT
    have hlw1 := b1 _ _ nwp hlw
    apply joinR (C := fun σ X => ∃ (z : Str) (y13 : Option V), σ = [some (.ref a), some (.ref p), some (.int br), some (.ref lw), some (.int (0 + (i : Int))), some (.str z), none, none, none, none, none, none, none, y13] ∧ X lw = some (.lst (ws.map V.str)) ∧ z ∉ ws ∧ WordZ z ∧ DiceAt X p L (1 + 20 * (i : Int) + 10) ∧ GxR.TabG X PT)
    · intro rest
      refine ⟨_, rfl, _, rfl, lw, _, rfl, .inl (.inl (.inl hlw1)), rfl, (by rw [List.all_map]; exact List.all_eq_true.mpr fun _ _ => rfl), _, rfl, ?_⟩
      rw [inV_strs]
      refine boolB _ (fun nin => rest _ _ ⟨z, y13, rfl, hlw1, of_decide_eq_false nin, zz, hD1.more (by omega), hT1⟩) (fun isin => ?_)
      have w3 : ws.length ≤ 3 := by omega
      obtain ⟨kz, kr, ek, kz4, kzn⟩ := free4_head ws w3
      refine ⟨(by decide : 4 ≤ sizeLine), fun l4 n4 => ?_⟩
      have h4 : upd X1 l4 (.lst (k4.map V.str)) l4 = _ := upd_same
      have s4 : Same X1 (upd X1 l4 (.lst (k4.map V.str))) := same_new n4
      refine ⟨l4, rfl, ⟨_, .inl (.inl upd_same)⟩, fun D nD => ?_⟩
      have s5 : Same (upd X1 l4 (.lst (k4.map V.str))) (upd (upd X1 l4 (.lst (k4.map V.str))) D (.lst [])) := same_new nD
      refine lc_list (K := K) (a := l4) (xs := k4.map V.str) (fun i H' => H' D = some (.lst (((k4.take i).filter fun z => !decide (z ∈ ws)).map V.str)) ∧ Same (upd X1 l4 (.lst (k4.map V.str))) H') ⟨upd_same, s5⟩ (fun i H' _ ⟨_, sm⟩ => .inl (.inl (sm _ _ h4))) ?_ ?_
      · rintro j x1 H' hx ⟨hDD, sm⟩
        rw [List.getElem?_map] at hx
        obtain ⟨y, hy, rfl⟩ := Option.map_eq_some_iff.mp hx
        refine ⟨rfl, _, rfl, _, rfl, lw, _, rfl, .inl (.inl (.inl (sm _ _ (s4 _ _ hlw1)))), rfl, (by rw [List.all_map]; exact List.all_eq_true.mpr fun _ _ => rfl), _, rfl, ?_⟩
        show if (!inV (V.str y) (ws.map V.str)) = true then _ else _
        rw [inV_strs]
        have et : (k4.take (j + 1)).filter (fun z => !decide (z ∈ ws)) = (k4.take j).filter (fun z => !decide (z ∈ ws)) ++ (if y ∈ ws then [] else [y]) := by
          rw [List.take_add_one, hy, List.filter_append]
          by_cases c : y ∈ ws
          · rw [if_pos c]
            simp [c]
          · rw [if_neg c]
            simp [c]
        by_cases c : y ∈ ws
        · rw [decide_eq_true c]
          rw [if_pos c, List.append_nil] at et
          exact iteF ⟨by rw [et]; exact hDD, sm⟩
        · rw [decide_eq_false c]
          rw [if_neg c] at et
          refine iteT ⟨_, rfl, _, hDD, few_of' ?_, ?_, same_own sm nD⟩
          · rw [List.length_map]
            exact Nat.le_trans (List.length_filter_le _ _) (Nat.le_trans (List.length_take_le' _ _) (by decide))
          · rw [upd_same, et, List.map_append]
            rfl
      · rintro H' ⟨hDD, sm⟩
        rw [List.length_map, List.take_length, ek] at hDD
        refine ⟨D, _, 0, _, rfl, rfl, .inl (.inl hDD), atI_nat (j := 0) rfl, ?_⟩
        have s6 := s4.trans sm
        exact rest _ _ ⟨kz, y13, rfl, s6 _ _ hlw1, kzn, k4_word kz kz4, (hD1.same s6).more (by omega), tab_sm s6 hT1⟩
    · rintro σ X2 ⟨z, y13, rfl, hl2, zn, zz, hD2, hT2⟩
      refine ⟨_, rfl, .inl ⟨rfl, _, .inl (.inl hl2)⟩, _, rfl, lw, _, _, rfl, rfl, hl2, (by rw [List.length_map, wl]; exact Nat.le_trans (m := 10) (by omega) (by decide)), ?_⟩
      have nwL2 : lw ≠ L := nwL
      refine ⟨_, _, _, ws ++ [z], rfl, by rw [upd_same, List.map_append]; rfl, by rw [List.length_append, wl]; rfl, List.nodup_append.mpr ⟨wn, List.nodup_cons.mpr ⟨List.not_mem_nil, .nil⟩, fun x hx y hy => by rw [List.mem_singleton.mp hy]; exact fun e => zn (e ▸ hx)⟩, fun y hy => ?_, ?_, ?_⟩
      · rcases List.mem_append.mp hy with hy | hy
        · exact wz y hy
        · rw [List.mem_singleton.mp hy]
          exact zz
      · obtain ⟨x, n, r, cs, e, nl, eL, c1, c2, c3⟩ := hD2
        exact ⟨x, n, r, cs, by rw [upd_ne nwp.symm]; exact e, nl, by rw [upd_ne nwL.symm]; exact eL, c1, c2, by omega⟩
      · exact TabG.keep hT2 (TabG.ne hT2 hl2 fun ps z => by cases z).symm
  · rintro σ X ⟨y4, y5, y13, ws, rfl, hlw, wl, wn, wz, hD, hT⟩
    obtain ⟨w0, w1, w2, w3, rfl⟩ : ∃ w0 w1 w2 w3, ws = [w0, w1, w2, w3] := by
      rcases ws with _ | ⟨w0, _ | ⟨w1, _ | ⟨w2, _ | ⟨w3, _ | ⟨w4, ws⟩⟩⟩⟩⟩ <;> first | exact ⟨_, _, _, _, rfl⟩ | simp at wl
    have wnn : w1 ≠ w0 ∧ w2 ≠ w0 := by
      simp only [List.nodup_cons, List.mem_cons, not_or] at wn
      exact ⟨fun e => wn.1.1 e.symm, fun e => wn.1.2.1 e.symm⟩
    obtain ⟨h10, h20⟩ := wnn
    have z0 := wz w0 (by simp)
    have z1 := wz w1 (by simp)
    have z2 := wz w2 (by simp)
    have z3 := wz w3 (by simp)
    have hD : DiceAt X p L 81 := hD
    clear wn wz wl hD3 hT3 b3 s1
    refine ⟨_, rfl, rfl, _, rfl, ?_⟩
    refine boolB _ (fun nb4 => ?_) (fun b4 => ?_)
    rotate_left
    · -- far chains
      refine ⟨_, rfl, p, L, 2, 81, rfl, by decide, by decide, by decide, hD, fun r H1 r0 r1 b1 hD1 => ?_⟩
      obtain ⟨k, rfl⟩ : ∃ k : Nat, r = (k : Int) := ⟨r.toNat, by omega⟩
      have k2 : k = 0 ∨ k = 1 := by omega
      have hl1 := b1 _ _ nwp hlw
      have t1 := tab_li hD b1 hT
      refine ⟨_, _, rfl, rfl, .inl ⟨by decide, by decide⟩, ?_⟩
      dsimp only
      rw [show (2 : Int) * (k : Int) = ((2 * k : Nat) : Int) by omega]
      refine ⟨_, rfl, _, rfl, _, rfl, p, lw, L, w0, w1, w2, w3, 2 * k, 2500, 7, _, rfl, hl1, nwp, hD1, by decide, fun v' b H2 b2 hD2 hd => ?_⟩
      have t2 := tab_li hD1 b2 t1
      refine fun d0 nd0 => ?_
      have s3 := same_new (o := HO.dK []) nd0
      have cs : costW (2 * k) 2500 + 2500 + 5 ≤ 20000 := by
        rcases k2 with rfl | rfl <;> decide
      have vs : valW (2 * k) 2500 7 = 2507 := by
        have := (valW_sum (2 * k) 7 2500).1 (by omega)
        rw [this]
        rfl
      refine ⟨v', d0, _, _, _, rfl, Dt.keep hd (tups_same s3), chain_ty h10 z0 z1 z2 (by decide) (by decide) (by decide), chain_small.1, chain_small.2, tab_sm s3 t2, upd_same, chain_exact h10 h20 2500 7 (by decide) (by decide) (by decide), cs, fun H4 g => ?_⟩
      rw [vs]
      refine ⟨.int 2507, .int 2507, rfl, .int _, rfl, rfl, by decide, by decide +kernel, rfl, ?_⟩
      have e9 : decide (V.str (PyData.int 2507).shown = V.str (Str.ofString "2507")) = true := by decide +kernel
      rw [e9]
      exact q _
    · -- two chains
      refine ⟨_, rfl, by decide, by decide, ?_⟩
      refine for_range (lo := 0) (n := 2) (fun i σ X => ∃ (y6 y7 y8 y9 y10 : Option V), σ = [some (.ref a), some (.ref p), some (.int br), some (.ref lw), y4, y5, y6, y7, y8, y9, y10, none, none, y13] ∧ X lw = some (.lst [V.str w0, V.str w1, V.str w2, V.str w3]) ∧ DiceAt X p L (81 + 10 * (i : Int)) ∧ GxR.TabG X PT)
        ⟨none, none, none, none, none, rfl, hlw, hD.more (by omega), hT⟩ ?_ ?_
      · clear hD hT hlw
        rintro i σ X hi ⟨y6, y7, y8, y9, y10, rfl, hlw, hD, hT⟩
        refine ⟨_, rfl, p, L, 5, _, rfl, by decide, by decide, by omega, hD, fun wy H1 wy0 wy1 b1 hD1 => ?_⟩
        have hl1 := b1 _ _ nwp hlw
        have t1 := tab_li hD b1 hT
        refine ⟨_, rfl, p, L, 600, _, rfl, by decide, by decide, by omega, hD1, fun mn H2 mn0 mn1 b2 hD2 => ?_⟩
        have hl2 := b2 _ _ nwp hl1
        have t2 := tab_li hD1 b2 t1
        refine ⟨_, rfl, _, _, rfl, rfl, ⟨by decide, by decide, by decide⟩, p, L, _, _, rfl, by decide, by decide, by omega, hD2, fun bg H3 bg0 bg1 b3 hD3 => ?_⟩
        have bg1 : bg < 10 ^ 9 := bg1
        have hl3 := b3 _ _ nwp hl2
        have t3 := tab_li hD2 b3 t2
        obtain ⟨way, rfl⟩ : ∃ k : Nat, wy = (k : Int) := ⟨wy.toNat, by omega⟩
        obtain ⟨many, rfl⟩ : ∃ k : Nat, mn = (k : Int) := ⟨mn.toNat, by omega⟩
        refine nil_k ?_
        refine ⟨_, _, rfl, ?_⟩
        refine ⟨_, rfl, _, rfl, _, rfl, _, rfl, _, rfl, p, lw, L, w0, w1, w2, w3, way, many, bg, _, rfl, hl3, nwp, hD3, by omega, fun v' b H4 b4 hD4 hd => ?_⟩
        have hl4 := b4 _ _ nwp hl3
        have t4 := tab_li hD3 b4 t3
        have mm : many ≤ 3000 := by omega
        have ex := chain_exact (ν := fun _ => none) (b := b) h10 h20 many bg mm bg0 (by omega) (way := way)
        have ty := chain_ty (way := way) (b := b) h10 z0 z1 z2 (many := many) (x := bg) mm bg0 (by omega)
        have vu := val_up way many bg mm
        refine ⟨_, rfl, fun d0 nd0 => ?_⟩
        have s5 := same_new (o := HO.dK []) nd0
        refine ⟨v', d0, _, _, _, rfl, Dt.keep hd (tups_same s5), ty, chain_small.1, chain_small.2, tab_sm s5 t4, upd_same, ex, cost_small way many (by omega), fun H6 g6 => ?_⟩
        have hl6 := g6.lst (tab_sm s5 t4) (s5 _ _ hl4)
        have hD6 := (hD4.same s5).gen g6 (tab_sm s5 t4)
        have hd6 := (Dt.keep hd (tups_same s5)).keep (g6.tups (tab_sm s5 t4))
        have sh := int_shown (x := valW way many bg) (by omega) (by omega)
        have sw := int_showable (x := valW way many bg) (by omega) (by omega)
        refine ⟨_, .int (valW way many bg), rfl, .int _, sw, rfl, by show 0 ≤ 120; decide, sh, ?_⟩
        refine ⟨_, rfl, _, rfl, _, rfl, way, many, bg, rfl, by omega, mm, fun H7 s7 => ?_⟩
        refine ⟨_, .int (valW way many bg), rfl, .int _, sw, rfl, by show 0 ≤ 120; decide, sh, rfl, _, rfl, condF (by rw [str_self]; rfl) ?_⟩
        have hl7 := s7 _ _ hl6
        have hD7 := hD6.same s7
        have t7 := tab_sm s7 g6.g
        have hd7 := hd6.keep (tups_same s7)
        have next : ∀ X', But p X X' → X' lw = some (.lst [V.str w0, V.str w1, V.str w2, V.str w3]) → True := fun _ _ _ => trivial
        clear next
        refine ⟨_, rfl, _, _, rfl, rfl, _, rfl, ?_⟩
        refine boolB _ (fun _ => iteF ⟨_, _, _, _, _, rfl, hl7, hD7.more (by omega), t7⟩) (fun gt => ?_)
        have gt : 9 < many := by
          have := of_decide_eq_true gt
          omega
        refine ⟨_, rfl, fun d1 nd1 => ⟨_, rfl, _, _, rfl, rfl, ⟨by decide, by decide⟩, ?_⟩⟩
        have s8 := same_new (o := HO.dK []) nd1
        refine ⟨v', d1, _, _, _, many / 10, by rw [Int.natCast_ediv]; rfl, Dt.keep hd7 (tups_same s8), ty, chain_small.1, chain_small.2, tab_sm s8 t7, upd_same, ex, cost_big way many gt, by omega, fun q' H9 g9 e9 => ?_⟩
        have hl9 := g9.lst (tab_sm s8 t7) (s8 _ _ hl7)
        have hD9 := (hD7.same s8).gen g9 (tab_sm s8 t7)
        refine ⟨by decide, fun q9 n9 => ?_⟩
        have s9 := same_new (o := HO.tup [.str "many"]) n9
        have da : Dt K (upd H9 q9 (.tup [.str "many"])) (.ref q') (.tuple [.str "many"]) := .tup (.inl (.inl (tups_of (s9 _ _ e9)))) (.cons (.str _) .nil)
        have db : Dt K (upd H9 q9 (.tup [.str "many"])) (.ref q9) (.tuple [.str "many"]) := .tup (.inl (.inl (tups_of upd_same))) (.cons (.str _) .nil)
        have lay : (PyData.tuple [.str "many"]).canLay0 = true := (fit _ (by decide +kernel)).lay
        refine ⟨_, _, da.dp, db.dp, lay, lay, by decide, _, rfl, condF (by rw [SeqAt.eqv_refl _ lay]; rfl) ?_⟩
        exact ⟨_, _, _, _, _, rfl, s9 _ _ hl9, (hD9.same s9).more (by omega), tab_sm s9 g9.g⟩
      · clear hD hT hlw
        rintro σ X ⟨y6, y7, y8, y9, y10, rfl, hlw, hD, hT⟩
        refine ⟨_, rfl, p, L, 4, _, rfl, by decide, by decide, by omega, hD, fun rr H1 r0 r1 b1 hD1 => ?_⟩
        have hl1 := b1 _ _ nwp hlw
        have t1 := tab_li hD b1 hT
        obtain ⟨row, rfl⟩ : ∃ k : Nat, rr = (k : Int) := ⟨rr.toNat, by omega⟩
        have r4 : row < 4 := by omega
        have hv : [V.int 30, V.int 30, V.int 12, V.int 3][row]? = some (V.int (([30, 30, 12, 3].getD row 0 : Nat) : Int)) ∧ 0 < [30, 30, 12, 3].getD row 0 ∧ [30, 30, 12, 3].getD row 0 ≤ 30 := by
          have : row = 0 ∨ row = 1 ∨ row = 2 ∨ row = 3 := by omega
          rcases this with rfl | rfl | rfl | rfl <;> exact ⟨rfl, by decide, by decide⟩
        obtain ⟨hv1, hv2, hv3⟩ := hv
        refine ⟨_, rfl, by decide, fun l4 n4 => ⟨_, rfl, l4, _, row, _, rfl, rfl, .inl (.inl upd_same), atI_nat (j := row) hv1, ?_⟩⟩
        have s2 := same_new (o := HO.lst [V.int 30, V.int 30, V.int 12, V.int 3]) n4
        refine ⟨p, L, _, _, rfl, by omega, by omega, by omega, hD1.same s2, fun nn H3 n0 n1 b3 hD3 => ?_⟩
        have hl3 := b3 _ _ nwp (s2 _ _ hl1)
        have t3 := tab_li (hD1.same s2) b3 (tab_sm s2 t1)
        obtain ⟨n, rfl⟩ : ∃ k : Nat, nn = (k : Int) := ⟨nn.toNat, by omega⟩
        have hn : n < [30, 30, 12, 3].getD row 0 := by omega
        obtain ⟨pr1, pr2, pr3, pr4⟩ := pow_rows r4 hn
        refine ⟨_, rfl, _, rfl, _, rfl, lw, w0, w1, w2, w3, row, n, rfl, hl3, fun v' H4 s4 hd => ?_⟩
        refine fun d0 nd0 => ?_
        have s5 := same_new (o := HO.dK []) nd0
        have t5 := tab_sm s5 (tab_sm s4 t3)
        refine ⟨v', d0, _, _, _, rfl, Dt.keep hd (tups_same s5), ack_ty h10 z0 z1 z2 z3 (by omega) (by omega), ack_small.1, ack_small.2, t5, upd_same, ack_exact h10 row n (by omega) pr4, pr1, fun H6 g6 => ?_⟩
        have sh := int_shown (x := (aVal row n : Int)) (by omega) (by omega)
        have sw := int_showable (x := (aVal row n : Int)) (by omega) (by omega)
        refine ⟨_, .int (aVal row n : Int), rfl, .int _, sw, rfl, by show 0 ≤ 120; decide, sh, ?_⟩
        refine ⟨_, rfl, _, rfl, row, n, rfl, r4, by omega, fun H7 s7 => ?_⟩
        rw [← pr2]
        refine ⟨_, .int (aVal row n : Int), rfl, .int _, sw, rfl, by show 0 ≤ 120; decide, sh, rfl, ?_⟩
        rw [str_self]
        exact q _
end
end Kf
set_option Elab.async false
set_option linter.all false
set_option maxRecDepth 100000
/-! A word that is no key of the table; the look at what is open, far enough. -/
namespace Kf
open PySem PySem.Spec PyProof.Rows L2 Sx
abbrev wordsP : List Str := tabP.map (·.1)
theorem look_none {α β : Type} [BEq α] [LawfulBEq α] : ∀ {l : List (α × β)} {a : α}, l.lookup a = none → ∀ p ∈ l, p.1 ≠ a
  | [], a, _, p, hp => (List.not_mem_nil hp).elim
  | (x, y) :: l, a, h, p, hp => by
    rw [List.lookup_cons] at h
    cases e : a == x with
    | true =>
      rw [e] at h
      cases h
    | false =>
      rw [e] at h
      rcases List.mem_cons.mp hp with rfl | hp
      · intro z
        have z2 : x = a := z
        rw [z2, beq_self_eq_true] at e
        cases e
      · exact look_none h p hp
theorem ns_none {K : PySem.W.Frag} {Pr : Params} {FV : Addr} {es : Array DictEntry} {n : Nat} {wd : Str} (o : K.lookup FV = some ⟨.type "dict", none, .dict es n, #[]⟩) (lit : PySem.W.KeysLit Pr es.toList) (keys : (es.toList.all fun e => wordsP.any fun z => e.key.isStr z) = true) (no : tabP.lookup wd = none) : PySem.W.nsIn K FV wd = some none := by
  have find : es.toList.find? (·.key.isStr wd) = none := by
    rw [List.find?_eq_none]
    intro e he z
    obtain ⟨x, t, ek, _⟩ := lit.all e he
    have k := List.all_eq_true.mp keys e he
    obtain ⟨y, hy, ey⟩ := List.any_eq_true.mp k
    rw [ek] at z ey
    have z2 : (x == wd) = true := z
    have ey2 : (x == y) = true := ey
    have e1 := LawfulBEq.eq_of_beq z2
    have e2 := LawfulBEq.eq_of_beq ey2
    obtain ⟨p, hp, e3⟩ := List.mem_map.mp hy
    exact look_none no p hp (by rw [e3, ← e2, e1])
  have refs : es.toList.any (·.refKey) = false := by
    rw [List.any_eq_false]
    intro e he z
    obtain ⟨x, t, ek, _⟩ := lit.all e he
    unfold DictEntry.refKey at z
    rw [ek] at z
    cases z
  unfold PySem.W.nsIn
  rw [o]
  dsimp only
  rw [find, refs]
  rfl
theorem look_mem {α β : Type} [BEq α] [LawfulBEq α] {l : List (α × β)} {a : α} {b : β} (h : l.lookup a = some b) : (a, b) ∈ l := lookup_mem h
end Kf
set_option Elab.async false
set_option linter.all false
set_option maxRecDepth 100000
set_option maxHeartbeats 8000000
/-! The top, the end. -/
namespace Kf
open PySem PySem.Spec PyProof.Rows L2 Sx RZ _root_.Gd
theorem all_mk {l : PySem.W.OpenLaw} {w : World} {K : PySem.W.Frag} {h : Heap} {mg : Str → Option Value} {fa f1 f2 f3 f4 f5 f6 f7 f8 f9 f10 f11 f12 f13 f14 f15 f16 f17 f18 f19 f20 f21 f22 f23 f24 f25 f26 f27 f28 f29 f30 f31 f32 f33 f34 f35 f36 f37 f38 f39 f40 f41 f42 f43 f44 f45 f46 f47 f48 f49 f50 f51 f52 f53 cw1 PT1 : Addr} (X : K.In h) (G : h.Ns mainGlobals mg) (hfa : mg "law" = some (.ref fa)) (own : ∀ nm ∈ [Str.ofString "is_word"], ∀ fw, mg nm = some (.ref fw) → LamX.OwnTab K fw h)
    {od1 an1 od2 an2 od3 an3 od4 an4 od5 an5 od6 an6 od7 an7 od8 an8 od9 an9 od10 an10 od11 an11 od12 an12 od13 an13 od14 an14 od15 an15 od16 an16 od17 an17 od18 an18 od19 an19 od20 an20 od21 an21 od22 an22 od23 an23 od24 an24 od25 an25 od26 an26 od27 an27 od28 an28 od29 an29 od30 an30 od31 an31 od32 an32 od33 an33 od34 an34 od35 an35 od36 an36 od37 an37 od38 an38 od39 an39 od40 an40 od41 an41 od42 an42 od43 an43 od44 an44 od45 an45 od46 an46 od47 an47 od48 an48 od49 an49 od50 an50 od51 an51 od52 an52 od53 an53 : Option Addr} {sl1 sl2 sl3 sl4 sl5 sl6 sl7 sl8 sl9 sl10 sl11 sl12 sl13 sl14 sl15 sl16 sl17 sl18 sl19 sl20 sl21 sl22 sl23 sl24 sl25 sl26 sl27 sl28 sl29 sl30 sl31 sl32 sl33 sl34 sl35 sl36 sl37 sl38 sl39 sl40 sl41 sl42 sl43 sl44 sl45 sl46 sl47 sl48 sl49 sl50 sl51 sl52 sl53 : Array (Option Value)} {oc1 kV1 dc1 pm1 cd1 ct1 oc2 kV2 dc2 pm2 cd2 ct2 oc3 kV3 dc3 pm3 cd3 ct3 oc4 kV4 dc4 pm4 cd4 ct4 oc5 kV5 dc5 pm5 cd5 ct5 oc6 kV6 dc6 pm6 ct6 oc7 kV7 dc7 pm7 cd7 ct7 oc8 kV8 dc8 pm8 cd8 ct8 oc9 kV9 dc9 pm9 cd9 ct9 oc10 kV10 dc10 pm10 cd10 ct10 oc11 kV11 dc11 pm11 cd11 ct11 oc12 kV12 dc12 pm12 cd12 ct12 oc13 kV13 dc13 pm13 cd13 ct13 oc14 kV14 dc14 pm14 cd14 ct14 oc15 kV15 dc15 pm15 cd15 ct15 oc16 kV16 dc16 pm16 cd16 ct16 oc17 kV17 dc17 pm17 cd17 ct17 oc18 kV18 dc18 pm18 cd18 ct18 oc19 kV19 dc19 pm19 cd19 ct19 oc20 kV20 dc20 pm20 cd20 ct20 oc21 kV21 dc21 pm21 cd21 ct21 oc22 kV22 dc22 pm22 cd22 ct22 oc23 kV23 dc23 pm23 cd23 ct23 oc24 kV24 dc24 pm24 cd24 ct24 oc25 kV25 dc25 pm25 cd25 ct25 oc26 kV26 dc26 pm26 cd26 ct26 oc27 kV27 dc27 pm27 cd27 ct27 oc28 kV28 dc28 pm28 cd28 ct28 oc29 kV29 dc29 pm29 cd29 ct29 oc30 kV30 dc30 pm30 cd30 ct30 oc31 kV31 dc31 pm31 cd31 ct31 oc32 kV32 dc32 pm32 cd32 ct32 oc33 kV33 dc33 pm33 cd33 ct33 oc34 kV34 dc34 pm34 cd34 ct34 oc35 kV35 dc35 pm35 cd35 ct35 oc36 kV36 dc36 pm36 cd36 ct36 oc37 kV37 dc37 pm37 cd37 ct37 oc38 kV38 dc38 pm38 cd38 ct38 oc39 kV39 dc39 pm39 cd39 ct39 oc40 kV40 dc40 pm40 cd40 ct40 oc41 kV41 dc41 pm41 cd41 ct41 oc42 kV42 dc42 pm42 cd42 ct42 oc43 kV43 dc43 pm43 cd43 ct43 oc44 kV44 dc44 pm44 cd44 ct44 oc45 kV45 dc45 pm45 cd45 ct45 oc46 kV46 dc46 pm46 cd46 ct46 oc47 kV47 dc47 pm47 cd47 ct47 oc48 kV48 dc48 pm48 cd48 ct48 oc49 kV49 dc49 pm49 cd49 ct49 oc50 kV50 dc50 pm50 cd50 ct50 oc51 kV51 dc51 pm51 cd51 ct51 oc52 kV52 dc52 pm52 cd52 ct52 oc53 kV53 dc53 pm53 cd53 ct53 : Value}
    {ddC1 : Option Addr} {slC1 : Array (Option Value)} {tf1 tg1 tt1 : Tok} {vs1 : Array Value} {flags1 text1 : Int} {file1 : Str} {inF1 : Bool}
    (a1 : PySem.W.nsIn K mainGlobals "has_form" = some (some (.ref f1))) (l1 : K.lookup f1 = some ⟨oc1, od1, .func (PySem.W.fnOf "has_form" "has_form" (defArgs sForm) (defBody sForm) (defScope sForm) .none kV1 dc1 pm1 an1 cd1 ct1), sl1⟩) (c1 : PySem.W.codeIn K cd1 "has_form" = true) (k1 : PySem.W.keepIn K (.ref f1) = true)
    (a2 : PySem.W.nsIn K mainGlobals "is_kind" = some (some (.ref f2))) (l2 : K.lookup f2 = some ⟨oc2, od2, .func (PySem.W.fnOf "is_kind" "is_kind" (defArgs sIsKind) (defBody sIsKind) (defScope sIsKind) .none kV2 dc2 pm2 an2 cd2 ct2), sl2⟩) (c2 : PySem.W.codeIn K cd2 "is_kind" = true) (k2 : PySem.W.keepIn K (.ref f2) = true)
    (a3 : PySem.W.nsIn K mainGlobals "in_order" = some (some (.ref f3))) (l3 : K.lookup f3 = some ⟨oc3, od3, .func (PySem.W.fnOf "in_order" "in_order" (defArgs sInOrder) (defBody sInOrder) (defScope sInOrder) .none kV3 dc3 pm3 an3 cd3 ct3), sl3⟩) (c3 : PySem.W.codeIn K cd3 "in_order" = true) (k3 : PySem.W.keepIn K (.ref f3) = true)
    (a4 : PySem.W.nsIn K mainGlobals "popped" = some (some (.ref f4))) (l4 : K.lookup f4 = some ⟨oc4, od4, .func (PySem.W.fnOf "popped" "popped" (defArgs sPopped) (defBody sPopped) (defScope sPopped) .none kV4 dc4 pm4 an4 cd4 ct4), sl4⟩) (c4 : PySem.W.codeIn K cd4 "popped" = true) (k4 : PySem.W.keepIn K (.ref f4) = true)
    (a5 : PySem.W.nsIn K mainGlobals "is_whole" = some (some (.ref f5))) (l5 : K.lookup f5 = some ⟨oc5, od5, .func (PySem.W.fnOf "is_whole" "is_whole" (defArgs sWhole) (defBody sWhole) (defScope sWhole) .none kV5 dc5 pm5 an5 cd5 ct5), sl5⟩) (c5 : PySem.W.codeIn K cd5 "is_whole" = true) (k5 : PySem.W.keepIn K (.ref f5) = true)
    (a6 : PySem.W.nsIn K mainGlobals "is_word" = some (some (.ref f6))) (l6 : K.lookup f6 = some ⟨oc6, od6, .func (PySem.W.fnOf "is_word" "is_word" (defArgs sWordQ) (defBody sWordQ) (defScope sWordQ) .none kV6 dc6 pm6 an6 (.ref cw1) ct6), sl6⟩) (c6 : PySem.W.codeIn K (.ref cw1) "is_word" = true) (k6 : PySem.W.keepIn K (.ref f6) = true)
    (a7 : PySem.W.nsIn K mainGlobals "is_part" = some (some (.ref f7))) (l7 : K.lookup f7 = some ⟨oc7, od7, .func (PySem.W.fnOf "is_part" "is_part" (defArgs sPart) (defBody sPart) (defScope sPart) .none kV7 dc7 pm7 an7 cd7 ct7), sl7⟩) (c7 : PySem.W.codeIn K cd7 "is_part" = true) (k7 : PySem.W.keepIn K (.ref f7) = true)
    (a8 : PySem.W.nsIn K mainGlobals "programs_of" = some (some (.ref f8))) (l8 : K.lookup f8 = some ⟨oc8, od8, .func (PySem.W.fnOf "programs_of" "programs_of" (defArgs sProgs) (defBody sProgs) (defScope sProgs) .none kV8 dc8 pm8 an8 cd8 ct8), sl8⟩) (c8 : PySem.W.codeIn K cd8 "programs_of" = true) (k8 : PySem.W.keepIn K (.ref f8) = true)
    (a9 : PySem.W.nsIn K mainGlobals "inner_of" = some (some (.ref f9))) (l9 : K.lookup f9 = some ⟨oc9, od9, .func (PySem.W.fnOf "inner_of" "inner_of" (defArgs sInner) (defBody sInner) (defScope sInner) .none kV9 dc9 pm9 an9 cd9 ct9), sl9⟩) (c9 : PySem.W.codeIn K cd9 "inner_of" = true) (k9 : PySem.W.keepIn K (.ref f9) = true)
    (a10 : PySem.W.nsIn K mainGlobals "made_from" = some (some (.ref f10))) (l10 : K.lookup f10 = some ⟨oc10, od10, .func (PySem.W.fnOf "made_from" "made_from" (defArgs sMade) (defBody sMade) (defScope sMade) .none kV10 dc10 pm10 an10 cd10 ct10), sl10⟩) (c10 : PySem.W.codeIn K cd10 "made_from" = true) (k10 : PySem.W.keepIn K (.ref f10) = true)
    (a11 : PySem.W.nsIn K mainGlobals "kind_nothing" = some (some (.ref f11))) (l11 : K.lookup f11 = some ⟨oc11, od11, .func (PySem.W.fnOf "kind_nothing" "kind_nothing" (defArgs sKNothing) (defBody sKNothing) (defScope sKNothing) .none kV11 dc11 pm11 an11 cd11 ct11), sl11⟩) (c11 : PySem.W.codeIn K cd11 "kind_nothing" = true) (k11 : PySem.W.keepIn K (.ref f11) = true)
    (a12 : PySem.W.nsIn K mainGlobals "kind_number" = some (some (.ref f12))) (l12 : K.lookup f12 = some ⟨oc12, od12, .func (PySem.W.fnOf "kind_number" "kind_number" (defArgs sKNumber) (defBody sKNumber) (defScope sKNumber) .none kV12 dc12 pm12 an12 cd12 ct12), sl12⟩) (c12 : PySem.W.codeIn K cd12 "kind_number" = true) (k12 : PySem.W.keepIn K (.ref f12) = true)
    (a13 : PySem.W.nsIn K mainGlobals "kind_known" = some (some (.ref f13))) (l13 : K.lookup f13 = some ⟨oc13, od13, .func (PySem.W.fnOf "kind_known" "kind_known" (defArgs sKKnown) (defBody sKKnown) (defScope sKKnown) .none kV13 dc13 pm13 an13 cd13 ct13), sl13⟩) (c13 : PySem.W.codeIn K cd13 "kind_known" = true) (k13 : PySem.W.keepIn K (.ref f13) = true)
    (a14 : PySem.W.nsIn K mainGlobals "kind_lets" = some (some (.ref f14))) (l14 : K.lookup f14 = some ⟨oc14, od14, .func (PySem.W.fnOf "kind_lets" "kind_lets" (defArgs sKLets) (defBody sKLets) (defScope sKLets) .none kV14 dc14 pm14 an14 cd14 ct14), sl14⟩) (c14 : PySem.W.codeIn K cd14 "kind_lets" = true) (k14 : PySem.W.keepIn K (.ref f14) = true)
    (a15 : PySem.W.nsIn K mainGlobals "kind_for" = some (some (.ref f15))) (l15 : K.lookup f15 = some ⟨oc15, od15, .func (PySem.W.fnOf "kind_for" "kind_for" (defArgs sKFor) (defBody sKFor) (defScope sKFor) .none kV15 dc15 pm15 an15 cd15 ct15), sl15⟩) (c15 : PySem.W.codeIn K cd15 "kind_for" = true) (k15 : PySem.W.keepIn K (.ref f15) = true)
    (a16 : PySem.W.nsIn K mainGlobals "kind_call" = some (some (.ref f16))) (l16 : K.lookup f16 = some ⟨oc16, od16, .func (PySem.W.fnOf "kind_call" "kind_call" (defArgs sKCall) (defBody sKCall) (defScope sKCall) .none kV16 dc16 pm16 an16 cd16 ct16), sl16⟩) (c16 : PySem.W.codeIn K cd16 "kind_call" = true) (k16 : PySem.W.keepIn K (.ref f16) = true)
    (a17 : PySem.W.nsIn K mainGlobals "kind_pair" = some (some (.ref f17))) (l17 : K.lookup f17 = some ⟨oc17, od17, .func (PySem.W.fnOf "kind_pair" "kind_pair" (defArgs sKPair) (defBody sKPair) (defScope sKPair) .none kV17 dc17 pm17 an17 cd17 ct17), sl17⟩) (c17 : PySem.W.codeIn K cd17 "kind_pair" = true) (k17 : PySem.W.keepIn K (.ref f17) = true)
    (a18 : PySem.W.nsIn K mainGlobals "kind_first" = some (some (.ref f18))) (l18 : K.lookup f18 = some ⟨oc18, od18, .func (PySem.W.fnOf "kind_first" "kind_first" (defArgs sKFirst) (defBody sKFirst) (defScope sKFirst) .none kV18 dc18 pm18 an18 cd18 ct18), sl18⟩) (c18 : PySem.W.codeIn K cd18 "kind_first" = true) (k18 : PySem.W.keepIn K (.ref f18) = true)
    (a19 : PySem.W.nsIn K mainGlobals "kind_second" = some (some (.ref f19))) (l19 : K.lookup f19 = some ⟨oc19, od19, .func (PySem.W.fnOf "kind_second" "kind_second" (defArgs sKSecond) (defBody sKSecond) (defScope sKSecond) .none kV19 dc19 pm19 an19 cd19 ct19), sl19⟩) (c19 : PySem.W.codeIn K cd19 "kind_second" = true) (k19 : PySem.W.keepIn K (.ref f19) = true)
    (a20 : PySem.W.nsIn K mainGlobals "kind_parts" = some (some (.ref f20))) (l20 : K.lookup f20 = some ⟨oc20, od20, .func (PySem.W.fnOf "kind_parts" "kind_parts" (defArgs sKParts) (defBody sKParts) (defScope sKParts) .none kV20 dc20 pm20 an20 cd20 ct20), sl20⟩) (c20 : PySem.W.codeIn K cd20 "kind_parts" = true) (k20 : PySem.W.keepIn K (.ref f20) = true)
    (a21 : PySem.W.nsIn K mainGlobals "kind_this" = some (some (.ref f21))) (l21 : K.lookup f21 = some ⟨oc21, od21, .func (PySem.W.fnOf "kind_this" "kind_this" (defArgs sKThis) (defBody sKThis) (defScope sKThis) .none kV21 dc21 pm21 an21 cd21 ct21), sl21⟩) (c21 : PySem.W.codeIn K cd21 "kind_this" = true) (k21 : PySem.W.keepIn K (.ref f21) = true)
    (a22 : PySem.W.nsIn K mainGlobals "kind_that" = some (some (.ref f22))) (l22 : K.lookup f22 = some ⟨oc22, od22, .func (PySem.W.fnOf "kind_that" "kind_that" (defArgs sKThat) (defBody sKThat) (defScope sKThat) .none kV22 dc22 pm22 an22 cd22 ct22), sl22⟩) (c22 : PySem.W.codeIn K cd22 "kind_that" = true) (k22 : PySem.W.keepIn K (.ref f22) = true)
    (a23 : PySem.W.nsIn K mainGlobals "kind_cases" = some (some (.ref f23))) (l23 : K.lookup f23 = some ⟨oc23, od23, .func (PySem.W.fnOf "kind_cases" "kind_cases" (defArgs sKCases) (defBody sKCases) (defScope sKCases) .none kV23 dc23 pm23 an23 cd23 ct23), sl23⟩) (c23 : PySem.W.codeIn K cd23 "kind_cases" = true) (k23 : PySem.W.keepIn K (.ref f23) = true)
    (a24 : PySem.W.nsIn K mainGlobals "kind_climb" = some (some (.ref f24))) (l24 : K.lookup f24 = some ⟨oc24, od24, .func (PySem.W.fnOf "kind_climb" "kind_climb" (defArgs sKClimb) (defBody sKClimb) (defScope sKClimb) .none kV24 dc24 pm24 an24 cd24 ct24), sl24⟩) (c24 : PySem.W.codeIn K cd24 "kind_climb" = true) (k24 : PySem.W.keepIn K (.ref f24) = true)
    (a25 : PySem.W.nsIn K mainGlobals "closings" = some (some (.ref f25))) (l25 : K.lookup f25 = some ⟨oc25, od25, .func (PySem.W.fnOf "closings" "closings" (defArgs sCl) (defBody sCl) (defScope sCl) .none kV25 dc25 pm25 an25 cd25 ct25), sl25⟩) (c25 : PySem.W.codeIn K cd25 "closings" = true) (k25 : PySem.W.keepIn K (.ref f25) = true)
    (a26 : PySem.W.nsIn K mainGlobals "judged_piece" = some (some (.ref f26))) (l26 : K.lookup f26 = some ⟨oc26, od26, .func (PySem.W.fnOf "judged_piece" "judged_piece" (defArgs sJP) (defBody sJP) (defScope sJP) .none kV26 dc26 pm26 an26 cd26 ct26), sl26⟩) (c26 : PySem.W.codeIn K cd26 "judged_piece" = true) (k26 : PySem.W.keepIn K (.ref f26) = true)
    (a27 : PySem.W.nsIn K mainGlobals "judged" = some (some (.ref f27))) (l27 : K.lookup f27 = some ⟨oc27, od27, .func (PySem.W.fnOf "judged" "judged" (defArgs sJud) (defBody sJud) (defScope sJud) .none kV27 dc27 pm27 an27 cd27 ct27), sl27⟩) (c27 : PySem.W.codeIn K cd27 "judged" = true) (k27 : PySem.W.keepIn K (.ref f27) = true)
    (a28 : PySem.W.nsIn K mainGlobals "has_from" = some (some (.ref f28))) (l28 : K.lookup f28 = some ⟨oc28, od28, .func (PySem.W.fnOf "has_from" "has_from" (defArgs sHF) (defBody sHF) (defScope sHF) .none kV28 dc28 pm28 an28 cd28 ct28), sl28⟩) (c28 : PySem.W.codeIn K cd28 "has_from" = true) (k28 : PySem.W.keepIn K (.ref f28) = true)
    (a29 : PySem.W.nsIn K mainGlobals "end_number" = some (some (.ref f29))) (l29 : K.lookup f29 = some ⟨oc29, od29, .func (PySem.W.fnOf "end_number" "end_number" (defArgs sENum) (defBody sENum) (defScope sENum) .none kV29 dc29 pm29 an29 cd29 ct29), sl29⟩) (c29 : PySem.W.codeIn K cd29 "end_number" = true) (k29 : PySem.W.keepIn K (.ref f29) = true)
    (a30 : PySem.W.nsIn K mainGlobals "end_pair" = some (some (.ref f30))) (l30 : K.lookup f30 = some ⟨oc30, od30, .func (PySem.W.fnOf "end_pair" "end_pair" (defArgs sEPair) (defBody sEPair) (defScope sEPair) .none kV30 dc30 pm30 an30 cd30 ct30), sl30⟩) (c30 : PySem.W.codeIn K cd30 "end_pair" = true) (k30 : PySem.W.keepIn K (.ref f30) = true)
    (a31 : PySem.W.nsIn K mainGlobals "end_half" = some (some (.ref f31))) (l31 : K.lookup f31 = some ⟨oc31, od31, .func (PySem.W.fnOf "end_half" "end_half" (defArgs sEHalf) (defBody sEHalf) (defScope sEHalf) .none kV31 dc31 pm31 an31 cd31 ct31), sl31⟩) (c31 : PySem.W.codeIn K cd31 "end_half" = true) (k31 : PySem.W.keepIn K (.ref f31) = true)
    (a32 : PySem.W.nsIn K mainGlobals "end_side" = some (some (.ref f32))) (l32 : K.lookup f32 = some ⟨oc32, od32, .func (PySem.W.fnOf "end_side" "end_side" (defArgs sESide) (defBody sESide) (defScope sESide) .none kV32 dc32 pm32 an32 cd32 ct32), sl32⟩) (c32 : PySem.W.codeIn K cd32 "end_side" = true) (k32 : PySem.W.keepIn K (.ref f32) = true)
    (a33 : PySem.W.nsIn K mainGlobals "end_call" = some (some (.ref f33))) (l33 : K.lookup f33 = some ⟨oc33, od33, .func (PySem.W.fnOf "end_call" "end_call" (defArgs sECall) (defBody sECall) (defScope sECall) .none kV33 dc33 pm33 an33 cd33 ct33), sl33⟩) (c33 : PySem.W.codeIn K cd33 "end_call" = true) (k33 : PySem.W.keepIn K (.ref f33) = true)
    (a34 : PySem.W.nsIn K mainGlobals "end_parts" = some (some (.ref f34))) (l34 : K.lookup f34 = some ⟨oc34, od34, .func (PySem.W.fnOf "end_parts" "end_parts" (defArgs sEParts) (defBody sEParts) (defScope sEParts) .none kV34 dc34 pm34 an34 cd34 ct34), sl34⟩) (c34 : PySem.W.codeIn K cd34 "end_parts" = true) (k34 : PySem.W.keepIn K (.ref f34) = true)
    (a35 : PySem.W.nsIn K mainGlobals "end_cases" = some (some (.ref f35))) (l35 : K.lookup f35 = some ⟨oc35, od35, .func (PySem.W.fnOf "end_cases" "end_cases" (defArgs sECases) (defBody sECases) (defScope sECases) .none kV35 dc35 pm35 an35 cd35 ct35), sl35⟩) (c35 : PySem.W.codeIn K cd35 "end_cases" = true) (k35 : PySem.W.keepIn K (.ref f35) = true)
    (a36 : PySem.W.nsIn K mainGlobals "end_climb" = some (some (.ref f36))) (l36 : K.lookup f36 = some ⟨oc36, od36, .func (PySem.W.fnOf "end_climb" "end_climb" (defArgs sEClimb) (defBody sEClimb) (defScope sEClimb) .none kV36 dc36 pm36 an36 cd36 ct36), sl36⟩) (c36 : PySem.W.codeIn K cd36 "end_climb" = true) (k36 : PySem.W.keepIn K (.ref f36) = true)
    (a37 : PySem.W.nsIn K mainGlobals "turn" = some (some (.ref f37))) (l37 : K.lookup f37 = some ⟨oc37, od37, .func (PySem.W.fnOf "turn" "turn" (defArgs sTurn) (defBody sTurn) (defScope sTurn) .none kV37 dc37 pm37 an37 cd37 ct37), sl37⟩) (c37 : PySem.W.codeIn K cd37 "turn" = true) (k37 : PySem.W.keepIn K (.ref f37) = true)
    (a38 : PySem.W.nsIn K mainGlobals "first_programs" = some (some (.ref f38))) (l38 : K.lookup f38 = some ⟨oc38, od38, .func (PySem.W.fnOf "first_programs" "first_programs" (defArgs sFP) (defBody sFP) (defScope sFP) .none kV38 dc38 pm38 an38 cd38 ct38), sl38⟩) (c38 : PySem.W.codeIn K cd38 "first_programs" = true) (k38 : PySem.W.keepIn K (.ref f38) = true)
    (a39 : PySem.W.nsIn K mainGlobals "go_into" = some (some (.ref f39))) (l39 : K.lookup f39 = some ⟨oc39, od39, .func (PySem.W.fnOf "go_into" "go_into" (defArgs sGI) (defBody sGI) (defScope sGI) .none kV39 dc39 pm39 an39 cd39 ct39), sl39⟩) (c39 : PySem.W.codeIn K cd39 "go_into" = true) (k39 : PySem.W.keepIn K (.ref f39) = true)
    (a40 : PySem.W.nsIn K mainGlobals "run" = some (some (.ref f40))) (l40 : K.lookup f40 = some ⟨oc40, od40, .func (PySem.W.fnOf "run" "run" (defArgs sRun) (defBody sRun) (defScope sRun) .none kV40 dc40 pm40 an40 cd40 ct40), sl40⟩) (c40 : PySem.W.codeIn K cd40 "run" = true) (k40 : PySem.W.keepIn K (.ref f40) = true)
    (a41 : PySem.W.nsIn K mainGlobals "_law_roll" = some (some (.ref f41))) (l41 : K.lookup f41 = some ⟨oc41, od41, .func (PySem.W.fnOf "_law_roll" "_law_roll" (defArgs sRoll) (defBody sRoll) (defScope sRoll) .none kV41 dc41 pm41 an41 cd41 ct41), sl41⟩) (c41 : PySem.W.codeIn K cd41 "_law_roll" = true) (k41 : PySem.W.keepIn K (.ref f41) = true)
    (a42 : PySem.W.nsIn K mainGlobals "_law_pick" = some (some (.ref f42))) (l42 : K.lookup f42 = some ⟨oc42, od42, .func (PySem.W.fnOf "_law_pick" "_law_pick" (defArgs sPick) (defBody sPick) (defScope sPick) .none kV42 dc42 pm42 an42 cd42 ct42), sl42⟩) (c42 : PySem.W.codeIn K cd42 "_law_pick" = true) (k42 : PySem.W.keepIn K (.ref f42) = true)
    (a43 : PySem.W.nsIn K mainGlobals "_law_word" = some (some (.ref f43))) (l43 : K.lookup f43 = some ⟨oc43, od43, .func (PySem.W.fnOf "_law_word" "_law_word" (defArgs sWord) (defBody sWord) (defScope sWord) .none kV43 dc43 pm43 an43 cd43 ct43), sl43⟩) (c43 : PySem.W.codeIn K cd43 "_law_word" = true) (k43 : PySem.W.keepIn K (.ref f43) = true)
    (a44 : PySem.W.nsIn K mainGlobals "_law_ran" = some (some (.ref f44))) (l44 : K.lookup f44 = some ⟨oc44, od44, .func (PySem.W.fnOf "_law_ran" "_law_ran" (defArgs sRan) (defBody sRan) (defScope sRan) .none kV44 dc44 pm44 an44 cd44 ct44), sl44⟩) (c44 : PySem.W.codeIn K cd44 "_law_ran" = true) (k44 : PySem.W.keepIn K (.ref f44) = true)
    (a45 : PySem.W.nsIn K mainGlobals "_law_round" = some (some (.ref f45))) (l45 : K.lookup f45 = some ⟨oc45, od45, .func (PySem.W.fnOf "_law_round" "_law_round" (defArgs sRd) (defBody sRd) (defScope sRd) .none kV45 dc45 pm45 an45 cd45 ct45), sl45⟩) (c45 : PySem.W.codeIn K cd45 "_law_round" = true) (k45 : PySem.W.keepIn K (.ref f45) = true)
    (a46 : PySem.W.nsIn K mainGlobals "_law_here" = some (some (.ref f46))) (l46 : K.lookup f46 = some ⟨oc46, od46, .func (PySem.W.fnOf "_law_here" "_law_here" (defArgs sHe) (defBody sHe) (defScope sHe) .none kV46 dc46 pm46 an46 cd46 ct46), sl46⟩) (c46 : PySem.W.codeIn K cd46 "_law_here" = true) (k46 : PySem.W.keepIn K (.ref f46) = true)
    (a47 : PySem.W.nsIn K mainGlobals "_law_way" = some (some (.ref f47))) (l47 : K.lookup f47 = some ⟨oc47, od47, .func (PySem.W.fnOf "_law_way" "_law_way" (defArgs sWy) (defBody sWy) (defScope sWy) .none kV47 dc47 pm47 an47 cd47 ct47), sl47⟩) (c47 : PySem.W.codeIn K cd47 "_law_way" = true) (k47 : PySem.W.keepIn K (.ref f47) = true)
    (a48 : PySem.W.nsIn K mainGlobals "_law_chain" = some (some (.ref f48))) (l48 : K.lookup f48 = some ⟨oc48, od48, .func (PySem.W.fnOf "_law_chain" "_law_chain" (defArgs sCn) (defBody sCn) (defScope sCn) .none kV48 dc48 pm48 an48 cd48 ct48), sl48⟩) (c48 : PySem.W.codeIn K cd48 "_law_chain" = true) (k48 : PySem.W.keepIn K (.ref f48) = true)
    (a49 : PySem.W.nsIn K mainGlobals "_law_worth" = some (some (.ref f49))) (l49 : K.lookup f49 = some ⟨oc49, od49, .func (PySem.W.fnOf "_law_worth" "_law_worth" (defArgs sWo) (defBody sWo) (defScope sWo) .none kV49 dc49 pm49 an49 cd49 ct49), sl49⟩) (c49 : PySem.W.codeIn K cd49 "_law_worth" = true) (k49 : PySem.W.keepIn K (.ref f49) = true)
    (a50 : PySem.W.nsIn K mainGlobals "_law_ackermann" = some (some (.ref f50))) (l50 : K.lookup f50 = some ⟨oc50, od50, .func (PySem.W.fnOf "_law_ackermann" "_law_ackermann" (defArgs sAk) (defBody sAk) (defScope sAk) .none kV50 dc50 pm50 an50 cd50 ct50), sl50⟩) (c50 : PySem.W.codeIn K cd50 "_law_ackermann" = true) (k50 : PySem.W.keepIn K (.ref f50) = true)
    (a51 : PySem.W.nsIn K mainGlobals "_law_power" = some (some (.ref f51))) (l51 : K.lookup f51 = some ⟨oc51, od51, .func (PySem.W.fnOf "_law_power" "_law_power" (defArgs sPw) (defBody sPw) (defScope sPw) .none kV51 dc51 pm51 an51 cd51 ct51), sl51⟩) (c51 : PySem.W.codeIn K cd51 "_law_power" = true) (k51 : PySem.W.keepIn K (.ref f51) = true)
    (a52 : PySem.W.nsIn K mainGlobals "_law_limit_right" = some (some (.ref f52))) (l52 : K.lookup f52 = some ⟨oc52, od52, .func (PySem.W.fnOf "_law_limit_right" "_law_limit_right" (defArgs sLi) (defBody sLi) (defScope sLi) .none kV52 dc52 pm52 an52 cd52 ct52), sl52⟩) (c52 : PySem.W.codeIn K cd52 "_law_limit_right" = true) (k52 : PySem.W.keepIn K (.ref f52) = true)
    (a53 : PySem.W.nsIn K mainGlobals "law" = some (some (.ref f53))) (l53 : K.lookup f53 = some ⟨oc53, od53, .func (PySem.W.fnOf "law" "law" (defArgs sLaw) (defBody sLaw) (defScope sLaw) .none kV53 dc53 pm53 an53 cd53 ct53), sl53⟩) (c53 : PySem.W.codeIn K cd53 "law" = true) (k53 : PySem.W.keepIn K (.ref f53) = true)
    (zrange : PySem.W.nsIn K mainGlobals "range" = some none)
    (zlen : PySem.W.nsIn K mainGlobals "len" = some none)
    (zlist : PySem.W.nsIn K mainGlobals "list" = some none)
    (zisinstance : PySem.W.nsIn K mainGlobals "isinstance" = some none)
    (zbool : PySem.W.nsIn K mainGlobals "bool" = some none)
    (zstr : PySem.W.nsIn K mainGlobals "str" = some none)
    (zint : PySem.W.nsIn K mainGlobals "int" = some none)
    (ztuple : PySem.W.nsIn K mainGlobals "tuple" = some none)
    (zrepr : PySem.W.nsIn K mainGlobals "repr" = some none)
    (zall : PySem.W.nsIn K mainGlobals "all" = some none)
    (zzip : PySem.W.nsIn K mainGlobals "zip" = some none)
    (zsorted : PySem.W.nsIn K mainGlobals "sorted" = some none)
    (zdict : PySem.W.nsIn K mainGlobals "dict" = some none)
    (zreversed : PySem.W.nsIn K mainGlobals "reversed" = some none)
    {NO : Addr} {dNO : Option Addr} {sNO : Array (Option Value)} {nNO : Nat} {tNO0 : Tok} (aNO : PySem.W.nsIn K mainGlobals "NONE" = some (some (.ref NO))) (pNO : K.lookup NO = some ⟨.type "tuple", dNO, .seq #[.str "none" tNO0] nNO, sNO⟩)
    {NU : Addr} {dNU : Option Addr} {sNU : Array (Option Value)} {nNU : Nat} {tNU0 : Tok} (aNU : PySem.W.nsIn K mainGlobals "NUMBER" = some (some (.ref NU))) (pNU : K.lookup NU = some ⟨.type "tuple", dNU, .seq #[.str "number" tNU0] nNU, sNU⟩)
    {PA : Addr} {dPA : Option Addr} {sPA : Array (Option Value)} {nPA : Nat} {tPA0 tPA1 tPA2 : Tok} (aPA : PySem.W.nsIn K mainGlobals "PAIRED" = some (some (.ref PA))) (pPA : K.lookup PA = some ⟨.type "tuple", dPA, .seq #[.str "pair" tPA0, .str "from" tPA1, .str "either" tPA2] nPA, sPA⟩)
    {FV ga1 ga2 ga3 ga4 ga5 ga6 ga7 ga8 ga9 ga10 ga11 ga12 ga13 ga14 ga15 ga16 ga17 ga18 : Addr} {da1 da2 da3 da4 da5 da6 da7 da8 da9 da10 da11 da12 da13 da14 da15 da16 da17 da18 : Option Addr} {sa1 sa2 sa3 sa4 sa5 sa6 sa7 sa8 sa9 sa10 sa11 sa12 sa13 sa14 sa15 sa16 sa17 sa18 : Array (Option Value)} {nF na1 na2 na3 na4 na5 na6 na7 na8 na9 na10 na11 na12 na13 na14 na15 na16 na17 na18 : Nat} { tp2_0 tp3_0 tp4_0 tp5_0 tp5_1 tp6_0 tp6_1 tp7_0 tp7_1 tp8_0 tp8_1 tp8_2 tp9_0 tp9_1 tp10_0 tp10_1 tp11_0 tp11_1 tp12_0 tp13_0 tp14_0 tp14_1 tp14_2 tp14_3 tp15_0 tp15_1 tp16_0 tp16_1 tp17_0 tp17_1 tp17_2 tp17_3 tp17_4 tp18_0 tp18_1 tp18_2 tp18_3 tp18_4 : Tok} {es : Array DictEntry} (aF : PySem.W.nsIn K mainGlobals "PARTS" = some (some (.ref FV))) (oF : K.lookup FV = some ⟨.type "dict", none, .dict es nF, #[]⟩) (litF : PySem.W.KeysLit w.params es.toList) (lowF : (FV == sysModules) = false) (keysF : (es.toList.all fun e => wordsP.any fun z => e.key.isStr z) = true)
    (n1 : PySem.W.nsIn K FV "nothing" = some (some (.ref ga1))) (p1 : K.lookup ga1 = some ⟨.type "tuple", da1, .seq #[] na1, sa1⟩)
    (n2 : PySem.W.nsIn K FV "num" = some (some (.ref ga2))) (p2 : K.lookup ga2 = some ⟨.type "tuple", da2, .seq #[.str "number" tp2_0] na2, sa2⟩)
    (n3 : PySem.W.nsIn K FV "name" = some (some (.ref ga3))) (p3 : K.lookup ga3 = some ⟨.type "tuple", da3, .seq #[.str "name" tp3_0] na3, sa3⟩)
    (n4 : PySem.W.nsIn K FV "next" = some (some (.ref ga4))) (p4 : K.lookup ga4 = some ⟨.type "tuple", da4, .seq #[.str "program" tp4_0] na4, sa4⟩)
    (n5 : PySem.W.nsIn K FV "plus" = some (some (.ref ga5))) (p5 : K.lookup ga5 = some ⟨.type "tuple", da5, .seq #[.str "program" tp5_0, .str "program" tp5_1] na5, sa5⟩)
    (n6 : PySem.W.nsIn K FV "times" = some (some (.ref ga6))) (p6 : K.lookup ga6 = some ⟨.type "tuple", da6, .seq #[.str "program" tp6_0, .str "program" tp6_1] na6, sa6⟩)
    (n7 : PySem.W.nsIn K FV "known" = some (some (.ref ga7))) (p7 : K.lookup ga7 = some ⟨.type "tuple", da7, .seq #[.str "label" tp7_0, .str "kind" tp7_1] na7, sa7⟩)
    (n8 : PySem.W.nsIn K FV "lets" = some (some (.ref ga8))) (p8 : K.lookup ga8 = some ⟨.type "tuple", da8, .seq #[.str "label" tp8_0, .str "kind" tp8_1, .str "program" tp8_2] na8, sa8⟩)
    (n9 : PySem.W.nsIn K FV "for" = some (some (.ref ga9))) (p9 : K.lookup ga9 = some ⟨.type "tuple", da9, .seq #[.str "name" tp9_0, .str "program" tp9_1] na9, sa9⟩)
    (n10 : PySem.W.nsIn K FV "call" = some (some (.ref ga10))) (p10 : K.lookup ga10 = some ⟨.type "tuple", da10, .seq #[.str "program" tp10_0, .str "program" tp10_1] na10, sa10⟩)
    (n11 : PySem.W.nsIn K FV "pair" = some (some (.ref ga11))) (p11 : K.lookup ga11 = some ⟨.type "tuple", da11, .seq #[.str "program" tp11_0, .str "program" tp11_1] na11, sa11⟩)
    (n12 : PySem.W.nsIn K FV "first" = some (some (.ref ga12))) (p12 : K.lookup ga12 = some ⟨.type "tuple", da12, .seq #[.str "program" tp12_0] na12, sa12⟩)
    (n13 : PySem.W.nsIn K FV "second" = some (some (.ref ga13))) (p13 : K.lookup ga13 = some ⟨.type "tuple", da13, .seq #[.str "program" tp13_0] na13, sa13⟩)
    (n14 : PySem.W.nsIn K FV "parts" = some (some (.ref ga14))) (p14 : K.lookup ga14 = some ⟨.type "tuple", da14, .seq #[.str "program" tp14_0, .str "name" tp14_1, .str "label" tp14_2, .str "program" tp14_3] na14, sa14⟩)
    (n15 : PySem.W.nsIn K FV "this" = some (some (.ref ga15))) (p15 : K.lookup ga15 = some ⟨.type "tuple", da15, .seq #[.str "program" tp15_0, .str "kind" tp15_1] na15, sa15⟩)
    (n16 : PySem.W.nsIn K FV "that" = some (some (.ref ga16))) (p16 : K.lookup ga16 = some ⟨.type "tuple", da16, .seq #[.str "kind" tp16_0, .str "program" tp16_1] na16, sa16⟩)
    (n17 : PySem.W.nsIn K FV "cases" = some (some (.ref ga17))) (p17 : K.lookup ga17 = some ⟨.type "tuple", da17, .seq #[.str "program" tp17_0, .str "label" tp17_1, .str "program" tp17_2, .str "label" tp17_3, .str "program" tp17_4] na17, sa17⟩)
    (n18 : PySem.W.nsIn K FV "climb" = some (some (.ref ga18))) (p18 : K.lookup ga18 = some ⟨.type "tuple", da18, .seq #[.str "program" tp18_0, .str "name" tp18_1, .str "label" tp18_2, .str "program" tp18_3, .str "program" tp18_4] na18, sa18⟩)
    {KV : Addr} {nK : Nat} {eK : Array DictEntry} (aK : PySem.W.nsIn K mainGlobals "KIND_OF" = some (some (.ref KV))) (oK : K.lookup KV = some ⟨.type "dict", none, .dict eK nK, #[]⟩) (litK : PySem.W.KeysLit w.params eK.toList) (lowK : (KV == sysModules) = false)
    (o1 : PySem.W.nsIn K KV "nothing" = some (some (.ref f11)))
    (o2 : PySem.W.nsIn K KV "num" = some (some (.ref f12)))
    (o3 : PySem.W.nsIn K KV "name" = some (some (.ref f12)))
    (o4 : PySem.W.nsIn K KV "next" = some (some (.ref f12)))
    (o5 : PySem.W.nsIn K KV "plus" = some (some (.ref f12)))
    (o6 : PySem.W.nsIn K KV "times" = some (some (.ref f12)))
    (o7 : PySem.W.nsIn K KV "known" = some (some (.ref f13)))
    (o8 : PySem.W.nsIn K KV "lets" = some (some (.ref f14)))
    (o9 : PySem.W.nsIn K KV "for" = some (some (.ref f15)))
    (o10 : PySem.W.nsIn K KV "call" = some (some (.ref f16)))
    (o11 : PySem.W.nsIn K KV "pair" = some (some (.ref f17)))
    (o12 : PySem.W.nsIn K KV "first" = some (some (.ref f18)))
    (o13 : PySem.W.nsIn K KV "second" = some (some (.ref f19)))
    (o14 : PySem.W.nsIn K KV "parts" = some (some (.ref f20)))
    (o15 : PySem.W.nsIn K KV "this" = some (some (.ref f21)))
    (o16 : PySem.W.nsIn K KV "that" = some (some (.ref f22)))
    (o17 : PySem.W.nsIn K KV "cases" = some (some (.ref f23)))
    (o18 : PySem.W.nsIn K KV "climb" = some (some (.ref f24)))
    {EV : Addr} {nE : Nat} {eE : Array DictEntry} (aE : PySem.W.nsIn K mainGlobals "ENDS" = some (some (.ref EV))) (oE : K.lookup EV = some ⟨.type "dict", none, .dict eE nE, #[]⟩) (litE : PySem.W.KeysLit w.params eE.toList) (lowE : (EV == sysModules) = false)
    (en1 : PySem.W.nsIn K EV "next" = some (some (.ref f29)))
    (en2 : PySem.W.nsIn K EV "plus" = some (some (.ref f29)))
    (en3 : PySem.W.nsIn K EV "times" = some (some (.ref f29)))
    (en4 : PySem.W.nsIn K EV "call" = some (some (.ref f33)))
    (en5 : PySem.W.nsIn K EV "pair" = some (some (.ref f30)))
    (en6 : PySem.W.nsIn K EV "first" = some (some (.ref f31)))
    (en7 : PySem.W.nsIn K EV "second" = some (some (.ref f31)))
    (en8 : PySem.W.nsIn K EV "parts" = some (some (.ref f34)))
    (en9 : PySem.W.nsIn K EV "this" = some (some (.ref f32)))
    (en10 : PySem.W.nsIn K EV "that" = some (some (.ref f32)))
    (en11 : PySem.W.nsIn K EV "cases" = some (some (.ref f35)))
    (en12 : PySem.W.nsIn K EV "climb" = some (some (.ref f36)))
    {gN gK gP gW gM : Int} {tG tT tM tP tW tK : Tok} (aG : PySem.W.nsIn K mainGlobals "TOO_GREAT" = some (some (.int gN tG))) (eG : gN = 10 ^ 60) (aT : PySem.W.nsIn K mainGlobals "LETTERS" = some (some (.str abc tT))) (aM : PySem.W.nsIn K mainGlobals "MOST_LETTERS" = some (some (.int gM tM))) (eM : gM = 8) (aP : PySem.W.nsIn K mainGlobals "MOST_PIECES" = some (some (.int gP tP))) (eP : gP = 12000) (aW : PySem.W.nsIn K mainGlobals "MOST_WITHIN_programs" = some (some (.int gW tW))) (eW : gW = 250) (aMK : PySem.W.nsIn K mainGlobals "MOST_WITHIN_kinds" = some (some (.int gK tK))) (eMK : gK = 100)
    {NP fI : Addr} {odI anI : Option Addr} {slI : Array (Option Value)} {ocI kVI dcI pmI cdI ctI : Value} (aNP : PySem.W.nsIn K mainGlobals "NoProgram" = some (some (.ref NP))) (hNP : OexC K NP) (nNP : PySem.W.findIn K (.ref NP) "place" = some none) (iNP : PySem.W.findIn K (.ref NP) "__init__" = some (some (.ref fI))) (tI : PySem.W.typeIn K (.ref fI) = some (.type "function"))
    (lI : K.lookup fI = some ⟨ocI, odI, .func (PySem.W.fnOf "__init__" "NoProgram.__init__" (defArgs sIniP) (defBody sIniP) (defScope sIniP) .none kVI dcI pmI anI cdI ctI), slI⟩) (cI : PySem.W.codeIn K cdI "NoProgram.__init__" = true) (kI : PySem.W.keepIn K (.ref fI) = true)
    {SV : Addr} {sg1 sg2 sg3 : Addr} {so1 sn1 so2 sn2 so3 sn3 : Option Addr} {ss1 ss2 ss3 : Array (Option Value)} {sc1 sk1 sd1 sp1 se1 st1 sc2 sk2 sd2 sp2 se2 st2 sc3 sk3 sd3 sp3 se3 st3 : Value} (sa : PySem.W.nsIn K mainGlobals "Scope" = some (some (.ref SV)))
    (sfa1 : PySem.W.findIn K (.ref SV) "__init__" = some (some (.ref sg1))) (sfi1 : PySem.W.isFn K (.ref sg1) = true) (sfl1 : K.lookup sg1 = some ⟨sc1, so1, .func (PySem.W.fnOf "__init__" "Scope.__init__" (defArgs sScI) (defBody sScI) (defScope sScI) .none sk1 sd1 sp1 sn1 se1 st1), ss1⟩) (sfc1 : PySem.W.codeIn K se1 "Scope.__init__" = true) (sfk1 : PySem.W.keepIn K (.ref sg1) = true)
    (sfa2 : PySem.W.findIn K (.ref SV) "with_name" = some (some (.ref sg2))) (sfi2 : PySem.W.isFn K (.ref sg2) = true) (sfl2 : K.lookup sg2 = some ⟨sc2, so2, .func (PySem.W.fnOf "with_name" "Scope.with_name" (defArgs sWiN) (defBody sWiN) (defScope sWiN) .none sk2 sd2 sp2 sn2 se2 st2), ss2⟩) (sfc2 : PySem.W.codeIn K se2 "Scope.with_name" = true) (sfk2 : PySem.W.keepIn K (.ref sg2) = true)
    (sfa3 : PySem.W.findIn K (.ref SV) "with_label" = some (some (.ref sg3))) (sfi3 : PySem.W.isFn K (.ref sg3) = true) (sfl3 : K.lookup sg3 = some ⟨sc3, so3, .func (PySem.W.fnOf "with_label" "Scope.with_label" (defArgs sWiL) (defBody sWiL) (defScope sWiL) .none sk3 sd3 sp3 sn3 se3 st3), ss3⟩) (sfc3 : PySem.W.codeIn K se3 "Scope.with_label" = true) (sfk3 : PySem.W.keepIn K (.ref sg3) = true)
    (spg : PySem.W.plainGet K SV Str.empty = true) (shd : PySem.W.hasDictIn K SV = true) (spo : PySem.W.plainOver K SV = true) (ssa : PySem.W.findIn K (.ref SV) "__setattr__" = some (some (.builtin "object.__setattr__"))) (smk : PySem.W.makesIn K SV = true) (skc : PySem.W.keepIn K (.ref SV) = true) (sf_1 : PySem.W.findIn K (.ref SV) "named" = some none) (sf_2 : PySem.W.findIn K (.ref SV) "known" = some none)
    {MV : Addr} {mg1 mg2 mg3 mg4 mg5 mg6 : Addr} {mo1 mn1 mo2 mn2 mo3 mn3 mo4 mn4 mo5 mn5 mo6 mn6 : Option Addr} {ms1 ms2 ms3 ms4 ms5 ms6 : Array (Option Value)} {mc1 mk1 md1 mp1 me1 mt1 mc2 mk2 md2 mp2 me2 mt2 mc3 mk3 md3 mp3 me3 mt3 mc4 mk4 md4 mp4 me4 mt4 mc5 mk5 md5 mp5 me5 mt5 mc6 mk6 md6 mp6 me6 mt6 : Value} (ma : PySem.W.nsIn K mainGlobals "Machine" = some (some (.ref MV)))
    (mfa1 : PySem.W.findIn K (.ref MV) "__init__" = some (some (.ref mg1))) (mfi1 : PySem.W.isFn K (.ref mg1) = true) (mfl1 : K.lookup mg1 = some ⟨mc1, mo1, .func (PySem.W.fnOf "__init__" "Machine.__init__" (defArgs sMaI) (defBody sMaI) (defScope sMaI) .none mk1 md1 mp1 mn1 me1 mt1), ms1⟩) (mfc1 : PySem.W.codeIn K me1 "Machine.__init__" = true) (mfk1 : PySem.W.keepIn K (.ref mg1) = true)
    (mfa2 : PySem.W.findIn K (.ref MV) "into" = some (some (.ref mg2))) (mfi2 : PySem.W.isFn K (.ref mg2) = true) (mfl2 : K.lookup mg2 = some ⟨mc2, mo2, .func (PySem.W.fnOf "into" "Machine.into" (defArgs sInto) (defBody sInto) (defScope sInto) .none mk2 md2 mp2 mn2 me2 mt2), ms2⟩) (mfc2 : PySem.W.codeIn K me2 "Machine.into" = true) (mfk2 : PySem.W.keepIn K (.ref mg2) = true)
    (mfa3 : PySem.W.findIn K (.ref MV) "behind" = some (some (.ref mg3))) (mfi3 : PySem.W.isFn K (.ref mg3) = true) (mfl3 : K.lookup mg3 = some ⟨mc3, mo3, .func (PySem.W.fnOf "behind" "Machine.behind" (defArgs sBehind) (defBody sBehind) (defScope sBehind) .none mk3 md3 mp3 mn3 me3 mt3), ms3⟩) (mfc3 : PySem.W.codeIn K me3 "Machine.behind" = true) (mfk3 : PySem.W.keepIn K (.ref mg3) = true)
    (mfa4 : PySem.W.findIn K (.ref MV) "step" = some (some (.ref mg4))) (mfi4 : PySem.W.isFn K (.ref mg4) = true) (mfl4 : K.lookup mg4 = some ⟨mc4, mo4, .func (PySem.W.fnOf "step" "Machine.step" (defArgs sStep) (defBody sStep) (defScope sStep) .none mk4 md4 mp4 mn4 me4 mt4), ms4⟩) (mfc4 : PySem.W.codeIn K me4 "Machine.step" = true) (mfk4 : PySem.W.keepIn K (.ref mg4) = true)
    (mfa5 : PySem.W.findIn K (.ref MV) "tell" = some (some (.ref mg5))) (mfi5 : PySem.W.isFn K (.ref mg5) = true) (mfl5 : K.lookup mg5 = some ⟨mc5, mo5, .func (PySem.W.fnOf "tell" "Machine.tell" (defArgs sTold) (defBody sTold) (defScope sTold) .none mk5 md5 mp5 mn5 me5 mt5), ms5⟩) (mfc5 : PySem.W.codeIn K me5 "Machine.tell" = true) (mfk5 : PySem.W.keepIn K (.ref mg5) = true)
    (mfa6 : PySem.W.findIn K (.ref MV) "tell_number" = some (some (.ref mg6))) (mfi6 : PySem.W.isFn K (.ref mg6) = true) (mfl6 : K.lookup mg6 = some ⟨mc6, mo6, .func (PySem.W.fnOf "tell_number" "Machine.tell_number" (defArgs sTelN) (defBody sTelN) (defScope sTelN) .none mk6 md6 mp6 mn6 me6 mt6), ms6⟩) (mfc6 : PySem.W.codeIn K me6 "Machine.tell_number" = true) (mfk6 : PySem.W.keepIn K (.ref mg6) = true)
    (mpg : PySem.W.plainGet K MV Str.empty = true) (mhd : PySem.W.hasDictIn K MV = true) (mpo : PySem.W.plainOver K MV = true) (msa : PySem.W.findIn K (.ref MV) "__setattr__" = some (some (.builtin "object.__setattr__"))) (mmk : PySem.W.makesIn K MV = true) (mkc : PySem.W.keepIn K (.ref MV) = true) (mf_1 : PySem.W.findIn K (.ref MV) "numbers" = some none) (mf_2 : PySem.W.findIn K (.ref MV) "left" = some none) (mf_3 : PySem.W.findIn K (.ref MV) "todo" = some none) (mf_4 : PySem.W.findIn K (.ref MV) "done" = some none)
    {TM GE : Addr} (aTM : PySem.W.nsIn K mainGlobals "TooMany" = some (some (.ref TM))) (kTM : PySem.W.keepIn K (.ref TM) = true) (xTM : PySem.W.excIn K TM [.type "ValueError", .type "Exception", .type "BaseException", .type "object"] "ValueError.__new__" = true) (sTM : PySem.W.subIn K (.ref TM) (.type "BaseException") = some true) (yTM : PySem.W.typeIn K (.ref TM) = some (.type "type"))
    (aGE : PySem.W.nsIn K mainGlobals "GroundError" = some (some (.ref GE))) (uTM : PySem.W.exmOne K (.ref TM) (.ref GE) = some true)
    (e1 : PySem.W.findIn K (.ref TM) "__getattribute__" = some (some (.builtin "BaseException.__getattribute__"))) (e2 : PySem.W.findIn K (.ref TM) "__getattr__" = some none) (e3 : PySem.W.hasDictIn K TM = true) (e4 : PySem.W.findIn K (.ref TM) "__class__" = some (some (.builtin "object.__class__"))) (e7 : PySem.W.mroIn K TM (.type "object") = some true)
    (q5 : PySem.W.specialIn K (.builtin "object.__class__") "__get__" = some (some (.builtin "getset_descriptor.__get__"))) (q6 : PySem.W.takesIn K (.builtin "object.__class__") = some true) (tTM : PySem.W.kitOne K (.ref TM) (.ref TM) = some true)
    {KD : Addr} {tLim : Tok} (eKD : kV40 = .ref KD) (nKD : PySem.W.nsIn K KD "limit" = some (some (.int 20000 tLim))) (uTT : PySem.W.exmOne K (.ref TM) (.ref TM) = some true)
    (lC1 : K.lookup cw1 = some ⟨.type "code", ddC1, .fields vs1, slC1⟩) (v111 : vs1[11]? = some (.ref PT1)) (g111 : vs1.getD 11 .none = .ref PT1) (g181 : vs1.getD 18 .none = .str file1 tf1) (g71 : vs1.getD 7 .none = .int flags1 tg1) (g91 : vs1.getD 9 .none = .bool inF1) (g101 : vs1.getD 10 .none = .int text1 tt1) (ncp1 : cw1 ≠ PT1) (nPT1 : K.lookup PT1 = none) :
    LawG l w K 9 63 "script" mg fa h := by
  have e := hfa.symm.trans (PySem.W.mg_of X G a53)
  cases e
  have F1 := fun_mk (st := sForm) l1 c1 k1
  have b1 := F1.binds (ps := ["piece"]) fun _ _ _ _ _ _ us hl => match us, hl with | [_], _ => rfl
  have m1 := PySem.W.mg_of X G a1
  have F2 := fun_mk (st := sIsKind) l2 c2 k2
  have b2 := F2.binds (ps := ["thing"]) fun _ _ _ _ _ _ us hl => match us, hl with | [_], _ => rfl
  have m2 := PySem.W.mg_of X G a2
  have F3 := fun_mk (st := sInOrder) l3 c3 k3
  have b3 := F3.binds (ps := ["thing", "inner_of", "most_pieces", "most_within"]) fun _ _ _ _ _ _ us hl => match us, hl with | [_, _, _, _], _ => rfl
  have m3 := PySem.W.mg_of X G a3
  have F4 := fun_mk (st := sPopped) l4 c4 k4
  have b4 := F4.binds (ps := ["done", "many"]) fun _ _ _ _ _ _ us hl => match us, hl with | [_, _], _ => rfl
  have m4 := PySem.W.mg_of X G a4
  have F5 := fun_mk (st := sWhole) l5 c5 k5
  have b5 := F5.binds (ps := ["thing"]) fun _ _ _ _ _ _ us hl => match us, hl with | [_], _ => rfl
  have m5 := PySem.W.mg_of X G a5
  have F6 := fun_mk (st := sWordQ) l6 c6 k6
  have b6 := F6.binds (ps := ["thing"]) fun _ _ _ _ _ _ us hl => match us, hl with | [_], _ => rfl
  have m6 := PySem.W.mg_of X G a6
  have F7 := fun_mk (st := sPart) l7 c7 k7
  have b7 := F7.binds (ps := ["part", "what"]) fun _ _ _ _ _ _ us hl => match us, hl with | [_, _], _ => rfl
  have m7 := PySem.W.mg_of X G a7
  have F8 := fun_mk (st := sProgs) l8 c8 k8
  have b8 := F8.binds (ps := ["program"]) fun _ _ _ _ _ _ us hl => match us, hl with | [_], _ => rfl
  have m8 := PySem.W.mg_of X G a8
  have F9 := fun_mk (st := sInner) l9 c9 k9
  have b9 := F9.binds (ps := ["thing"]) fun _ _ _ _ _ _ us hl => match us, hl with | [_], _ => rfl
  have m9 := PySem.W.mg_of X G a9
  have F10 := fun_mk (st := sMade) l10 c10 k10
  have b10 := F10.binds (ps := ["kind", "other"]) fun _ _ _ _ _ _ us hl => match us, hl with | [_, _], _ => rfl
  have m10 := PySem.W.mg_of X G a10
  have F11 := fun_mk (st := sKNothing) l11 c11 k11
  have b11 := F11.binds (ps := ["_", "kinds"]) fun _ _ _ _ _ _ us hl => match us, hl with | [_, _], _ => rfl
  have m11 := PySem.W.mg_of X G a11
  have F12 := fun_mk (st := sKNumber) l12 c12 k12
  have b12 := F12.binds (ps := ["_", "kinds"]) fun _ _ _ _ _ _ us hl => match us, hl with | [_, _], _ => rfl
  have m12 := PySem.W.mg_of X G a12
  have F13 := fun_mk (st := sKKnown) l13 c13 k13
  have b13 := F13.binds (ps := ["piece", "_"]) fun _ _ _ _ _ _ us hl => match us, hl with | [_, _], _ => rfl
  have m13 := PySem.W.mg_of X G a13
  have F14 := fun_mk (st := sKLets) l14 c14 k14
  have b14 := F14.binds (ps := ["piece", "kinds"]) fun _ _ _ _ _ _ us hl => match us, hl with | [_, _], _ => rfl
  have m14 := PySem.W.mg_of X G a14
  have F15 := fun_mk (st := sKFor) l15 c15 k15
  have b15 := F15.binds (ps := ["_", "kinds"]) fun _ _ _ _ _ _ us hl => match us, hl with | [_, _], _ => rfl
  have m15 := PySem.W.mg_of X G a15
  have F16 := fun_mk (st := sKCall) l16 c16 k16
  have b16 := F16.binds (ps := ["_", "kinds"]) fun _ _ _ _ _ _ us hl => match us, hl with | [_, _], _ => rfl
  have m16 := PySem.W.mg_of X G a16
  have F17 := fun_mk (st := sKPair) l17 c17 k17
  have b17 := F17.binds (ps := ["_", "kinds"]) fun _ _ _ _ _ _ us hl => match us, hl with | [_, _], _ => rfl
  have m17 := PySem.W.mg_of X G a17
  have F18 := fun_mk (st := sKFirst) l18 c18 k18
  have b18 := F18.binds (ps := ["_", "kinds"]) fun _ _ _ _ _ _ us hl => match us, hl with | [_, _], _ => rfl
  have m18 := PySem.W.mg_of X G a18
  have F19 := fun_mk (st := sKSecond) l19 c19 k19
  have b19 := F19.binds (ps := ["_", "kinds"]) fun _ _ _ _ _ _ us hl => match us, hl with | [_, _], _ => rfl
  have m19 := PySem.W.mg_of X G a19
  have F20 := fun_mk (st := sKParts) l20 c20 k20
  have b20 := F20.binds (ps := ["_", "kinds"]) fun _ _ _ _ _ _ us hl => match us, hl with | [_, _], _ => rfl
  have m20 := PySem.W.mg_of X G a20
  have F21 := fun_mk (st := sKThis) l21 c21 k21
  have b21 := F21.binds (ps := ["piece", "kinds"]) fun _ _ _ _ _ _ us hl => match us, hl with | [_, _], _ => rfl
  have m21 := PySem.W.mg_of X G a21
  have F22 := fun_mk (st := sKThat) l22 c22 k22
  have b22 := F22.binds (ps := ["piece", "kinds"]) fun _ _ _ _ _ _ us hl => match us, hl with | [_, _], _ => rfl
  have m22 := PySem.W.mg_of X G a22
  have F23 := fun_mk (st := sKCases) l23 c23 k23
  have b23 := F23.binds (ps := ["_", "kinds"]) fun _ _ _ _ _ _ us hl => match us, hl with | [_, _], _ => rfl
  have m23 := PySem.W.mg_of X G a23
  have F24 := fun_mk (st := sKClimb) l24 c24 k24
  have b24 := F24.binds (ps := ["_", "kinds"]) fun _ _ _ _ _ _ us hl => match us, hl with | [_, _], _ => rfl
  have m24 := PySem.W.mg_of X G a24
  have F25 := fun_mk (st := sCl) l25 c25 k25
  have b25 := F25.binds (ps := ["piece", "kinds"]) fun _ _ _ _ _ _ us hl => match us, hl with | [_, _], _ => rfl
  have m25 := PySem.W.mg_of X G a25
  have F26 := fun_mk (st := sJP) l26 c26 k26
  have b26 := F26.binds (ps := ["piece", "place", "inner"]) fun _ _ _ _ _ _ us hl => match us, hl with | [_, _, _], _ => rfl
  have m26 := PySem.W.mg_of X G a26
  have F27 := fun_mk (st := sJud) l27 c27 k27
  have b27 := F27.binds (ps := ["thing"]) fun _ _ _ _ _ _ us hl => match us, hl with | [_], _ => rfl
  have m27 := PySem.W.mg_of X G a27
  have F28 := fun_mk (st := sHF) l28 c28 k28
  have b28 := F28.binds (ps := ["kind"]) fun _ _ _ _ _ _ us hl => match us, hl with | [_], _ => rfl
  have m28 := PySem.W.mg_of X G a28
  have F29 := fun_mk (st := sENum) l29 c29 k29
  have b29 := F29.binds (ps := ["machine", "piece", "_"]) fun _ _ _ _ _ _ us hl => match us, hl with | [_, _, _], _ => rfl
  have m29 := PySem.W.mg_of X G a29
  have F30 := fun_mk (st := sEPair) l30 c30 k30
  have b30 := F30.binds (ps := ["machine", "_", "scope"]) fun _ _ _ _ _ _ us hl => match us, hl with | [_, _, _], _ => rfl
  have m30 := PySem.W.mg_of X G a30
  have F31 := fun_mk (st := sEHalf) l31 c31 k31
  have b31 := F31.binds (ps := ["machine", "piece", "_"]) fun _ _ _ _ _ _ us hl => match us, hl with | [_, _, _], _ => rfl
  have m31 := PySem.W.mg_of X G a31
  have F32 := fun_mk (st := sESide) l32 c32 k32
  have b32 := F32.binds (ps := ["machine", "piece", "_"]) fun _ _ _ _ _ _ us hl => match us, hl with | [_, _, _], _ => rfl
  have m32 := PySem.W.mg_of X G a32
  have F33 := fun_mk (st := sECall) l33 c33 k33
  have b33 := F33.binds (ps := ["machine", "_", "scope"]) fun _ _ _ _ _ _ us hl => match us, hl with | [_, _, _], _ => rfl
  have m33 := PySem.W.mg_of X G a33
  have F34 := fun_mk (st := sEParts) l34 c34 k34
  have b34 := F34.binds (ps := ["machine", "piece", "scope"]) fun _ _ _ _ _ _ us hl => match us, hl with | [_, _, _], _ => rfl
  have m34 := PySem.W.mg_of X G a34
  have F35 := fun_mk (st := sECases) l35 c35 k35
  have b35 := F35.binds (ps := ["machine", "piece", "scope"]) fun _ _ _ _ _ _ us hl => match us, hl with | [_, _, _], _ => rfl
  have m35 := PySem.W.mg_of X G a35
  have F36 := fun_mk (st := sEClimb) l36 c36 k36
  have b36 := F36.binds (ps := ["machine", "piece", "scope"]) fun _ _ _ _ _ _ us hl => match us, hl with | [_, _, _], _ => rfl
  have m36 := PySem.W.mg_of X G a36
  have F37 := fun_mk (st := sTurn) l37 c37 k37
  have b37 := F37.binds (ps := ["machine", "piece", "held"]) fun _ _ _ _ _ _ us hl => match us, hl with | [_, _, _], _ => rfl
  have m37 := PySem.W.mg_of X G a37
  have F38 := fun_mk (st := sFP) l38 c38 k38
  have b38 := F38.binds (ps := ["piece"]) fun _ _ _ _ _ _ us hl => match us, hl with | [_], _ => rfl
  have m38 := PySem.W.mg_of X G a38
  have F39 := fun_mk (st := sGI) l39 c39 k39
  have b39 := F39.binds (ps := ["machine", "piece", "scope"]) fun _ _ _ _ _ _ us hl => match us, hl with | [_, _, _], _ => rfl
  have m39 := PySem.W.mg_of X G a39
  have F40 := fun_mk (st := sRun) l40 c40 k40
  have m40 := PySem.W.mg_of X G a40
  have F41 := fun_mk (st := sRoll) l41 c41 k41
  have b41 := F41.binds (ps := ["dice", "size"]) fun _ _ _ _ _ _ us hl => match us, hl with | [_, _], _ => rfl
  have m41 := PySem.W.mg_of X G a41
  have F42 := fun_mk (st := sPick) l42 c42 k42
  have b42 := F42.binds (ps := ["dice", "some"]) fun _ _ _ _ _ _ us hl => match us, hl with | [_, _], _ => rfl
  have m42 := PySem.W.mg_of X G a42
  have F43 := fun_mk (st := sWord) l43 c43 k43
  have b43 := F43.binds (ps := ["dice"]) fun _ _ _ _ _ _ us hl => match us, hl with | [_], _ => rfl
  have m43 := PySem.W.mg_of X G a43
  have F44 := fun_mk (st := sRan) l44 c44 k44
  have b44 := F44.binds (ps := ["program", "numbers", "most"]) fun _ _ _ _ _ _ us hl => match us, hl with | [_, _, _], _ => rfl
  have m44 := PySem.W.mg_of X G a44
  have F45 := fun_mk (st := sRd) l45 c45 k45
  have b45 := F45.binds (ps := ["words", "kind", "body"]) fun _ _ _ _ _ _ us hl => match us, hl with | [_, _, _], _ => rfl
  have m45 := PySem.W.mg_of X G a45
  have F46 := fun_mk (st := sHe) l46 c46 k46
  have b46 := F46.binds (ps := ["words", "kind"]) fun _ _ _ _ _ _ us hl => match us, hl with | [_, _], _ => rfl
  have m46 := PySem.W.mg_of X G a46
  have F47 := fun_mk (st := sWy) l47 c47 k47
  have b47 := F47.binds (ps := ["words", "kind", "way"]) fun _ _ _ _ _ _ us hl => match us, hl with | [_, _, _], _ => rfl
  have m47 := PySem.W.mg_of X G a47
  have F48 := fun_mk (st := sCn) l48 c48 k48
  have b48 := F48.binds (ps := ["dice", "words", "way", "many", "begin"]) fun _ _ _ _ _ _ us hl => match us, hl with | [_, _, _, _, _], _ => rfl
  have m48 := PySem.W.mg_of X G a48
  have F49 := fun_mk (st := sWo) l49 c49 k49
  have b49 := F49.binds (ps := ["way", "many", "begin"]) fun _ _ _ _ _ _ us hl => match us, hl with | [_, _, _], _ => rfl
  have m49 := PySem.W.mg_of X G a49
  have F50 := fun_mk (st := sAk) l50 c50 k50
  have b50 := F50.binds (ps := ["words", "row", "number"]) fun _ _ _ _ _ _ us hl => match us, hl with | [_, _, _], _ => rfl
  have m50 := PySem.W.mg_of X G a50
  have F51 := fun_mk (st := sPw) l51 c51 k51
  have b51 := F51.binds (ps := ["row", "number"]) fun _ _ _ _ _ _ us hl => match us, hl with | [_, _], _ => rfl
  have m51 := PySem.W.mg_of X G a51
  have F52 := fun_mk (st := sLi) l52 c52 k52
  have b52 := F52.binds (ps := ["dice"]) fun _ _ _ _ _ _ us hl => match us, hl with | [_], _ => rfl
  have m52 := PySem.W.mg_of X G a52
  have F53 := fun_mk (st := sLaw) l53 c53 k53
  have m53 := PySem.W.mg_of X G a53
  have grange := PySem.W.mg_none_of X G zrange
  have glen := PySem.W.mg_none_of X G zlen
  have glist := PySem.W.mg_none_of X G zlist
  have gisinstance := PySem.W.mg_none_of X G zisinstance
  have gbool := PySem.W.mg_none_of X G zbool
  have gstr := PySem.W.mg_none_of X G zstr
  have gint := PySem.W.mg_none_of X G zint
  have gtuple := PySem.W.mg_none_of X G ztuple
  have grepr := PySem.W.mg_none_of X G zrepr
  have gall := PySem.W.mg_none_of X G zall
  have gzip := PySem.W.mg_none_of X G zzip
  have gsorted := PySem.W.mg_none_of X G zsorted
  have gdict := PySem.W.mg_none_of X G zdict
  have greversed := PySem.W.mg_none_of X G zreversed
  have empty1 : h.get? PT1 = some { cls := .none, data := .fields #[] } := own _ List.mem_cons_self f6 m6 cw1 PT1 _ _ _ _ _ _ l6 rfl rfl lC1 v111
  have hE : ∀ p ∈ ([(cw1, PT1)] : List (Addr × Addr)), h.get? p.2 = some { cls := .none, data := .fields #[] } := by
    intro p hp
    · cases List.mem_singleton.mp hp
      exact empty1
  have hN : ∀ p ∈ ([(cw1, PT1)] : List (Addr × Addr)), K.lookup p.2 = none := by
    intro p hp
    · cases List.mem_singleton.mp hp
      exact nPT1
  have hC : ∀ p ∈ ([(cw1, PT1)] : List (Addr × Addr)), PySem.W.CodeHd h p.1 p.2 := by
    intro p hp
    · cases List.mem_singleton.mp hp
      exact ⟨_, vs1, file1, tf1, flags1, tg1, inF1, text1, tt1, X _ _ lC1, rfl, rfl, v111, g111, g181, g71, g91, g101, ncp1⟩
  refine ⟨PySem.W.fnOf "law" "law" (defArgs sLaw) (defBody sLaw) (defScope sLaw) .none kV53 dc53 pm53 an53 cd53 ct53, [(cw1, PT1)], spLaw K PT1, hE, hN, hC, fun s v => .of_eq rfl,
    fun H a ns hl hb ht hS => ⟨a, ns, rfl, hS, hl, hb, ⟨#[], ht (cw1, PT1) List.mem_cons_self, trivial⟩, fun _ => rfl⟩, fun base _ _ tabs => ?_⟩
  have tab1 : GxR.TabB base mg cw1 PT1 := by
    have t := tabs (cw1, PT1) List.mem_cons_self
    exact ⟨t.code, t.bm, t.gP⟩
  have form : ∀ wd ws, (wd, ws) ∈ tabP → ∃ fa, PySem.W.nsIn K FV wd = some (some (.ref fa)) ∧ ∀ H, SqT K H fa (ws.map V.str) := by
    intro wd ws hm
    rcases List.mem_cons.mp hm with e | hm
    · cases e
      exact ⟨_, n1, fun H => .inr ⟨_, _, _, p1, rfl, rfl, (by show 0 ≤ sizeLine; decide), .nil⟩⟩
    rcases List.mem_cons.mp hm with e | hm
    · cases e
      exact ⟨_, n2, fun H => .inr ⟨_, _, _, p2, rfl, rfl, (by show 1 ≤ sizeLine; decide), (.cons ⟨_, rfl⟩ .nil)⟩⟩
    rcases List.mem_cons.mp hm with e | hm
    · cases e
      exact ⟨_, n3, fun H => .inr ⟨_, _, _, p3, rfl, rfl, (by show 1 ≤ sizeLine; decide), (.cons ⟨_, rfl⟩ .nil)⟩⟩
    rcases List.mem_cons.mp hm with e | hm
    · cases e
      exact ⟨_, n4, fun H => .inr ⟨_, _, _, p4, rfl, rfl, (by show 1 ≤ sizeLine; decide), (.cons ⟨_, rfl⟩ .nil)⟩⟩
    rcases List.mem_cons.mp hm with e | hm
    · cases e
      exact ⟨_, n5, fun H => .inr ⟨_, _, _, p5, rfl, rfl, (by show 2 ≤ sizeLine; decide), (.cons ⟨_, rfl⟩ (.cons ⟨_, rfl⟩ .nil))⟩⟩
    rcases List.mem_cons.mp hm with e | hm
    · cases e
      exact ⟨_, n6, fun H => .inr ⟨_, _, _, p6, rfl, rfl, (by show 2 ≤ sizeLine; decide), (.cons ⟨_, rfl⟩ (.cons ⟨_, rfl⟩ .nil))⟩⟩
    rcases List.mem_cons.mp hm with e | hm
    · cases e
      exact ⟨_, n7, fun H => .inr ⟨_, _, _, p7, rfl, rfl, (by show 2 ≤ sizeLine; decide), (.cons ⟨_, rfl⟩ (.cons ⟨_, rfl⟩ .nil))⟩⟩
    rcases List.mem_cons.mp hm with e | hm
    · cases e
      exact ⟨_, n8, fun H => .inr ⟨_, _, _, p8, rfl, rfl, (by show 3 ≤ sizeLine; decide), (.cons ⟨_, rfl⟩ (.cons ⟨_, rfl⟩ (.cons ⟨_, rfl⟩ .nil)))⟩⟩
    rcases List.mem_cons.mp hm with e | hm
    · cases e
      exact ⟨_, n9, fun H => .inr ⟨_, _, _, p9, rfl, rfl, (by show 2 ≤ sizeLine; decide), (.cons ⟨_, rfl⟩ (.cons ⟨_, rfl⟩ .nil))⟩⟩
    rcases List.mem_cons.mp hm with e | hm
    · cases e
      exact ⟨_, n10, fun H => .inr ⟨_, _, _, p10, rfl, rfl, (by show 2 ≤ sizeLine; decide), (.cons ⟨_, rfl⟩ (.cons ⟨_, rfl⟩ .nil))⟩⟩
    rcases List.mem_cons.mp hm with e | hm
    · cases e
      exact ⟨_, n11, fun H => .inr ⟨_, _, _, p11, rfl, rfl, (by show 2 ≤ sizeLine; decide), (.cons ⟨_, rfl⟩ (.cons ⟨_, rfl⟩ .nil))⟩⟩
    rcases List.mem_cons.mp hm with e | hm
    · cases e
      exact ⟨_, n12, fun H => .inr ⟨_, _, _, p12, rfl, rfl, (by show 1 ≤ sizeLine; decide), (.cons ⟨_, rfl⟩ .nil)⟩⟩
    rcases List.mem_cons.mp hm with e | hm
    · cases e
      exact ⟨_, n13, fun H => .inr ⟨_, _, _, p13, rfl, rfl, (by show 1 ≤ sizeLine; decide), (.cons ⟨_, rfl⟩ .nil)⟩⟩
    rcases List.mem_cons.mp hm with e | hm
    · cases e
      exact ⟨_, n14, fun H => .inr ⟨_, _, _, p14, rfl, rfl, (by show 4 ≤ sizeLine; decide), (.cons ⟨_, rfl⟩ (.cons ⟨_, rfl⟩ (.cons ⟨_, rfl⟩ (.cons ⟨_, rfl⟩ .nil))))⟩⟩
    rcases List.mem_cons.mp hm with e | hm
    · cases e
      exact ⟨_, n15, fun H => .inr ⟨_, _, _, p15, rfl, rfl, (by show 2 ≤ sizeLine; decide), (.cons ⟨_, rfl⟩ (.cons ⟨_, rfl⟩ .nil))⟩⟩
    rcases List.mem_cons.mp hm with e | hm
    · cases e
      exact ⟨_, n16, fun H => .inr ⟨_, _, _, p16, rfl, rfl, (by show 2 ≤ sizeLine; decide), (.cons ⟨_, rfl⟩ (.cons ⟨_, rfl⟩ .nil))⟩⟩
    rcases List.mem_cons.mp hm with e | hm
    · cases e
      exact ⟨_, n17, fun H => .inr ⟨_, _, _, p17, rfl, rfl, (by show 5 ≤ sizeLine; decide), (.cons ⟨_, rfl⟩ (.cons ⟨_, rfl⟩ (.cons ⟨_, rfl⟩ (.cons ⟨_, rfl⟩ (.cons ⟨_, rfl⟩ .nil)))))⟩⟩
    · cases List.mem_singleton.mp hm
      exact ⟨_, n18, fun H => .inr ⟨_, _, _, p18, rfl, rfl, (by show 5 ≤ sizeLine; decide), (.cons ⟨_, rfl⟩ (.cons ⟨_, rfl⟩ (.cons ⟨_, rfl⟩ (.cons ⟨_, rfl⟩ (.cons ⟨_, rfl⟩ .nil)))))⟩⟩
  have T1 : Tx K mg NO NU PA := ⟨PySem.W.mg_of X G aNO, PySem.W.mg_of X G aNU, PySem.W.mg_of X G aPA, fun H => .inr ⟨_, _, _, pNO, rfl, rfl, (by show 1 ≤ sizeLine; decide), (.cons ⟨_, rfl⟩ .nil)⟩, fun H => .inr ⟨_, _, _, pNU, rfl, rfl, (by show 1 ≤ sizeLine; decide), (.cons ⟨_, rfl⟩ .nil)⟩, fun H => .inr ⟨_, _, _, pPA, rfl, rfl, (by show 3 ≤ sizeLine; decide), (.cons ⟨_, rfl⟩ (.cons ⟨_, rfl⟩ (.cons ⟨_, rfl⟩ .nil)))⟩, gisinstance, gtuple, glen⟩
  have mMK : mg "MOST_WITHIN_kinds" = some (.int 100 tK) := by rw [← eMK]; exact PySem.W.mg_of X G aMK
  have TW : TxW mg := ⟨⟨_, PySem.W.mg_of X G aT⟩, ⟨tM, by rw [← eM]; exact PySem.W.mg_of X G aM⟩, gisinstance, gint, gbool, gstr, glen, gall⟩
  have TP : Tp K w mg FV := ⟨PySem.W.mg_of X G aF, ⟨_, _, oF, litF, lowF⟩, fun wd ws hh => form wd ws (look_mem hh), fun wd hh => ns_none oF litF keysF hh, ⟨tG, by rw [← eG]; exact PySem.W.mg_of X G aG⟩, gisinstance, gtuple, gstr, glen, gzip⟩
  have gFo := ok_form (P := l.prog) (w := w) (base := base) (j := 0) F1 T1
  have gIs := ok_iskind F2 T1 mMK gFo b1 k1 m1
  have gWhole := ok_whole (P := l.prog) (w := w) (base := base) (j := 0) F5 TW
  have gWordQ := ok_word (P := l.prog) (w := w) (j := 0) l6 c6 TW tab1
  have gPart := ok_part F7 TP gIs b2 k2 m2 gWhole b5 k5 m5 gWordQ b6 k6 m6
  have gProgs := ok_progs (P := l.prog) (w := w) (base := base) (j := 0) F8 TP
  have gInner := ok_inner F9 TP gPart b7 k7 m7 gProgs b8 k8 m8
  have gOrd := ok_inorder innI F3 gInner b9 k9 glen grange
  have gPop := ok_popped (P := l.prog) (w := w) (base := base) (mg := mg) (j := 0) F4 glen
  have gMade := ok_made (P := l.prog) (w := w) (base := base) (j := 0) F10 T1
  have gNum := ok_knum (P := l.prog) (w := w) (base := base) (j := 1) F12 T1 gall
  have TK : Ko l.prog w K mg base KV := ⟨PySem.W.mg_of X G aK, ⟨_, _, oK, litK, lowK⟩, ⟨_, o1, ⟨⟨_, _, ok_knothing (P := l.prog) (w := w) (base := base) (j := 1) F11 T1, k11, b11⟩⟩⟩, ⟨_, o2, ⟨⟨_, _, gNum, k12, b12⟩⟩⟩, ⟨_, o3, ⟨⟨_, _, gNum, k12, b12⟩⟩⟩, ⟨_, o4, ⟨⟨_, _, gNum, k12, b12⟩⟩⟩, ⟨_, o5, ⟨⟨_, _, gNum, k12, b12⟩⟩⟩, ⟨_, o6, ⟨⟨_, _, gNum, k12, b12⟩⟩⟩, ⟨_, o7, ⟨⟨_, _, ok_kknown (P := l.prog) (w := w) (base := base) (j := 1) F13, k13, b13⟩⟩⟩, ⟨_, o8, ⟨⟨_, _, ok_klets F14 gMade b10 k10 m10, k14, b14⟩⟩⟩, ⟨_, o9, ⟨⟨_, _, ok_kfor F15 T1 gMade b10 k10 m10, k15, b15⟩⟩⟩, ⟨_, o10, ⟨⟨_, _, ok_kcall (P := l.prog) (w := w) (base := base) (j := 1) F16, k16, b16⟩⟩⟩, ⟨_, o11, ⟨⟨_, _, ok_kpair (P := l.prog) (w := w) (base := base) (j := 1) F17 T1, k17, b17⟩⟩⟩, ⟨_, o12, ⟨⟨_, _, ok_kfirst (P := l.prog) (w := w) (base := base) (j := 1) F18, k18, b18⟩⟩⟩, ⟨_, o13, ⟨⟨_, _, ok_ksecond (P := l.prog) (w := w) (base := base) (j := 1) F19, k19, b19⟩⟩⟩, ⟨_, o14, ⟨⟨_, _, ok_kparts (P := l.prog) (w := w) (base := base) (j := 1) F20 T1, k20, b20⟩⟩⟩, ⟨_, o15, ⟨⟨_, _, ok_kthis (P := l.prog) (w := w) (base := base) (j := 1) F21, k21, b21⟩⟩⟩, ⟨_, o16, ⟨⟨_, _, ok_kthat (P := l.prog) (w := w) (base := base) (j := 1) F22, k22, b22⟩⟩⟩, ⟨_, o17, ⟨⟨_, _, ok_kcases (P := l.prog) (w := w) (base := base) (j := 1) F23, k23, b23⟩⟩⟩, ⟨_, o18, ⟨⟨_, _, ok_kclimb (P := l.prog) (w := w) (base := base) (j := 1) F24 T1, k24, b24⟩⟩⟩⟩
  have gCl := ok_cl (P := l.prog) (w := w) (base := base) (mg := mg) (j := 0) F25 glen
  have N : NoPr K mg NP fI _ := ⟨hNP, PySem.W.mg_of X G aNP, nNP, iNP, tI, fun_mk (st := sIniP) lI cI kI, (fun_mk (st := sIniP) lI cI kI).binds (ps := ["self", "place"]) fun _ _ _ _ _ _ us hl => match us, hl with | [_, _], _ => rfl⟩
  have gJP := fun D => ok_jp (Dn := D) F26 TK N gzip gCl b25 k25 m25
  have TJ1 : TJ mg tP tW := ⟨by rw [← eP]; exact PySem.W.mg_of X G aP, by rw [← eW]; exact PySem.W.mg_of X G aW, glen, gtuple, gsorted⟩
  have gJud := ok_judged F27 N TJ1 m9 gOrd b3 k3 m3 gJP b26 k26 m26 gPop b4 k4 m4 gProgs b8 k8 m8
  have gJR := judged_right gJud
  have sG1 := fun_mk (st := sScI) sfl1 sfc1 sfk1
  have sb1 := sG1.binds (ps := ["self", "named", "known"]) fun _ _ _ _ _ _ us hl => match us, hl with | [_, _, _], _ => rfl
  have sG2 := fun_mk (st := sWiN) sfl2 sfc2 sfk2
  have sb2 := sG2.binds (ps := ["self", "name", "number"]) fun _ _ _ _ _ _ us hl => match us, hl with | [_, _, _], _ => rfl
  have sG3 := fun_mk (st := sWiL) sfl3 sfc3 sfk3
  have sb3 := sG3.binds (ps := ["self", "label", "told"]) fun _ _ _ _ _ _ us hl => match us, hl with | [_, _, _], _ => rfl
  have mG1 := fun_mk (st := sMaI) mfl1 mfc1 mfk1
  have mb1 := mG1.binds (ps := ["self", "numbers", "limit"]) fun _ _ _ _ _ _ us hl => match us, hl with | [_, _, _], _ => rfl
  have mG2 := fun_mk (st := sInto) mfl2 mfc2 mfk2
  have mb2 := mG2.binds (ps := ["self", "piece", "scope"]) fun _ _ _ _ _ _ us hl => match us, hl with | [_, _, _], _ => rfl
  have mG3 := fun_mk (st := sBehind) mfl3 mfc3 mfk3
  have mb3 := mG3.binds (ps := ["self", "act", "piece", "scope"]) fun _ _ _ _ _ _ us hl => match us, hl with | [_, _, _, _], _ => rfl
  have mG4 := fun_mk (st := sStep) mfl4 mfc4 mfk4
  have mb4 := mG4.binds (ps := ["self"]) fun _ _ _ _ _ _ us hl => match us, hl with | [_], _ => rfl
  have mG5 := fun_mk (st := sTold) mfl5 mfc5 mfk5
  have mb5 := mG5.binds (ps := ["self", "told"]) fun _ _ _ _ _ _ us hl => match us, hl with | [_, _], _ => rfl
  have mG6 := fun_mk (st := sTelN) mfl6 mfc6 mfk6
  have mb6 := mG6.binds (ps := ["self", "number"]) fun _ _ _ _ _ _ us hl => match us, hl with | [_, _], _ => rfl
  let A : Acts := ⟨f39, f37, fun p => match p with | .next _ => f29 | .plus _ _ => f29 | .times _ _ => f29 | .call _ _ => f33 | .pair _ _ => f30 | .first _ => f31 | .second _ => f31 | .parts _ _ _ _ => f34 | .this _ _ => f32 | .that _ _ => f32 | .cases _ _ _ _ _ => f35 | .climb _ _ _ _ _ => f36 | _ => f37⟩
  have SC : ScC K mg SV := ⟨⟨spg, shd, spo, ssa⟩, sf_1, sf_2, PySem.W.mg_of X G sa, gdict⟩
  have SM : ScM l.prog w K mg base SV sg1 _ := ⟨SC, ⟨smk, sfa1, sfi1, skc⟩, ok_scI sG1 SC, sb1⟩
  have mTG : mg "TOO_GREAT" = some (.int (10 ^ 60) tG) := by rw [← eG]; exact PySem.W.mg_of X G aG
  have MC : MaC K mg MV A tG := ⟨⟨mpg, mhd, mpo, msa⟩, mf_1, mf_2, mf_3, mf_4, PySem.W.mg_of X G ma, mTG, m39⟩
  have TM1 : Many K mg TM := ⟨⟨_, _, _, xTM, PySem.F.excBase_ValueError⟩, PySem.W.mg_of X G aTM, kTM, sTM, yTM⟩
  have M2 : MaM2 l.prog w K mg base MV mg1 _ := ⟨⟨mmk, mfa1, mfi1, mkc⟩, ok_maI mG1 MC, mb1⟩
  have MM : MaM l.prog w K mg base SV MV A TM mg2 mg3 mg4 mg5 mg6 sg2 sg3 _ _ _ _ _ _ _ := ⟨ok_into mG2 MC, mb2, ⟨mfa2, mfi2, mfk2⟩, ok_behind mG3 MC, mb3, ⟨mfa3, mfi3, mfk3⟩, ok_step mG4 MC TM1, mb4, ⟨mfa4, mfi4, mfk4⟩, ok_tell mG5 MC, mb5, ⟨mfa5, mfi5, mfk5⟩, ok_tellN mG6 MC TM1, mb6, ⟨mfa6, mfi6, mfk6⟩, ok_wiN sG2 SM, sb2, ⟨sfa2, sfi2, sfk2⟩, ok_wiL sG3 SM, sb3, ⟨sfa3, sfi3, sfk3⟩, ⟨spg, shd, spo, ssa⟩, m37⟩
  have EE : EndsT K w mg A EV := ⟨PySem.W.mg_of X G aE, ⟨_, _, oE, litE, lowE⟩, fun p hp => by
    cases p with
    | next _ => exact en1
    | plus _ _ => exact en2
    | times _ _ => exact en3
    | call _ _ => exact en4
    | pair _ _ => exact en5
    | first _ => exact en6
    | second _ => exact en7
    | parts _ _ _ _ => exact en8
    | this _ _ => exact en9
    | that _ _ => exact en10
    | cases _ _ _ _ _ => exact en11
    | climb _ _ _ _ _ => exact en12
    | _ => exact Bool.noConfusion hp⟩
  have gFP := ok_fp F38 gProgs b8 k8 m8
  have AA : ActsAt l.prog w K mg base SV MV A TM := ⟨fun ν => ⟨⟨_, _, ok_gi F39 MC SC greversed MM EE gFP b38 k38 m38, k39, b39⟩⟩, fun ν => ⟨⟨_, _, ok_turn F37 MC MM, k37, b37⟩⟩, fun ν p hp => by
    cases p with
    | next _ => exact ⟨_, fun sc => ⟨_, _, rfl, .inl ⟨_, rfl⟩⟩, ⟨⟨_, _, ok_eNum F29 MC MM, k29, b29⟩⟩⟩
    | plus _ _ => exact ⟨_, fun sc => ⟨_, _, rfl, .inr (.inl ⟨_, _, rfl⟩)⟩, ⟨⟨_, _, ok_eNum F29 MC MM, k29, b29⟩⟩⟩
    | times _ _ => exact ⟨_, fun sc => ⟨_, _, rfl, .inr (.inr ⟨_, _, rfl⟩)⟩, ⟨⟨_, _, ok_eNum F29 MC MM, k29, b29⟩⟩⟩
    | call _ _ => exact ⟨_, fun sc => ⟨_, _, _, rfl⟩, ⟨⟨_, _, ok_eCall F33 MC MM, k33, b33⟩⟩⟩
    | pair _ _ => exact ⟨_, fun sc => ⟨_, _, rfl, _, _, rfl⟩, ⟨⟨_, _, ok_ePair F30 MC MM, k30, b30⟩⟩⟩
    | first _ => exact ⟨_, fun sc => ⟨_, _, rfl, .inl ⟨_, rfl⟩⟩, ⟨⟨_, _, ok_eHalf F31 MC MM, k31, b31⟩⟩⟩
    | second _ => exact ⟨_, fun sc => ⟨_, _, rfl, .inr ⟨_, rfl⟩⟩, ⟨⟨_, _, ok_eHalf F31 MC MM, k31, b31⟩⟩⟩
    | parts _ _ _ _ => exact ⟨_, fun sc => ⟨_, _, _, _, _, rfl⟩, ⟨⟨_, _, ok_eParts F34 MC MM, k34, b34⟩⟩⟩
    | this _ _ => exact ⟨_, fun sc => ⟨_, _, rfl, .inl ⟨_, _, rfl⟩⟩, ⟨⟨_, _, ok_eSide F32 MC MM, k32, b32⟩⟩⟩
    | that _ _ => exact ⟨_, fun sc => ⟨_, _, rfl, .inr ⟨_, _, rfl⟩⟩, ⟨⟨_, _, ok_eSide F32 MC MM, k32, b32⟩⟩⟩
    | cases _ _ _ _ _ => exact ⟨_, fun sc => ⟨_, _, _, _, _, _, rfl⟩, ⟨⟨_, _, ok_eCases F35 MC MM, k35, b35⟩⟩⟩
    | climb _ _ _ _ _ => exact ⟨_, fun sc => ⟨_, _, _, _, _, _, rfl⟩, ⟨⟨_, _, ok_eClimb F36 MC MM, k36, b36⟩⟩⟩
    | _ => exact Bool.noConfusion hp⟩
  have gHF := ok_hf (P := l.prog) (w := w) (mg := mg) (base := base) F28
  have gRun := ok_run F40 MC SM M2 MM AA ⟨glen⟩ gJR b27 k27 m27 gHF b28 k28 m28
  have bRunK := run_binds F40
  have FD : FunD K "run" "run" (defArgs sRun) (defBody sRun) (defScope sRun) [] [("limit", .int 20000)] f40 _ := ⟨⟨_, _, _, _, _, _, _, _, _, _, rfl, l40, c40, .inl ⟨rfl, rfl⟩, .inr ⟨KD, eKD, fun q hq => by rw [List.mem_singleton.mp hq]; exact ⟨_, nKD, ⟨_, rfl⟩⟩⟩⟩, k40⟩
  obtain ⟨ds, vR, bR⟩ := FD.binds0 (ps := ["program", "numbers", "limit"]) 2 (by simp) rfl (fun D doc pm an cdv ct us ks h1 h2 => match us, ks, h1, h2 with | [_, _], [_], _, _ => ⟨_, _, _, _, _, _, rfl, rfl, rfl⟩)
  have gRoll := ok_roll (P := l.prog) (w := w) (base := base) (mg := mg) (j := 0) F41 glen
  have D : Draw l.prog w K mg base f41 f42 _ _ := ⟨gRoll, b41, k41, m41, ok_pick F42 gRoll b41 k41 m41 glen, ok_pickS F42 gRoll b41 k41 m41 glen, b42, k42, m42⟩
  have gWord := ok_lword F43 D grange
  have EX : ExR K mg TM GE := ⟨PySem.W.mg_of X G aGE, PySem.W.mg_of X G aTM, uTM, ⟨e1, e2, sTM, e3, e4, q5, q6, e7⟩, tTM, gisinstance⟩
  have gRan := ok_ran F44 gRun bRunK k40 m40 EX
  have gHe := ok_he (P := l.prog) (w := w) (base := base) (mg := mg) F46
  have gRd := ok_rd (P := l.prog) (w := w) (base := base) (mg := mg) F45
  have gWy := ok_wy F47 gHe b46 k46 m46
  have gCn := ok_cn F48 D gHe b46 k46 m46 gRd b45 k45 m45 gWy b47 k47 m47
  have gWo := ok_wo (P := l.prog) (w := w) (base := base) (mg := mg) F49
  have gAk := ok_ak (P := l.prog) (w := w) (base := base) (mg := mg) F50
  have gPw := ok_pw (P := l.prog) (w := w) (base := base) (mg := mg) F51 grange
  have gLi := ok_li F52 D gRun vR bR k40 m40 EX uTT grepr
  exact ok_law F53 D ⟨gLi, b52, k52, m52, gWord, b43, k43, m43, gCn, b48, k48, m48, gWo, b49, k49, m49, ran_many gRan, b44, k44, m44, gAk, b50, k50, m50, gPw, b51, k51, m51, run_closed gRun, k40, m40, grange, glist, grepr⟩ vR bR
theorem walk {l : PySem.W.OpenLaw} {q : Program} {loose : List Str} {XP : (Str → Option Value) → Heap → Prop} {YP : World → Heap → Prop} {d : DefRec} {K : Params → PySem.W.Frag} (hn : l.most = some 63) (hdf : d.params.defaults = []) (recs : ∀ nm ∈ [Str.ofString "is_word"], ((recsOf q).any fun e => e.name == nm) = true)
    (hY : ∀ (w : World) (h : Heap), YP w h → (K w.params).In h)
    (F : ∀ (w : World) (mg : Str → Option Value) (fa : Addr) (h : Heap), (K w.params).In h → h.Ns mainGlobals mg → mg d.name = some (.ref fa) → (∀ nm ∈ [Str.ofString "is_word"], ∀ fw, mg nm = some (.ref fw) → LamX.OwnTab (K w.params) fw h) → LawG l w (K w.params) 9 63 "script" mg fa h) :
    PySem.W.WalkO q loose XP YP l.row.toRowW d [] (fun f vs => PySem.call f vs) :=
  walk_guard [Str.ofString "is_word"] hn (by decide) hdf ⟨rfl, by decide, by decide⟩ recs hY (fun w mg fa h _ KX G hm t => F w mg fa h KX G hm t)
end Kf
open PySem PySem.W PyProof.Rows in
set_option maxRecDepth 100000 in
set_option maxHeartbeats 0 in
theorem PySem.Challenge.cw_prooffruit_k28_whole_calls_far_within_on_holds : PySem.Challenge.rw_prooffruit_k28_whole_calls_far_within_on.Holds := by
  w_on; o_law; k_head; (case hw => w_witness2)
  k_fill
  refine Kf.walk (l := PySem.Challenge.rw_prooffruit_k28_whole_calls_far_within_on) rfl rfl (by decide +kernel) (fun w h Y => PySem.W.kIn_of Y) ?F
  case F =>
    intro w mg fa h KX G hmg own
    refine' Kf.all_mk KX G hmg own ?a1 ?l1 ?c1 ?k1 ?a2 ?l2 ?c2 ?k2 ?a3 ?l3 ?c3 ?k3 ?a4 ?l4 ?c4 ?k4 ?a5 ?l5 ?c5 ?k5 ?a6 ?l6 ?c6 ?k6 ?a7 ?l7 ?c7 ?k7 ?a8 ?l8 ?c8 ?k8 ?a9 ?l9 ?c9 ?k9 ?a10 ?l10 ?c10 ?k10 ?a11 ?l11 ?c11 ?k11 ?a12 ?l12 ?c12 ?k12 ?a13 ?l13 ?c13 ?k13 ?a14 ?l14 ?c14 ?k14 ?a15 ?l15 ?c15 ?k15 ?a16 ?l16 ?c16 ?k16 ?a17 ?l17 ?c17 ?k17 ?a18 ?l18 ?c18 ?k18 ?a19 ?l19 ?c19 ?k19 ?a20 ?l20 ?c20 ?k20 ?a21 ?l21 ?c21 ?k21 ?a22 ?l22 ?c22 ?k22 ?a23 ?l23 ?c23 ?k23 ?a24 ?l24 ?c24 ?k24 ?a25 ?l25 ?c25 ?k25 ?a26 ?l26 ?c26 ?k26 ?a27 ?l27 ?c27 ?k27 ?a28 ?l28 ?c28 ?k28 ?a29 ?l29 ?c29 ?k29 ?a30 ?l30 ?c30 ?k30 ?a31 ?l31 ?c31 ?k31 ?a32 ?l32 ?c32 ?k32 ?a33 ?l33 ?c33 ?k33 ?a34 ?l34 ?c34 ?k34 ?a35 ?l35 ?c35 ?k35 ?a36 ?l36 ?c36 ?k36 ?a37 ?l37 ?c37 ?k37 ?a38 ?l38 ?c38 ?k38 ?a39 ?l39 ?c39 ?k39 ?a40 ?l40 ?c40 ?k40 ?a41 ?l41 ?c41 ?k41 ?a42 ?l42 ?c42 ?k42 ?a43 ?l43 ?c43 ?k43 ?a44 ?l44 ?c44 ?k44 ?a45 ?l45 ?c45 ?k45 ?a46 ?l46 ?c46 ?k46 ?a47 ?l47 ?c47 ?k47 ?a48 ?l48 ?c48 ?k48 ?a49 ?l49 ?c49 ?k49 ?a50 ?l50 ?c50 ?k50 ?a51 ?l51 ?c51 ?k51 ?a52 ?l52 ?c52 ?k52 ?a53 ?l53 ?c53 ?k53 ?zrange ?zlen ?zlist ?zisinstance ?zbool ?zstr ?zint ?ztuple ?zrepr ?zall ?zzip ?zsorted ?zdict ?zreversed ?aNO ?pNO ?aNU ?pNU ?aPA ?pPA ?aF ?oF ?litF ?lowF ?keysF ?n1 ?p1 ?n2 ?p2 ?n3 ?p3 ?n4 ?p4 ?n5 ?p5 ?n6 ?p6 ?n7 ?p7 ?n8 ?p8 ?n9 ?p9 ?n10 ?p10 ?n11 ?p11 ?n12 ?p12 ?n13 ?p13 ?n14 ?p14 ?n15 ?p15 ?n16 ?p16 ?n17 ?p17 ?n18 ?p18 ?aK ?oK ?litK ?lowK ?o1 ?o2 ?o3 ?o4 ?o5 ?o6 ?o7 ?o8 ?o9 ?o10 ?o11 ?o12 ?o13 ?o14 ?o15 ?o16 ?o17 ?o18 ?aE ?oE ?litE ?lowE ?en1 ?en2 ?en3 ?en4 ?en5 ?en6 ?en7 ?en8 ?en9 ?en10 ?en11 ?en12 ?aG ?eG ?aT ?aM ?eM ?aP ?eP ?aW ?eW ?aMK ?eMK ?aNP ?hNP ?nNP ?iNP ?tI ?lI ?cI ?kI ?sa ?sfa1 ?sfi1 ?sfl1 ?sfc1 ?sfk1 ?sfa2 ?sfi2 ?sfl2 ?sfc2 ?sfk2 ?sfa3 ?sfi3 ?sfl3 ?sfc3 ?sfk3 ?spg ?shd ?spo ?ssa ?smk ?skc ?sf_1 ?sf_2 ?ma ?mfa1 ?mfi1 ?mfl1 ?mfc1 ?mfk1 ?mfa2 ?mfi2 ?mfl2 ?mfc2 ?mfk2 ?mfa3 ?mfi3 ?mfl3 ?mfc3 ?mfk3 ?mfa4 ?mfi4 ?mfl4 ?mfc4 ?mfk4 ?mfa5 ?mfi5 ?mfl5 ?mfc5 ?mfk5 ?mfa6 ?mfi6 ?mfl6 ?mfc6 ?mfk6 ?mpg ?mhd ?mpo ?msa ?mmk ?mkc ?mf_1 ?mf_2 ?mf_3 ?mf_4 ?aTM ?kTM ?xTM ?sTM ?yTM ?aGE ?uTM ?e1 ?e2 ?e3 ?e4 ?e7 ?q5 ?q6 ?tTM ?eKD ?nKD ?uTT ?lC1 ?v111 ?g111 ?g181 ?g71 ?g91 ?g101 ?ncp1 ?nPT1
    (case a1 => first | k_is | rfl)
    (case l1 => first | k_is | rfl)
    (case c1 => first | k_is | rfl)
    (case k1 => first | k_is | rfl)
    (case a2 => first | k_is | rfl)
    (case l2 => first | k_is | rfl)
    (case c2 => first | k_is | rfl)
    (case k2 => first | k_is | rfl)
    (case a3 => first | k_is | rfl)
    (case l3 => first | k_is | rfl)
    (case c3 => first | k_is | rfl)
    (case k3 => first | k_is | rfl)
    (case a4 => first | k_is | rfl)
    (case l4 => first | k_is | rfl)
    (case c4 => first | k_is | rfl)
    (case k4 => first | k_is | rfl)
    (case a5 => first | k_is | rfl)
    (case l5 => first | k_is | rfl)
    (case c5 => first | k_is | rfl)
    (case k5 => first | k_is | rfl)
    (case a6 => first | k_is | rfl)
    (case l6 => first | k_is | rfl)
    (case c6 => first | k_is | rfl)
    (case k6 => first | k_is | rfl)
    (case a7 => first | k_is | rfl)
    (case l7 => first | k_is | rfl)
    (case c7 => first | k_is | rfl)
    (case k7 => first | k_is | rfl)
    (case a8 => first | k_is | rfl)
    (case l8 => first | k_is | rfl)
    (case c8 => first | k_is | rfl)
    (case k8 => first | k_is | rfl)
    (case a9 => first | k_is | rfl)
    (case l9 => first | k_is | rfl)
    (case c9 => first | k_is | rfl)
    (case k9 => first | k_is | rfl)
    (case a10 => first | k_is | rfl)
    (case l10 => first | k_is | rfl)
    (case c10 => first | k_is | rfl)
    (case k10 => first | k_is | rfl)
    (case a11 => first | k_is | rfl)
    (case l11 => first | k_is | rfl)
    (case c11 => first | k_is | rfl)
    (case k11 => first | k_is | rfl)
    (case a12 => first | k_is | rfl)
    (case l12 => first | k_is | rfl)
    (case c12 => first | k_is | rfl)
    (case k12 => first | k_is | rfl)
    (case a13 => first | k_is | rfl)
    (case l13 => first | k_is | rfl)
    (case c13 => first | k_is | rfl)
    (case k13 => first | k_is | rfl)
    (case a14 => first | k_is | rfl)
    (case l14 => first | k_is | rfl)
    (case c14 => first | k_is | rfl)
    (case k14 => first | k_is | rfl)
    (case a15 => first | k_is | rfl)
    (case l15 => first | k_is | rfl)
    (case c15 => first | k_is | rfl)
    (case k15 => first | k_is | rfl)
    (case a16 => first | k_is | rfl)
    (case l16 => first | k_is | rfl)
    (case c16 => first | k_is | rfl)
    (case k16 => first | k_is | rfl)
    (case a17 => first | k_is | rfl)
    (case l17 => first | k_is | rfl)
    (case c17 => first | k_is | rfl)
    (case k17 => first | k_is | rfl)
    (case a18 => first | k_is | rfl)
    (case l18 => first | k_is | rfl)
    (case c18 => first | k_is | rfl)
    (case k18 => first | k_is | rfl)
    (case a19 => first | k_is | rfl)
    (case l19 => first | k_is | rfl)
    (case c19 => first | k_is | rfl)
    (case k19 => first | k_is | rfl)
    (case a20 => first | k_is | rfl)
    (case l20 => first | k_is | rfl)
    (case c20 => first | k_is | rfl)
    (case k20 => first | k_is | rfl)
    (case a21 => first | k_is | rfl)
    (case l21 => first | k_is | rfl)
    (case c21 => first | k_is | rfl)
    (case k21 => first | k_is | rfl)
    (case a22 => first | k_is | rfl)
    (case l22 => first | k_is | rfl)
    (case c22 => first | k_is | rfl)
    (case k22 => first | k_is | rfl)
    (case a23 => first | k_is | rfl)
    (case l23 => first | k_is | rfl)
    (case c23 => first | k_is | rfl)
    (case k23 => first | k_is | rfl)
    (case a24 => first | k_is | rfl)
    (case l24 => first | k_is | rfl)
    (case c24 => first | k_is | rfl)
    (case k24 => first | k_is | rfl)
    (case a25 => first | k_is | rfl)
    (case l25 => first | k_is | rfl)
    (case c25 => first | k_is | rfl)
    (case k25 => first | k_is | rfl)
    (case a26 => first | k_is | rfl)
    (case l26 => first | k_is | rfl)
    (case c26 => first | k_is | rfl)
    (case k26 => first | k_is | rfl)
    (case a27 => first | k_is | rfl)
    (case l27 => first | k_is | rfl)
    (case c27 => first | k_is | rfl)
    (case k27 => first | k_is | rfl)
    (case a28 => first | k_is | rfl)
    (case l28 => first | k_is | rfl)
    (case c28 => first | k_is | rfl)
    (case k28 => first | k_is | rfl)
    (case a29 => first | k_is | rfl)
    (case l29 => first | k_is | rfl)
    (case c29 => first | k_is | rfl)
    (case k29 => first | k_is | rfl)
    (case a30 => first | k_is | rfl)
    (case l30 => first | k_is | rfl)
    (case c30 => first | k_is | rfl)
    (case k30 => first | k_is | rfl)
    (case a31 => first | k_is | rfl)
    (case l31 => first | k_is | rfl)
    (case c31 => first | k_is | rfl)
    (case k31 => first | k_is | rfl)
    (case a32 => first | k_is | rfl)
    (case l32 => first | k_is | rfl)
    (case c32 => first | k_is | rfl)
    (case k32 => first | k_is | rfl)
    (case a33 => first | k_is | rfl)
    (case l33 => first | k_is | rfl)
    (case c33 => first | k_is | rfl)
    (case k33 => first | k_is | rfl)
    (case a34 => first | k_is | rfl)
    (case l34 => first | k_is | rfl)
    (case c34 => first | k_is | rfl)
    (case k34 => first | k_is | rfl)
    (case a35 => first | k_is | rfl)
    (case l35 => first | k_is | rfl)
    (case c35 => first | k_is | rfl)
    (case k35 => first | k_is | rfl)
    (case a36 => first | k_is | rfl)
    (case l36 => first | k_is | rfl)
    (case c36 => first | k_is | rfl)
    (case k36 => first | k_is | rfl)
    (case a37 => first | k_is | rfl)
    (case l37 => first | k_is | rfl)
    (case c37 => first | k_is | rfl)
    (case k37 => first | k_is | rfl)
    (case a38 => first | k_is | rfl)
    (case l38 => first | k_is | rfl)
    (case c38 => first | k_is | rfl)
    (case k38 => first | k_is | rfl)
    (case a39 => first | k_is | rfl)
    (case l39 => first | k_is | rfl)
    (case c39 => first | k_is | rfl)
    (case k39 => first | k_is | rfl)
    (case a40 => first | k_is | rfl)
    (case l40 => first | k_is | rfl)
    (case c40 => first | k_is | rfl)
    (case k40 => first | k_is | rfl)
    (case a41 => first | k_is | rfl)
    (case l41 => first | k_is | rfl)
    (case c41 => first | k_is | rfl)
    (case k41 => first | k_is | rfl)
    (case a42 => first | k_is | rfl)
    (case l42 => first | k_is | rfl)
    (case c42 => first | k_is | rfl)
    (case k42 => first | k_is | rfl)
    (case a43 => first | k_is | rfl)
    (case l43 => first | k_is | rfl)
    (case c43 => first | k_is | rfl)
    (case k43 => first | k_is | rfl)
    (case a44 => first | k_is | rfl)
    (case l44 => first | k_is | rfl)
    (case c44 => first | k_is | rfl)
    (case k44 => first | k_is | rfl)
    (case a45 => first | k_is | rfl)
    (case l45 => first | k_is | rfl)
    (case c45 => first | k_is | rfl)
    (case k45 => first | k_is | rfl)
    (case a46 => first | k_is | rfl)
    (case l46 => first | k_is | rfl)
    (case c46 => first | k_is | rfl)
    (case k46 => first | k_is | rfl)
    (case a47 => first | k_is | rfl)
    (case l47 => first | k_is | rfl)
    (case c47 => first | k_is | rfl)
    (case k47 => first | k_is | rfl)
    (case a48 => first | k_is | rfl)
    (case l48 => first | k_is | rfl)
    (case c48 => first | k_is | rfl)
    (case k48 => first | k_is | rfl)
    (case a49 => first | k_is | rfl)
    (case l49 => first | k_is | rfl)
    (case c49 => first | k_is | rfl)
    (case k49 => first | k_is | rfl)
    (case a50 => first | k_is | rfl)
    (case l50 => first | k_is | rfl)
    (case c50 => first | k_is | rfl)
    (case k50 => first | k_is | rfl)
    (case a51 => first | k_is | rfl)
    (case l51 => first | k_is | rfl)
    (case c51 => first | k_is | rfl)
    (case k51 => first | k_is | rfl)
    (case a52 => first | k_is | rfl)
    (case l52 => first | k_is | rfl)
    (case c52 => first | k_is | rfl)
    (case k52 => first | k_is | rfl)
    (case a53 => first | k_is | rfl)
    (case l53 => first | k_is | rfl)
    (case c53 => first | k_is | rfl)
    (case k53 => first | k_is | rfl)
    (case zrange => first | k_is | rfl)
    (case zlen => first | k_is | rfl)
    (case zlist => first | k_is | rfl)
    (case zisinstance => first | k_is | rfl)
    (case zbool => first | k_is | rfl)
    (case zstr => first | k_is | rfl)
    (case zint => first | k_is | rfl)
    (case ztuple => first | k_is | rfl)
    (case zrepr => first | k_is | rfl)
    (case zall => first | k_is | rfl)
    (case zzip => first | k_is | rfl)
    (case zsorted => first | k_is | rfl)
    (case zdict => first | k_is | rfl)
    (case zreversed => first | k_is | rfl)
    (case aNO => first | k_is | rfl)
    (case pNO => first | k_is | rfl)
    (case aNU => first | k_is | rfl)
    (case pNU => first | k_is | rfl)
    (case aPA => first | k_is | rfl)
    (case pPA => first | k_is | rfl)
    (case aF => first | k_is | rfl)
    (case oF => first | k_is | rfl)
    (case litF => first | k_is | exact ⟨⟨_, _, rfl, rfl⟩, ⟨_, _, rfl, rfl⟩, ⟨_, _, rfl, rfl⟩, ⟨_, _, rfl, rfl⟩, ⟨_, _, rfl, rfl⟩, ⟨_, _, rfl, rfl⟩, ⟨_, _, rfl, rfl⟩, ⟨_, _, rfl, rfl⟩, ⟨_, _, rfl, rfl⟩, ⟨_, _, rfl, rfl⟩, ⟨_, _, rfl, rfl⟩, ⟨_, _, rfl, rfl⟩, ⟨_, _, rfl, rfl⟩, ⟨_, _, rfl, rfl⟩, ⟨_, _, rfl, rfl⟩, ⟨_, _, rfl, rfl⟩, ⟨_, _, rfl, rfl⟩, ⟨_, _, rfl, rfl⟩, trivial⟩)
    (case lowF => first | k_is | rfl)
    (case keysF => first | k_is | rfl | decide +kernel)
    (case n1 => first | k_is | rfl)
    (case p1 => first | k_is | rfl)
    (case n2 => first | k_is | rfl)
    (case p2 => first | k_is | rfl)
    (case n3 => first | k_is | rfl)
    (case p3 => first | k_is | rfl)
    (case n4 => first | k_is | rfl)
    (case p4 => first | k_is | rfl)
    (case n5 => first | k_is | rfl)
    (case p5 => first | k_is | rfl)
    (case n6 => first | k_is | rfl)
    (case p6 => first | k_is | rfl)
    (case n7 => first | k_is | rfl)
    (case p7 => first | k_is | rfl)
    (case n8 => first | k_is | rfl)
    (case p8 => first | k_is | rfl)
    (case n9 => first | k_is | rfl)
    (case p9 => first | k_is | rfl)
    (case n10 => first | k_is | rfl)
    (case p10 => first | k_is | rfl)
    (case n11 => first | k_is | rfl)
    (case p11 => first | k_is | rfl)
    (case n12 => first | k_is | rfl)
    (case p12 => first | k_is | rfl)
    (case n13 => first | k_is | rfl)
    (case p13 => first | k_is | rfl)
    (case n14 => first | k_is | rfl)
    (case p14 => first | k_is | rfl)
    (case n15 => first | k_is | rfl)
    (case p15 => first | k_is | rfl)
    (case n16 => first | k_is | rfl)
    (case p16 => first | k_is | rfl)
    (case n17 => first | k_is | rfl)
    (case p17 => first | k_is | rfl)
    (case n18 => first | k_is | rfl)
    (case p18 => first | k_is | rfl)
    (case aK => first | k_is | rfl)
    (case oK => first | k_is | rfl)
    (case litK => first | k_is | exact ⟨⟨_, _, rfl, rfl⟩, ⟨_, _, rfl, rfl⟩, ⟨_, _, rfl, rfl⟩, ⟨_, _, rfl, rfl⟩, ⟨_, _, rfl, rfl⟩, ⟨_, _, rfl, rfl⟩, ⟨_, _, rfl, rfl⟩, ⟨_, _, rfl, rfl⟩, ⟨_, _, rfl, rfl⟩, ⟨_, _, rfl, rfl⟩, ⟨_, _, rfl, rfl⟩, ⟨_, _, rfl, rfl⟩, ⟨_, _, rfl, rfl⟩, ⟨_, _, rfl, rfl⟩, ⟨_, _, rfl, rfl⟩, ⟨_, _, rfl, rfl⟩, ⟨_, _, rfl, rfl⟩, ⟨_, _, rfl, rfl⟩, trivial⟩)
    (case lowK => first | k_is | rfl)
    (case o1 => first | k_is | rfl)
    (case o2 => first | k_is | rfl)
    (case o3 => first | k_is | rfl)
    (case o4 => first | k_is | rfl)
    (case o5 => first | k_is | rfl)
    (case o6 => first | k_is | rfl)
    (case o7 => first | k_is | rfl)
    (case o8 => first | k_is | rfl)
    (case o9 => first | k_is | rfl)
    (case o10 => first | k_is | rfl)
    (case o11 => first | k_is | rfl)
    (case o12 => first | k_is | rfl)
    (case o13 => first | k_is | rfl)
    (case o14 => first | k_is | rfl)
    (case o15 => first | k_is | rfl)
    (case o16 => first | k_is | rfl)
    (case o17 => first | k_is | rfl)
    (case o18 => first | k_is | rfl)
    (case aE => first | k_is | rfl)
    (case oE => first | k_is | rfl)
    (case litE => first | k_is | exact ⟨⟨_, _, rfl, rfl⟩, ⟨_, _, rfl, rfl⟩, ⟨_, _, rfl, rfl⟩, ⟨_, _, rfl, rfl⟩, ⟨_, _, rfl, rfl⟩, ⟨_, _, rfl, rfl⟩, ⟨_, _, rfl, rfl⟩, ⟨_, _, rfl, rfl⟩, ⟨_, _, rfl, rfl⟩, ⟨_, _, rfl, rfl⟩, ⟨_, _, rfl, rfl⟩, ⟨_, _, rfl, rfl⟩, trivial⟩)
    (case lowE => first | k_is | rfl)
    (case en1 => first | k_is | rfl)
    (case en2 => first | k_is | rfl)
    (case en3 => first | k_is | rfl)
    (case en4 => first | k_is | rfl)
    (case en5 => first | k_is | rfl)
    (case en6 => first | k_is | rfl)
    (case en7 => first | k_is | rfl)
    (case en8 => first | k_is | rfl)
    (case en9 => first | k_is | rfl)
    (case en10 => first | k_is | rfl)
    (case en11 => first | k_is | rfl)
    (case en12 => first | k_is | rfl)
    (case aG => first | k_is | rfl)
    (case eG => first | rfl | decide +kernel)
    (case aT => first | k_is | rfl)
    (case aM => first | k_is | rfl)
    (case eM => first | rfl | decide +kernel)
    (case aP => first | k_is | rfl)
    (case eP => first | rfl | decide +kernel)
    (case aW => first | k_is | rfl)
    (case eW => first | rfl | decide +kernel)
    (case aMK => first | k_is | rfl)
    (case eMK => first | rfl | decide +kernel)
    (case aNP => first | k_is | rfl)
    (case hNP => exact ⟨⟨_, _, _, _, _, _, _, _, _, _, _, _, _, _, _, by first | k_is | rfl, by first | rfl | decide +kernel⟩, by first | k_is | rfl, by first | k_is | rfl, by first | k_is | rfl, by first | k_is | rfl⟩)
    (case nNP => first | k_is | rfl | decide +kernel)
    (case iNP => first | k_is | rfl)
    (case tI => first | k_is | rfl | decide +kernel)
    (case lI => first | k_is | rfl)
    (case cI => first | k_is | rfl)
    (case kI => first | k_is | rfl)
    (case sa => first | k_is | rfl)
    (case sfa1 => first | k_is | rfl)
    (case sfi1 => first | k_is | rfl)
    (case sfl1 => first | k_is | rfl)
    (case sfc1 => first | k_is | rfl)
    (case sfk1 => first | k_is | rfl)
    (case sfa2 => first | k_is | rfl)
    (case sfi2 => first | k_is | rfl)
    (case sfl2 => first | k_is | rfl)
    (case sfc2 => first | k_is | rfl)
    (case sfk2 => first | k_is | rfl)
    (case sfa3 => first | k_is | rfl)
    (case sfi3 => first | k_is | rfl)
    (case sfl3 => first | k_is | rfl)
    (case sfc3 => first | k_is | rfl)
    (case sfk3 => first | k_is | rfl)
    (case spg => first | k_is | rfl)
    (case shd => first | k_is | rfl)
    (case spo => first | k_is | rfl)
    (case ssa => first | k_is | rfl)
    (case smk => first | k_is | rfl)
    (case skc => first | k_is | rfl)
    (case sf_1 => first | k_is | rfl)
    (case sf_2 => first | k_is | rfl)
    (case ma => first | k_is | rfl)
    (case mfa1 => first | k_is | rfl)
    (case mfi1 => first | k_is | rfl)
    (case mfl1 => first | k_is | rfl)
    (case mfc1 => first | k_is | rfl)
    (case mfk1 => first | k_is | rfl)
    (case mfa2 => first | k_is | rfl)
    (case mfi2 => first | k_is | rfl)
    (case mfl2 => first | k_is | rfl)
    (case mfc2 => first | k_is | rfl)
    (case mfk2 => first | k_is | rfl)
    (case mfa3 => first | k_is | rfl)
    (case mfi3 => first | k_is | rfl)
    (case mfl3 => first | k_is | rfl)
    (case mfc3 => first | k_is | rfl)
    (case mfk3 => first | k_is | rfl)
    (case mfa4 => first | k_is | rfl)
    (case mfi4 => first | k_is | rfl)
    (case mfl4 => first | k_is | rfl)
    (case mfc4 => first | k_is | rfl)
    (case mfk4 => first | k_is | rfl)
    (case mfa5 => first | k_is | rfl)
    (case mfi5 => first | k_is | rfl)
    (case mfl5 => first | k_is | rfl)
    (case mfc5 => first | k_is | rfl)
    (case mfk5 => first | k_is | rfl)
    (case mfa6 => first | k_is | rfl)
    (case mfi6 => first | k_is | rfl)
    (case mfl6 => first | k_is | rfl)
    (case mfc6 => first | k_is | rfl)
    (case mfk6 => first | k_is | rfl)
    (case mpg => first | k_is | rfl)
    (case mhd => first | k_is | rfl)
    (case mpo => first | k_is | rfl)
    (case msa => first | k_is | rfl)
    (case mmk => first | k_is | rfl)
    (case mkc => first | k_is | rfl)
    (case mf_1 => first | k_is | rfl)
    (case mf_2 => first | k_is | rfl)
    (case mf_3 => first | k_is | rfl)
    (case mf_4 => first | k_is | rfl)
    (case aTM => first | k_is | rfl)
    (case kTM => first | k_is | rfl | decide +kernel)
    (case xTM => k_exc)
    (case sTM => first | k_is | rfl | decide +kernel)
    (case yTM => first | k_is | rfl | decide +kernel)
    (case aGE => first | k_is | rfl)
    (case uTM => first | k_is | rfl | decide +kernel)
    (case e1 => first | k_is | rfl | decide +kernel)
    (case e2 => first | k_is | rfl | decide +kernel)
    (case e3 => first | k_is | rfl | decide +kernel)
    (case e4 => first | k_is | rfl | decide +kernel)
    (case e7 => first | k_is | rfl | decide +kernel)
    (case q5 => first | k_is | rfl | decide +kernel)
    (case q6 => first | k_is | rfl | decide +kernel)
    (case tTM => first | k_is | rfl | decide +kernel)
    (case eKD => rfl)
    (case nKD => first | k_is | rfl)
    (case uTT => first | k_is | rfl | decide +kernel)
    (case lC1 => first | k_is | rfl)
    (case v111 => first | k_is | rfl)
    (case g111 => first | k_is | rfl)
    (case g181 => first | k_is | rfl)
    (case g71 => first | k_is | rfl)
    (case g91 => first | k_is | rfl)
    (case g101 => first | k_is | rfl)
    (case ncp1 => first | decide | decide +kernel)
    (case nPT1 => first | k_is | rfl)
