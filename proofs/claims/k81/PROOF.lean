import PyProof.Rows.All
import Wide.All
import OpenK.AllK
import Wide.FinOn
import HandS.ForMost
import HandS.SetKeys
import HandS.SetFor
import HandS.Strs
import HandS.More
import HandS.Wide
import HandS.IsInst
import HandS.TupAny
import HandS.EndBits
import HandS.WideBits
import HandS.Lambda
import HandS.Nested
import HandS.Star
import HandS.Flow
import HandS.EndTab
import PyProof.ReprRoads
import HandS.EndOwn
import HandS.Deep
import HandS.DeepEq
import PyProof.ReprLen
import HandS.Conv
import HandS.RaiseMore
import HandS.MapJoin
import HandS.Rev
import HandS.FStr
import PyProof.Draws
import PyProof.EnumMake
import HandS.Steps
import HandS.NoneIn
import HandS.Exc
import HandS.ExcIs
import HandS.ExcValue
import HandS.Small
import HandS.WordsExc
import HandS.Dict
import HandS.ExcInit
import HandS.ExcField
import KE.KExcIs
import PyProof.ExcBaseAll.ValueError
import HandS.ExcOwn
import HandS.TupMul
import PyProof.StrBlock2
import PySem.Challenge.RW_prooffruit_k81_texts_that_write_none
set_option Elab.async false
set_option linter.all false
set_option maxRecDepth 100000
set_option maxHeartbeats 4000000
/-! Sets of texts, whatever the world's order of them is: set(), set(a list), add, sorted. -/
namespace Sx
open PySem PySem.Spec PyProof.Rows L2
/-- the text of an entry -/
def tx (e : Int × Value) : Str := match e.2 with
  | .str k _ => k
  | _ => Str.empty
def Ent (w : World) (e : Int × Value) : Prop := ∃ k tk, e = (hashStr w k, Value.str k tk)
/-- one text more -/
def ins (k : Str) (ks : List Str) : List Str := if k ∈ ks then ks else k :: ks
theorem ins_mem {k j : Str} {ks : List Str} : j ∈ ins k ks ↔ j = k ∨ j ∈ ks := by
  unfold ins
  split
  · rename_i h
    exact ⟨.inr, fun q => q.elim (fun e => e ▸ h) (fun q => q)⟩
  · exact List.mem_cons
theorem ins_nodup {k : Str} {ks : List Str} (h : ks.Nodup) : (ins k ks).Nodup := by
  unfold ins
  split
  · exact h
  · rename_i q
    exact List.nodup_cons.mpr ⟨q, h⟩
theorem ins_len {k : Str} {ks : List Str} : (ins k ks).length ≤ ks.length + 1 := by
  unfold ins
  split
  · omega
  · exact Nat.le_refl _
/-- the set's table: its rows are the texts ks, it can be walked -/
structure Rows (w : World) (es : Array (Int × Value)) (t : SetTable) (ks : List Str) : Prop where
  ent : ∀ e ∈ es.toList, Ent w e
  perm : (es.toList.map tx).Perm ks
  nd : ks.Nodup
  few : es.size < scanBound
  fit : t.fits es.size = true
  ris : Ris t.place.toList
  led : w.params.followText "set-order" = true ∨ t.led = true
def SetS (w : World) (h : Heap) (a : Addr) (ks : List Str) : Prop := ∃ o es ep t, h.get? a = some o ∧ o.ExactSet ∧ o.data = .set es ep t ∧ Rows w es t ks
section
variable {P : Program} {w : World} {h h' : Heap} {a : Addr} {ks : List Str} {es : Array (Int × Value)} {t : SetTable}
theorem SetS.stay (R : SetS w h a ks) (k : ∀ o, h.get? a = some o → h'.get? a = some o) : SetS w h' a ks := by
  obtain ⟨o, es, ep, t, ho, z⟩ := R
  exact ⟨o, es, ep, t, k o ho, z⟩
theorem Rows.size (r : Rows w es t ks) : es.size = ks.length := by
  have q := r.perm.length_eq
  rw [List.length_map, Array.length_toList] at q
  exact q
theorem ent_is {e : Int × Value} (g : Ent w e) (k : Str) : (PySem.strKind P w).is k e.2 = true ↔ tx e = k := by
  obtain ⟨j, tk, rfl⟩ := g
  show (j == k) = true ↔ j = k
  exact beq_iff_eq
theorem Rows.elems (r : Rows w es t ks) : ElemsOf (PySem.strKind P w) es.toList := by
  intro e he
  obtain ⟨k, tk, rfl⟩ := r.ent e he
  exact ⟨⟨k, strKind_is P w k tk, rfl⟩, rfl⟩
theorem Rows.mem (r : Rows w es t ks) (k : Str) : k ∈ ks ↔ ∃ e ∈ es.toList, (PySem.strKind P w).is k e.2 = true := by
  rw [← r.perm.mem_iff, List.mem_map]
  exact ⟨fun ⟨e, he, q⟩ => ⟨e, he, (ent_is (r.ent e he) k).2 q⟩, fun ⟨e, he, q⟩ => ⟨e, he, (ent_is (r.ent e he) k).1 q⟩⟩
theorem SetS.of (R : SetS w h a ks) : h.SetOf (PySem.strKind P w) a (fun k => decide (k ∈ ks)) ks.length := by
  obtain ⟨o, es, ep, t, ho, hx, hd, r⟩ := R
  exact ⟨o, es, ep, t, ho, hx, hd, r.elems, fun k => by rw [decide_eq_true_iff]; exact r.mem k, r.few, r.fit, r.size⟩
theorem rows_new (w : World) : Rows w #[] (.fresh 0 0 (!w.params.followText "set-order")) [] where
  ent := fun e he => by simp at he
  perm := List.Perm.refl _
  nd := List.nodup_nil
  few := by decide
  fit := rfl
  ris := List.Pairwise.nil
  led := by
    show _ ∨ (!w.params.followText "set-order") = true
    cases w.params.followText "set-order" with
    | true => exact .inl rfl
    | false => exact .inr rfl
end
section
variable {P : Program} {w : World} {A : Around} {E : Value → Shared → Prop} {s : Shared} {a : Addr} {ks : List Str}
/-- the table is stored, and laid anew where it is too full -/
theorem stored {gave : Bool → Sem Unit} (hg : ∀ (b : Bool) (z : Shared) (Y : Unit → Shared → Prop), Y () z → wpAny (model P w) A (gave b) Y E z)
    {o : Obj} {es0 es : Array (Int × Value)} {ep : Nat} {t0 t : SetTable} (ho : s.heap.get? a = some o) (hx : o.ExactSet) (hd : o.data = .set es0 ep t0) (r : Rows w es t ks) {dummy : Bool} {Z : Option Bool → Shared → Prop}
    (hZ : ∀ h', Heap.SameBut a s.heap h' → SetS w h' a ks → Z (some true) { s with heap := h' }) :
    wpAny (model P w) A (do
        storeSet a es t
        if (!dummy && t.tooFull) = true then do
            gave (relayAll t es (SetTable.grown es.size)).2.2
            storeSet a (relayAll t es (SetTable.grown es.size)).1 (relayAll t es (SetTable.grown es.size)).2.1
            pure (some true)
          else pure (some true)) Z E s := by
  have first := Heap.SameBut.update s.heap a (Obj.putSet es t)
  have o1 := store_at (es' := es) (t' := t) ho hd
  refine wpAny_bind (wpAny_storeSet_of ho hd ?_ (fits_of_scanBound r.few))
  by_cases full : (!dummy && t.tooFull) = true
  · rw [if_pos full]
    have r2 : Rows w (relayAll t es (SetTable.grown es.size)).1 (relayAll t es (SetTable.grown es.size)).2.1 ks := by
      have pm := relayAll_perm t es (SetTable.grown es.size)
      have sz : (relayAll t es (SetTable.grown es.size)).1.size = es.size := by
        have q := pm.length_eq
        rw [Array.length_toList, Array.length_toList] at q
        exact q
      exact ⟨fun e he => r.ent e (pm.mem_iff.mp he), (pm.map tx).trans r.perm, r.nd, Nat.lt_of_le_of_lt (Nat.le_of_eq sz) r.few, relayAll_fits _ _ _, relayAll_ris _ _ _, r.led.imp (fun z => z) fun z => (relayAll_led _ _ _).trans z⟩
    refine wpAny_bind (hg _ _ _ (wpAny_bind (wpAny_storeSet_of o1 rfl ?_ (fits_of_scanBound r2.few))))
    exact wpAny_pure (hZ _ (first.trans (Heap.SameBut.update _ a _)) ⟨_, _, _, _, store_at o1 rfl, hx, rfl, r2⟩)
  · rw [if_neg full]
    exact wpAny_pure (hZ _ first ⟨_, _, _, _, o1, hx, rfl, r⟩)
theorem plain_off {w : World} {es : Array (Int × Value)} {t : SetTable} {ks : List Str} (r : Rows w es t ks) : Rows w es { t with plain := false } ks :=
  ⟨r.ent, r.perm, r.nd, r.few, SetTable.fits_plain_off r.fit, r.ris, r.led⟩
/-- a text whose hash is known is added -/
theorem add_at {k : Str} {tk : Tok} {Z : Bool → Shared → Prop} (R : SetS w s.heap a ks) (room : ks.length + 1 < scanBound)
    (hZ : ∀ b h', Heap.SameBut a s.heap h' → SetS w h' a (ins k ks) → Z b { s with heap := h' }) : wpAny (model P w) A (setAddHashed a (.str k tk) (hashStr w k)) Z E s := by
  obtain ⟨o, es, ep, t, ho, hx, hd, r⟩ := R
  have hel : ElemsOf (PySem.strKind P w) es.toList := r.elems
  have hscan : byScan (Value.str k tk) es = true := byScan_of rfl r.few hel
  unfold setAddHashed setAddHashedIn
  refine wpAny_holding (wpAny_bind (wpAny_setState_of ho hd r.fit ?_))
  dsimp only
  rw [hscan]
  simp only [↓reduceIte]
  unfold setAddByScan
  refine wpAny_bind (wpAny_bind (wpAny_rule (wpAny_bind (wpAny_setScan_of (knd := PySem.strKind P w) (k := k) (strKind_is P w k tk) ho hd r.fit hel ?_))))
  cases found : List.findIdx? (fun e => (PySem.strKind P w).is k e.2) es.toList with
  | some j =>
    obtain ⟨lt, hit, _⟩ := List.findIdx?_eq_some_iff_getElem.mp found
    have there : k ∈ ks := (r.mem (P := P) k).2 ⟨_, List.getElem_mem lt, hit⟩
    refine wpAny_pure (wpAny_pure (hZ _ s.heap (Heap.SameBut.refl a s.heap) ⟨o, es, ep, t, ho, hx, hd, ?_⟩))
    unfold ins
    rw [if_pos there]
    exact r
  | none =>
    have away : k ∉ ks := fun z => by
      obtain ⟨e, he, hit⟩ := (r.mem (P := P) k).1 z
      have no := List.findIdx?_eq_none_iff.mp found e he
      rw [hit] at no
      cases no
    have pm0 := layNew_perm t es (hashStr w k) (.str k tk)
    rw [Array.toList_push] at pm0
    have pm := pm0.trans (List.perm_append_singleton (hashStr w k, Value.str k tk) es.toList)
    have r1 : Rows w (layNew t es (hashStr w k) (.str k tk)).1 (layNew t es (hashStr w k) (.str k tk)).2.1 (ins k ks) := by
      have sz : (layNew t es (hashStr w k) (.str k tk)).1.size = ks.length + 1 := by
        have q := pm.length_eq
        rw [Array.length_toList, List.length_cons, Array.length_toList, r.size] at q
        exact q
      refine ⟨fun e he => ?_, ?_, ins_nodup r.nd, Nat.lt_of_le_of_lt (Nat.le_of_eq sz) room, layNew_fits _ _ _ _, layNew_ris _ _ _ _ r.ris, r.led.imp (fun z => z) fun z => (layNew_led _ _ _ _).trans z⟩
      · rcases List.mem_cons.mp (pm.mem_iff.mp he) with z | z
        · exact ⟨k, tk, z⟩
        · exact r.ent e z
      · unfold ins
        rw [if_neg away]
        exact (pm.map tx).trans (List.Perm.cons k r.perm)
    have gw : ∀ (b : Bool) (z : Shared) (Y : Unit → Shared → Prop), Y () z → wpAny (model P w) A (match b with | true => rule "set.scan.the-table-gave-way" | false => pure ()) Y E z := by
      intro b z Y q
      cases b with
      | true => exact wpAny_rule q
      | false => exact wpAny_pure q
    have goal2 : ∀ h', Heap.SameBut a s.heap h' → SetS w h' a (ins k ks) → Z true { s with heap := h' } := fun h' sb r' => hZ true h' sb r'
    dsimp only
    change wpAny _ _ _ _ _ _
    generalize layNew t es (hashStr w k) (.str k tk) = L at r1 ⊢
    obtain ⟨es1, t1, dummy, gave⟩ := L
    dsimp only at r1 ⊢
    refine wpAny_bind (gw _ _ _ ?_)
    by_cases pl : t1.plain = true
    · rw [if_pos pl]
      refine wpAny_bind ?_
      rw [hashByValue_scannable 8 (show (Value.str k tk).scannable = true from rfl)]
      refine wpAny_pure ?_
      refine stored gw ho hx hd (ks := ins k ks) ?_ fun h' sb r' => wpAny_pure (goal2 h' sb r')
      split
      · exact r1
      · exact plain_off r1
    · rw [if_neg pl]
      refine wpAny_bind (wpAny_pure ?_)
      simp only [↓reduceIte]
      exact stored gw ho hx hd (ks := ins k ks) r1 fun h' sb r' => wpAny_pure (goal2 h' sb r')
end
/-- the texts of the first i are put in, one by one -/
def insAll (ks : List Str) : List Str → List Str
  | [] => ks
  | x :: r => insAll (ins x ks) r
theorem insAll_mem {j : Str} : ∀ (xs ks : List Str), j ∈ insAll ks xs ↔ j ∈ xs ∨ j ∈ ks
  | [], ks => by simp [insAll]
  | x :: r, ks => by
    rw [insAll, insAll_mem r, ins_mem, List.mem_cons]
    constructor
    · rintro (h | h | h)
      · exact .inl (.inr h)
      · exact .inl (.inl h)
      · exact .inr h
    · rintro ((h | h) | h)
      · exact .inr (.inl h)
      · exact .inl h
      · exact .inr (.inr h)
theorem insAll_len : ∀ (xs ks : List Str), (insAll ks xs).length ≤ ks.length + xs.length
  | [], ks => Nat.le_refl _
  | x :: r, ks => by
    have h1 := insAll_len r (ins x ks)
    have h2 := ins_len (k := x) (ks := ks)
    rw [insAll, List.length_cons]
    omega
section
variable {P : Program} {w : World} {A : Around} {E : Value → Shared → Prop} {s : Shared}
/-- set.update's own loop over a walk that yields texts -/
theorem feed_loop {I : Addr} {fp wr : List Addr} {G : Array GenState → Array GenState → Prop} {n : Nat} {Y : Nat → Value → Prop} {St : Nat → Shared → Prop} {Z : Result → Shared → Prop}
    (W : WalksS P w A.in1 I fp wr G n Y St) (S : Addr) (out : S ∉ fp) (texts : List Str) (hn : texts.length = n) (hb : n + 1 < scanBound) (hY : ∀ i v, Y i v → ∃ k tk, texts[i]? = some k ∧ v = .str k tk) :
    ∀ (left : Nat) (i : Nat) (ks : List Str) (s : Shared), i + left = n → St i s → SetS w s.heap S ks → ks.length ≤ i →
      (∀ s', Moved (S :: wr) G s s' → SetS w s'.heap S (insAll ks (texts.drop i)) → Z (.ok (.ret .none)) s') → codeAny (model P w) A (.builtin "set.update.loop" ⟨[.ref S, .ref I], []⟩) Z s := by
  have quietS : S ∉ wr := fun z => out (W.sub _ z)
  have more : ∀ b ∈ wr, b ∈ S :: wr := fun b hb => List.mem_cons_of_mem _ hb
  intro left
  induction left with
  | zero =>
    intro i ks s hi hst hS _ hZ
    have e0 : texts.drop i = [] := List.drop_eq_nil_of_le (by omega)
    rw [e0] at hZ
    have e1 : i = n := by omega
    rw [e1] at hst
    refine codeAny_builtin F.entry_set_update_loop ?_
    rw [Around.under_plainId F.plain_set_update_loop _]
    show wpAny _ A.in1 (pyNext (.ref I) >>= _) _ _ s
    refine wpAny_bind (W.done s _ _ hst fun s' mv => wpAny_pure (hZ s' (mv.mono more) (hS.stay fun o e => mv.heap S o quietS e)))
  | succ left ih =>
    intro i ks s hi hst hS hk hZ
    have lt : i < n := by omega
    refine codeAny_builtin F.entry_set_update_loop ?_
    rw [Around.under_plainId F.plain_set_update_loop _]
    show wpAny _ A.in1 (pyNext (.ref I) >>= _) _ _ s
    refine wpAny_bind (W.item i s _ _ lt hst fun v s1 hv hst1 mv => ?_)
    obtain ⟨k, tk, hk1, rfl⟩ := hY i v hv
    have hS1 : SetS w s1.heap S ks := hS.stay fun o e => mv.heap S o quietS e
    have ed : texts.drop i = k :: texts.drop (i + 1) := by
      obtain ⟨lt2, e2⟩ := List.getElem?_eq_some_iff.mp hk1
      rw [← e2]
      exact List.drop_eq_getElem_cons lt2
    rw [ed] at hZ
    show wpAny _ A.in1 (holding [Value.str k tk] (setAdd S (.str k tk)) >>= _) _ _ s1
    unfold setAdd
    refine wpAny_bind (wpAny_holding (wpAny_holding (wpAny_bind ((PySem.strKind P w).pyHash (k := k) (strKind_is P w k tk) ?_))))
    refine add_at (s := { s1 with toks := s1.toks + 1 }) hS1 (by omega) fun b h' sb hS2 => ?_
    refine wpAny_pure ⟨plainId_quiet F.plain_set_update_loop _, ih (i + 1) (ins k ks) _ (by omega) (W.frame _ s1 _ _ hst1 (Nat.le_succ _) fun c hc o e => ?_) hS2 ?_ fun s2 mv2 hS3 => ?_⟩
    · have away : c ≠ S := fun z => out (z ▸ hc)
      rw [sb.2 c away]
      exact e
    · have := ins_len (k := k) (ks := ks)
      omega
    · refine hZ s2 (Moved.trans W.gtrans ((mv.mono more).then_heap (Nat.le_succ _) fun c o hc e => ?_) mv2) hS3
      have away : c ≠ S := fun z => hc (z ▸ List.mem_cons_self)
      rw [sb.2 c away]
      exact e
/-- the empty set, as it is made -/
abbrev bare (w : World) : Obj := { cls := .type "set", dict := none, data := .set #[] 0 (.fresh 0 0 (!w.params.followText "set-order")) }
theorem bare_holds {h : Heap} {a : Addr} (ho : h.get? a = some (bare w)) : SetS w h a [] := ⟨_, _, _, _, ho, ⟨rfl, rfl, rfl⟩, rfl, rows_new w⟩
set_option maxHeartbeats 8000000 in
theorem set_of_list {l : Addr} {items : Array Value} (texts : List Str) {Z : Value → Shared → Prop} (hh : A.handled = none) (hl : s.heap.IsList l items) (ht : StrsAre items.toList texts) (hb : texts.length + 1 < scanBound)
    (hZ : ∀ (h' : Heap) (tk : Nat), SetS w h' s.heap.objs.size (insAll [] texts) → (∀ b o, s.heap.get? b = some o → h'.get? b = some o) → Z (.ref s.heap.objs.size) { s with heap := h', toks := tk }) :
    wpAny (model P w) A (call (.type "set") [.ref l]) Z E s := by
  have count : texts.length = items.size := by
    have q := StrsAre.len_eq ht
    rw [Array.length_toList] at q
    exact q.symm
  obtain ⟨c, tl, hmro⟩ := F.called_set.mro
  have made := F.called_set.made
  have sub := F.called_set.sub
  have noType := F.called_set.notType
  have can := F.called_set.canCreate
  have tcall := F.typeCall_set_1 (.ref l)
  refine wpAny_call (codeAny_of_tree ?_)
  show wpAny _ _ (callAny (.type "set") _) _ _ _
  refine wpAny_pure ⟨Code.quiet_builtin _ (by decide +kernel), codeAny_builtin F.entry_type_call ?_⟩
  rw [Around.under_plain (weight_type_call_type "set" [.ref l] []) rfl]
  repeat (any_goals (first | assumption | wp_step))
  refine codeAny_mono (code_set_led1 (.ref l) (E := E) (Q₁ := fun v z => v = .ref s.heap.objs.size ∧ z = { s with heap := s.heap.push (bare w) }) ⟨rfl, rfl⟩) fun r z hr => ?_
  match r, hr with
  | .error _, hr => exact hr
  | .ok .next, hr => exact hr.elim
  | .ok .brk, hr => exact hr.elim
  | .ok .cont, hr => exact hr.elim
  | .ok (.ret _), hr =>
    obtain ⟨rfl, rfl⟩ := hr
    have hS : (s.heap.push (bare w)).get? s.heap.objs.size = some (bare w) := Heap.get?_push_size _ rfl
    have isSet : Shared.TypeIs { s with heap := s.heap.push (bare w) } (.ref s.heap.objs.size) "set" := ⟨_, hS, rfl⟩
    have initL := F.called_set.init.lookup
    have initB := F.called_set.init.bind (.ref s.heap.objs.size)
    repeat (any_goals (first | assumption | wp_step))
    refine codeAny_mono (codeAny_call_builtin (R := wants (fun v z => v = .none ∧ ∃ h' tk, z = { s with heap := h', toks := tk } ∧ SetS w h' s.heap.objs.size (insAll [] texts) ∧ ∀ b o, s.heap.get? b = some o → h'.get? b = some o) E)
      F.called_set.init.plain F.entry_set_init (check_set_init_1 isSet ?_)) fun r z hr => ?_
    · have hl1 : (s.heap.push (bare w)).IsList l items := hl.push _
      obtain ⟨⟨_, dd, _, sl⟩, hol, rfl, nl, rfl⟩ := id hl
      have hol1 : (s.heap.push (bare w)).get? l = some ⟨.type "list", dd, .seq items nl, sl⟩ := Heap.get?_push_of_some _ hol
      have sub1 := F.sub_list_set
      have sub2 := F.sub_list_frozenset
      have unlike : (Value.type "list" == Value.type "dict") = false := by decide
      unfold Builtin.«set.__init__» noKeywords Builtin.Frozenset.updateFrom
      generalize hPI : pyIter = PI
      wp_walk
      subst hPI
      refine wpAny_pyIter_list hl1 (wpAny_bind (wpAny_runValue ?_))
      have old : l < s.heap.objs.size := Heap.lt_size hol
      have sz1 : (s.heap.push (bare w)).objs.size = s.heap.objs.size + 1 := Heap.size_push ..
      have apart : l ≠ (s.heap.push (bare w)).objs.size := by
        rw [sz1]
        exact Nat.ne_of_lt (Nat.lt_succ_of_lt old)
      have out : s.heap.objs.size ∉ [(s.heap.push (bare w)).objs.size, l] := by
        intro z
        rcases List.mem_cons.mp z with z | z
        · rw [sz1] at z
          omega
        · exact absurd old (by rw [← List.mem_singleton.mp z]; exact Nat.lt_irrefl _)
      have texty : ∀ (i : Nat) (v : Value), items[i]? = some v → ∃ k tk, texts[i]? = some k ∧ v = .str k tk := fun i v hv => by
        have hi : i < texts.length := by
          rw [count]
          exact (Array.getElem?_eq_some_iff.mp hv).1
        obtain ⟨tk, e⟩ := SS.strs_at ht i v (by rw [Array.getElem?_toList]; exact hv)
        refine ⟨texts[i], tk, List.getElem?_eq_getElem hi, ?_⟩
        rw [e, List.getD_eq_getElem?_getD, List.getElem?_eq_getElem hi]
        rfl
      have hh3 : A.in1.in1.in1.handled = none := by simp [hh]
      refine feed_loop ((Walks.list hh3 _ l apart items).toS) s.heap.objs.size out texts count (by rw [← count]; exact hb) texty items.size 0 [] _ (Nat.zero_add _) ⟨⟨_, Heap.get?_push_size _ rfl, rfl, rfl⟩, hl1.push _⟩
        (bare_holds (Heap.get?_push_of_some _ hS)) (Nat.le_refl _) fun s' mv hS' => ?_
      obtain ⟨h', g', d', tk', os'⟩ := s'
      have eg : g' = s.gens := mv.gens
      have ed : d' = s.drawn := mv.drawn
      have eo : os' = s.os := mv.os
      subst eg ed eo
      show wpAny _ _ _ _ _ _
      refine wpAny_pure ?_
      show wpAny _ _ (ret Value.none) _ _ _
      refine wpAny_pure ⟨rfl, h', tk', rfl, hS', fun b o e => ?_⟩
      have lt := Heap.lt_size e
      refine mv.heap b o (fun z => ?_) (Heap.get?_push_of_some _ (Heap.get?_push_of_some _ e))
      rcases List.mem_cons.mp z with z | z
      · rw [z] at lt
        exact Nat.lt_irrefl _ lt
      · have z2 := List.mem_singleton.mp z
        have lt2 : b < (s.heap.push (bare w)).objs.size := by
          rw [sz1]
          exact Nat.lt_succ_of_lt lt
        rw [z2] at lt2
        exact Nat.lt_irrefl _ lt2
    · match r, hr with
      | .error _, hr => exact hr
      | .ok .next, hr => exact hr.elim
      | .ok .brk, hr => exact hr.elim
      | .ok .cont, hr => exact hr.elim
      | .ok (.ret _), hr =>
        obtain ⟨rfl, h', tk, rfl, hS', keep⟩ := hr
        repeat (any_goals (first | assumption | wp_step))
        exact hZ _ _ hS' keep
/-- the texts of values that are texts -/
theorem texts_of : ∀ (vs : List Value), (∀ v ∈ vs, ∃ k tk, v = Value.str k tk) → ∃ ks, StrsAre vs ks ∧ ks = vs.map fun v => tx (0, v)
  | [], _ => ⟨[], .nil, rfl⟩
  | v :: vs, h => by
    obtain ⟨k, tk, rfl⟩ := h v List.mem_cons_self
    obtain ⟨ks, h1, h2⟩ := texts_of vs fun u hu => h u (List.mem_cons_of_mem _ hu)
    exact ⟨k :: ks, .cons k tk h1, by rw [h2]; rfl⟩
theorem sorted_of_set {a : Addr} {ks : List Str} {Z : Value → Shared → Prop} (R : SetS w s.heap a ks) (hh : A.handled = none) (few : ks.length < 64)
    (hZ : ∀ s' p (out : Array Value) (c : Nat) (ys : List Str), (∀ b o, s.heap.get? b = some o → s'.heap.get? b = some o) → s'.gens = s.gens → s'.os = s.os → s.heap.objs.size ≤ p →
      s'.heap.get? p = some (seqObj "list" out c) → StrsAre out.toList ys → ys.Perm ks → sortedS ys = true → Z (.ref p) s') :
    wpAny (model P w) A (call (.builtin "sorted") [.ref a]) Z E s := by
  obtain ⟨o, es, ep, t, ho, hx, hd, r⟩ := R
  refine Calls.call_function_entry kind_sorted plain_sorted entry_sorted (args_sorted1 _) ?_
  unfold Builtin.«sorted»
  refine wpAny_bind (m := checkCount "sorted" 1 1 _) (wpAny_pure ?_)
  refine wpAny_bind (collect_set (A := A.in1) hh ⟨o, ho, hx.1, hd⟩ r.fit r.few r.ris r.led fun s1 vs keep more g1 o1 pm => ?_)
  obtain ⟨texts, isT, eT⟩ := texts_of vs fun v hv => by
    obtain ⟨e, he, q⟩ := List.mem_map.mp (pm.mem_iff.mp hv)
    obtain ⟨k, tk, ee⟩ := r.ent e he
    exact ⟨k, tk, by rw [← q, ee]⟩
  have pT : texts.Perm ks := by
    refine List.Perm.trans ?_ r.perm
    rw [eT]
    have q := pm.map fun v => tx (0, v)
    rw [List.map_map] at q
    exact q
  have len : vs.length = ks.length := by
    rw [StrsAre.len_eq isT]
    exact pT.length_eq
  have line : vs.length ≤ sizeLine := by
    rw [len, sizeLine_eq]
    omega
  have hL : (s1.heap.push (seqObj "list" vs.toArray 0)).get? s1.heap.objs.size = some (seqObj "list" vs.toArray 0) := Heap.get?_push_size _ rfl
  refine wpAny_bind (wpAny_newList ?_ line)
  refine wpAny_bind (wpAny_holding (wpAny_call_entry slot_list_sort ⟨_, hL, rfl⟩ entry_list_sort (list_sort_treeK strKind_oneLt hL isT.keysOf (fun v₁ v₂ rest e => keyKind_strs (by rw [← e]; exact isT)) (by rw [len]; exact few) fun st hp hs => ?_) (args_list_sort _)))
  obtain ⟨ys, y1, y2, y3⟩ := sorted_out_str isT hp hs
  obtain ⟨c, hc⟩ := sortedHeap_at (vs := vs) (out := (arrOf st).map (·.2)) hL
  refine ⟨_, rfl, wpAny_pure ⟨_, rfl, hZ _ s1.heap.objs.size _ c ys (fun b u e => ?_) g1 o1 more hc y1 (y2.trans pT) y3⟩⟩
  have q := keep b u e
  have lt := Heap.lt_size q
  show (sortedHeap (s1.heap.push (seqObj "list" vs.toArray 0)) s1.heap.objs.size vs _).get? b = some u
  rw [sortedHeap_old (Nat.ne_of_lt lt) (by rw [Heap.size_push]; exact Nat.lt_succ_of_lt lt)]
  exact Heap.get?_push_of_some _ q
end
end Sx
set_option Elab.async false
set_option linter.all false
set_option maxRecDepth 100000
set_option maxHeartbeats 4000000
/-! The rules over sets of texts. -/
namespace Sx
open PySem PySem.Spec PyProof.Rows L2
/-- a set of the texts ks stands at a -/
def SetX (w : World) (a : Addr) (ks : List Str) : HO := .ext fun h => SetS w h a ks
section
variable {X : Cx}
theorem setX_new {w : World} {P : Program} {H : Hp} {h : Heap} {a : Addr} {ks : List Str} (R : SetS w h a ks) : ObjOk P w H h a (SetX w a ks) := by
  have ⟨o, _, _, _, ho, _⟩ := R
  exact ⟨R, ⟨o, ho⟩, fun _ _ r k => SetS.stay r k⟩
theorem setX_get {pins : List (Addr × Obj)} {σ : L2.St} {H : Hp} {s : Shared} {a : Addr} {ks : List Str} (I : Inv X pins σ H s) (e : H a = some (SetX X.w a ks)) : SetS X.w s.heap a ks := (I.hok a _ e).1
/-- set() -/
def rNewX (w : World) : List V → Hp → VK → Prop := fun xs H Q => xs = [] ∧ ∀ p, H p = none → Q (.ref p) (upd H p (SetX w p []))
theorem cr_newX : CallR X (.type "set") (rNewX X.w) := by
  intro pins s σ H xs us Q I r ⟨e, q⟩
  subst e
  cases r
  refine setR_new fun _ => ⟨.ref _, upd H s.heap.objs.size (SetX X.w s.heap.objs.size []), ?_, rfl, q _ (I.hok.fresh (Nat.le_refl _))⟩
  exact I.laid (t' := s.toks) (fun b u e => Heap.get?_push_of_some _ e) (Nat.le_refl _) (setX_new (bare_holds (Heap.get?_push_size _ rfl)))
/-- set(a list of texts) -/
def rOfX (K : PySem.W.Frag) (w : World) : List V → Hp → VK → Prop := fun xs H Q => ∃ (l : Addr) (texts : List Str), xs = [.ref l] ∧ SqL K H l (texts.map V.str) ∧ texts.length + 1 < scanBound ∧
  ∀ p, H p = none → Q (.ref p) (upd H p (SetX w p (insAll [] texts)))
theorem cr_ofX (hc : X.calm = true) : CallR X (.type "set") (rOfX X.K X.w) := by
  intro pins s σ H xs us Q I r ⟨l, texts, e, hq, few, q⟩
  subst e
  rw [Vals.ref1 r]
  obtain ⟨its, rv, pl, _⟩ := I.list hq
  refine set_of_list texts (I.ok.hd hc) pl.isList (by simpa using strsAre_of rv) few fun h' tk hS keep => ?_
  exact ⟨.ref _, upd H s.heap.objs.size (SetX X.w s.heap.objs.size (insAll [] texts)), I.laid (t' := tk) keep (Nat.le_refl _) (setX_new hS), rfl, q _ (I.hok.fresh (Nat.le_refl _))⟩
/-- found.add(text) -/
def rAddX (w : World) : V → List V → Hp → VK → Prop := fun x xs H Q => ∃ (a : Addr) (k : Str) (ks : List Str), x = V.ref a ∧ xs = [V.str k] ∧ H a = some (SetX w a ks) ∧ ks.length + 1 < scanBound ∧ Q .non (upd H a (SetX w a (ins k ks)))
theorem mt_addX : MtR X "set.add" (rAddX X.w) := by
  intro pins s σ H x xs v us Q I rx rxs ⟨a, k, ks, e1, e2, ha, room, q⟩
  subst e1 e2
  cases rx
  obtain ⟨u, rfl, tk, rfl⟩ := vals1 rxs
  have R := setX_get I ha
  refine wpAny_call_entry F.slot_set_add (R.of (P := X.prog)).typeIs F.entry_set_add ?_ (F.args_set_add_2 _ _)
  unfold Builtin.«set.add» Builtin.Frozenset.oneOther
  simp only [List.isEmpty_nil, bind_assoc]
  unfold Builtin.Frozenset.addrOf setAdd
  refine wpAny_bind (wpAny_pure ?_)
  try dsimp only
  refine wpAny_bind (wpAny_pure ?_)
  try dsimp only
  refine wpAny_bind (wpAny_holding (wpAny_bind ((PySem.strKind X.prog X.w).pyHash (strKind_is X.prog X.w k tk) ?_)))
  refine add_at (s := { s with toks := s.toks + 1 }) R room fun b h' sb new => ?_
  show wpAny _ _ (ret Value.none) _ _ _
  have there : ∃ u, h'.get? a = some u := by
    obtain ⟨o, _, _, _, ho, _⟩ := new
    exact ⟨o, ho⟩
  exact wpAny_pure ⟨_, rfl, .non, upd H a (SetX X.w a (ins k ks)), I.write (e := a) (t' := s.toks + 1) (by rw [ha]; trivial) (.inl rfl) (fun c u hc hu => (sb.2 c hc).trans hu) there (setX_new new), rfl, q⟩
def tAddX (w : World) (to : TE) (t : TA) : TE := fun σ H Q => to σ H fun x H1 => (∃ a ks, x = V.ref a ∧ H1 a = some (SetX w a ks)) ∧ t σ H1 fun xs H2 => rAddX w x xs H2 Q
theorem pe_addX {o e : Expr} {to : TE} {t : TA} {apos cpos : Pos} (ho : PE X o to) (ha : PA X [e] t)
    (h1 : attributeBase o "add" X.env (eval o X.env) = eval o X.env := by rfl)
    (h2 : ((backTo cpos (starEach [e] X.env)).all (fun x => !x.1) && (backToKw cpos (keywordEach [] X.env)).all (fun x => x.1.isSome) && decide ([e].length + ([] : List Keyword).length + (if ([] : List Keyword).isEmpty then 0 else 1) < 30)) = true := by rfl)
    (h3 : (apos.endLine == cpos.line) = true := by rfl) (h4 : starEach [e] X.env = (false, eval e X.env) :: starEach [] X.env := by rfl) (h5 : (backTo cpos (starEach [] X.env)).any (·.1) = false := by rfl) :
    PE X (.Call (.Attribute o "add" apos) [e] [] cpos) (tAddX X.w to t) := by
  refine ⟨fun pins s σ H Q I h => wpAny_Call_method_late h1 h2 h3 rfl (thn (ho.run pins s σ H _ I h) fun v s1 ⟨x, H1, I1, r1, ⟨a, ks, ex, hka⟩, q1⟩ => ?_)⟩
  subst ex
  cases r1
  have R := (setX_get I1 hka).of (P := X.prog)
  have run := ha.run cpos pins s1 σ H1 _ I1 q1
  refine ⟨"set", "set.add", F.plainAttrs_set, F.slot_set_add, F.type_set_add, R.typeIs, R.noDict, ?_⟩
  rw [h4] at run ⊢
  refine Calls.callWith_builtin (by show (false || (backTo cpos (starEach [] X.env)).any (·.1)) = false; rw [h5]; rfl) (Calls.evalArgs_plain (thn run fun us s2 ⟨vs, H2, I2, r2, q2⟩ => ?_))
  exact mt_addX pins s2 σ H2 (.ref a) vs (.ref a) us Q I2 rfl r2 q2
/-- sorted(a set of texts) -/
def rSortX (w : World) : List V → Hp → VK → Prop := fun vs H Q => ∃ (a : Addr) (ks : List Str), vs = [V.ref a] ∧ H a = some (SetX w a ks) ∧ ks.length < 64 ∧
  ∀ (ys : List Str) (p : Addr), ys.Perm ks → ys.Nodup → sortedS ys = true → H p = none → Q (.ref p) (upd H p (.lst (ys.map V.str)))
theorem cr_sortX (hc : X.calm = true) : CallR X (.builtin "sorted") (rSortX X.w) := by
  intro pins s σ H vs us Q I r ⟨a, ks, e, ha, few, q⟩
  subst e
  rw [Vals.ref1 r]
  have R := setX_get I ha
  have nd : ks.Nodup := by
    obtain ⟨_, _, _, _, _, _, _, rows⟩ := R
    exact rows.nd
  refine sorted_of_set R (I.ok.hd hc) few fun s' p out c ys keep g1 o1 old hp y1 y2 y3 => ?_
  have line : (ys.map V.str).length ≤ sizeLine := by
    rw [List.length_map, y2.length_eq]
    exact small64 few
  have free : H p = none := I.hok.fresh old
  have J : Inv X pins σ (upd H p (.lst (ys.map V.str))) { s with heap := s'.heap, gens := s'.gens, drawn := s'.drawn, toks := s'.toks } :=
    I.call (ch := []) (Un.laid keep old free) (I.hok.laid keep old ⟨line, out.toList, c, vals_of_strs y1, hp⟩) (by rw [g1]; exact I.bare) (fun _ z => nomatch z)
  have back : s' = { s with heap := s'.heap, gens := s'.gens, drawn := s'.drawn, toks := s'.toks } := by
    cases s'
    cases s
    cases o1
    rfl
  rw [back]
  exact ⟨.ref p, _, J, rfl, q ys p y2 (y2.nodup_iff.mpr nd) y3 free⟩
end
end Sx
set_option Elab.async false
set_option linter.all false
set_option maxRecDepth 100000
set_option maxHeartbeats 4000000
/-! Trees, heaps: what the defs of these laws share. -/
namespace Kf
open PySem PySem.Spec PyProof.Rows L2 Sx
/-! ### lists, pair by pair -/
inductive All2 {α β : Type} (F : α → β → Prop) : List α → List β → Prop
  | nil : All2 F [] []
  | cons {a : α} {b : β} {l : List α} {m : List β} : F a b → All2 F l m → All2 F (a :: l) (b :: m)
section
variable {α β : Type} {F G : α → β → Prop}
theorem All2.len : ∀ {l : List α} {m : List β}, All2 F l m → l.length = m.length
  | _, _, .nil => rfl
  | _, _, .cons _ t => congrArg Nat.succ t.len
theorem All2.app : ∀ {l l2 : List α} {m m2 : List β}, All2 F l m → All2 F l2 m2 → All2 F (l ++ l2) (m ++ m2)
  | _, _, _, _, .nil, h => h
  | _, _, _, _, .cons r t, h => .cons r (t.app h)
theorem All2.mono (f : ∀ a b, F a b → G a b) : ∀ {l : List α} {m : List β}, All2 F l m → All2 G l m
  | _, _, .nil => .nil
  | _, _, .cons r t => .cons (f _ _ r) (t.mono f)
theorem All2.one {a : α} {b : β} (h : F a b) : All2 F [a] [b] := .cons h .nil
theorem All2.rev : ∀ {l : List α} {m : List β}, All2 F l m → All2 F l.reverse m.reverse
  | _, _, .nil => .nil
  | _, _, .cons r t => by
    rw [List.reverse_cons, List.reverse_cons]
    exact t.rev.app (.one r)
theorem All2.last {l : List α} {m : List β} {y : β} (h : All2 F l (m ++ [y])) : ∃ k x, l = k ++ [x] ∧ All2 F k m ∧ F x y := by
  have q := h.rev
  rw [List.reverse_append, List.reverse_singleton, List.singleton_append] at q
  generalize hr : l.reverse = r at q
  cases q with
  | @cons x _ k _ r t =>
    have t2 := t.rev
    rw [List.reverse_reverse] at t2
    refine ⟨k.reverse, x, ?_, t2, r⟩
    have e := congrArg List.reverse hr
    rw [List.reverse_reverse, List.reverse_cons] at e
    exact e
theorem All2.get : ∀ {l : List α} {m : List β} {i : Nat} {y : β}, All2 F l m → m[i]? = some y → ∃ x, l[i]? = some x ∧ F x y
  | _, _, _, _, .nil, h => by simp at h
  | _, _, 0, _, .cons r _, h => ⟨_, rfl, (Option.some.inj h) ▸ r⟩
  | _, _, i + 1, _, .cons _ t, h => t.get (i := i) (by simpa using h)
end
/-! ### heaps -/
/-- all but what stands at f is as it was -/
def But (f : Addr) (H H' : Hp) : Prop := ∀ b o, b ≠ f → H b = some o → H' b = some o
/-- all tuples stand -/
def Tups (H H' : Hp) : Prop := ∀ b xs, H b = some (.tup xs) → H' b = some (.tup xs)
section
variable {f : Addr} {H H1 H2 : Hp} {p : Addr} {o : HO}
theorem But.refl (f : Addr) (H : Hp) : But f H H := fun _ _ _ e => e
theorem But.trans (a : But f H H1) (b : But f H1 H2) : But f H H2 := fun c u n e => b c u n (a c u n e)
theorem but_same (a : Same H H1) : But f H H1 := fun c u _ e => a c u e
theorem But.new (a : But f H H1) (h : H1 p = none) : But f H (upd H1 p o) := fun c u n e => by
  have q := a c u n e
  rw [upd_ne (ne_of_none q h)]
  exact q
theorem But.own (a : But f H H1) : But f H (upd H1 f o) := fun c u n e => by
  rw [upd_ne n]
  exact a c u n e
theorem same_new (h : H p = none) : Same H (upd H p o) := fun b u q => by
  rw [upd_ne (ne_of_none q h)]
  exact q
theorem same_put (s : Same H H1) (h : H1 p = none) : Same H (upd H1 p o) := fun b u q => by
  rw [upd_ne (ne_of_none (s b u q) h)]
  exact s b u q
theorem Tups.refl (H : Hp) : Tups H H := fun _ _ e => e
theorem Tups.trans (a : Tups H H1) (b : Tups H1 H2) : Tups H H2 := fun c u e => b c u (a c u e)
theorem tups_same (a : Same H H1) : Tups H H1 := fun c u e => a c _ e
theorem But.tups {xs : List V} (a : But f H H1) (h : H f = some (.lst xs)) : Tups H H1 := fun c u e => a c _ (fun z => by
  rw [z, h] at e
  cases e) e
theorem tups_put (h : ∀ xs, H p ≠ some (.tup xs)) : Tups H (upd H p o) := fun c u e => by
  rw [upd_ne (fun z => h u (by rw [← z]; exact e))]
  exact e
end
/-! ### trees -/
inductive Tr where
  | leaf (w : Str) (x : V)
  | n0 (w : Str)
  | n1 (w : Str) (a : Tr)
  | n2 (w : Str) (a b : Tr)
abbrev leafVs : List V := [.str "num", .str "name", .str "bound"]
abbrev bindVs : List V := [.str "all", .str "some"]
def leafy (w : Str) : Bool := inV (.str w) leafVs
def binds (w : Str) : Bool := inV (.str w) bindVs
/-- how many stand around the parts -/
def inner (w : Str) (r : Nat) : Nat := if binds w = true then r + 1 else r
def Tr.word : Tr → Str
  | .leaf w _ => w
  | .n0 w => w
  | .n1 w _ => w
  | .n2 w _ _ => w
def Tr.kids : Tr → List Tr
  | .leaf _ _ => []
  | .n0 _ => []
  | .n1 _ a => [a]
  | .n2 _ a b => [a, b]
/-- the tree t is the value v -/
def At (H : Hp) : Tr → V → Prop
  | .leaf w x, v => ∃ p, v = .ref p ∧ H p = some (.tup [.str w, x])
  | .n0 w, v => ∃ p, v = .ref p ∧ H p = some (.tup [.str w])
  | .n1 w a, v => ∃ p y, v = .ref p ∧ H p = some (.tup [.str w, y]) ∧ At H a y
  | .n2 w a b, v => ∃ p y z, v = .ref p ∧ H p = some (.tup [.str w, y, z]) ∧ At H a y ∧ At H b z
theorem At.keep {H H' : Hp} (k : Tups H H') : ∀ {t : Tr} {v : V}, At H t v → At H' t v
  | .leaf _ _, _, ⟨p, e, h⟩ => ⟨p, e, k _ _ h⟩
  | .n0 _, _, ⟨p, e, h⟩ => ⟨p, e, k _ _ h⟩
  | .n1 _ _, _, ⟨p, y, e, h, a⟩ => ⟨p, y, e, k _ _ h, a.keep k⟩
  | .n2 _ _ _, _, ⟨p, y, z, e, h, a, b⟩ => ⟨p, y, z, e, k _ _ h, a.keep k, b.keep k⟩
/-- leaves by their words -/
def Tr.Ok : Tr → Prop
  | .leaf w x => leafy w = true ∧ ((∃ i, x = .int i) ∧ w ≠ "name" ∨ (∃ z, x = .str z) ∧ w = "name")
  | .n0 w => leafy w = false
  | .n1 w a => leafy w = false ∧ a.Ok
  | .n2 w a b => leafy w = false ∧ a.Ok ∧ b.Ok
/-- how far within one another -/
def Tr.deep : Tr → Nat
  | .leaf _ _ => 1
  | .n0 _ => 1
  | .n1 _ a => a.deep + 1
  | .n2 _ a b => max a.deep b.deep + 1
def Tr.size : Tr → Nat
  | .leaf _ _ => 1
  | .n0 _ => 1
  | .n1 _ a => a.size + 1
  | .n2 _ a b => a.size + b.size + 1
theorem size_deep : ∀ t : Tr, t.size + 1 ≤ 2 ^ t.deep
  | .leaf _ _ => Nat.le_refl _
  | .n0 _ => Nat.le_refl _
  | .n1 _ a => by
    have h := size_deep a
    have p : 2 ^ (a.deep + 1) = 2 ^ a.deep * 2 := Nat.pow_succ _ _
    show a.size + 1 + 1 ≤ 2 ^ (a.deep + 1)
    omega
  | .n2 _ a b => by
    have h := size_deep a
    have h2 := size_deep b
    have p : 2 ^ (max a.deep b.deep + 1) = 2 ^ (max a.deep b.deep) * 2 := Nat.pow_succ _ _
    have q1 : 2 ^ a.deep ≤ 2 ^ (max a.deep b.deep) := Nat.pow_le_pow_right (by decide) (Nat.le_max_left _ _)
    have q2 : 2 ^ b.deep ≤ 2 ^ (max a.deep b.deep) := Nat.pow_le_pow_right (by decide) (Nat.le_max_right _ _)
    show a.size + b.size + 1 + 1 ≤ 2 ^ (max a.deep b.deep + 1)
    omega
def Tr.names : Tr → List Str
  | .leaf w x => if w = "name" then (match x with | .str z => [z] | _ => []) else []
  | .n0 _ => []
  | .n1 _ a => a.names
  | .n2 _ a b => a.names ++ b.names
theorem names_size : ∀ t : Tr, t.names.length ≤ t.size
  | .leaf w x => by
    show (if w = "name" then (match x with | .str z => [z] | _ => []) else ([] : List Str)).length ≤ 1
    split
    · cases x <;> simp
    · simp
  | .n0 _ => Nat.zero_le _
  | .n1 _ a => Nat.le_succ_of_le (names_size a)
  | .n2 _ a b => by
    have h1 := names_size a
    have h2 := names_size b
    show (a.names ++ b.names).length ≤ a.size + b.size + 1
    rw [List.length_append]
    omega
/-! ### the pieces, parts ahead of the whole, from the left; each with how many all and some stand around it -/
def Tr.post : Tr → Nat → List (Tr × Nat)
  | .leaf w x, r => [(.leaf w x, r)]
  | .n0 w, r => [(.n0 w, r)]
  | .n1 w a, r => a.post (inner w r) ++ [(.n1 w a, r)]
  | .n2 w a b, r => a.post (inner w r) ++ b.post (inner w r) ++ [(.n2 w a b, r)]
theorem post_len : ∀ (t : Tr) (r : Nat), (t.post r).length = t.size
  | .leaf _ _, _ => rfl
  | .n0 _, _ => rfl
  | .n1 w a, r => by
    show (a.post _ ++ [_]).length = a.size + 1
    rw [List.length_append, post_len a]
    rfl
  | .n2 w a b, r => by
    show (a.post _ ++ b.post _ ++ [_]).length = a.size + b.size + 1
    rw [List.length_append, List.length_append, post_len a, post_len b]
    rfl
theorem post_kids (t : Tr) (r : Nat) : t.post r = (t.kids.flatMap fun a => a.post (inner t.word r)) ++ [(t, r)] := by
  cases t with
  | leaf w x => rfl
  | n0 w => rfl
  | n1 w a => simp [Tr.post, Tr.kids, Tr.word]
  | n2 w a b => simp [Tr.post, Tr.kids, Tr.word]
/-- what a whole list of pieces has for names -/
def leafName : Tr → List Str
  | .leaf w x => Tr.names (.leaf w x)
  | _ => []
theorem post_names : ∀ (t : Tr) (r : Nat), ((t.post r).flatMap fun (e : Tr × Nat) => leafName e.1) = t.names
  | .leaf w x, r => by simp [Tr.post, leafName]
  | .n0 w, r => by simp [Tr.post, leafName, Tr.names]
  | .n1 w a, r => by
    show ((a.post _ ++ [_]).flatMap fun (e : Tr × Nat) => leafName e.1) = a.names
    rw [List.flatMap_append, post_names a]
    simp [leafName]
  | .n2 w a b, r => by
    show ((a.post _ ++ b.post _ ++ [_]).flatMap fun (e : Tr × Nat) => leafName e.1) = a.names ++ b.names
    rw [List.flatMap_append, List.flatMap_append, post_names a, post_names b]
    simp [leafName]
theorem post_ok : ∀ (t : Tr) (r : Nat), t.Ok → ∀ e ∈ t.post r, e.1.Ok
  | .leaf w x, r, h, e, he => by
    rw [List.mem_singleton.mp he]
    exact h
  | .n0 w, r, h, e, he => by
    rw [List.mem_singleton.mp he]
    exact h
  | .n1 w a, r, h, e, he => by
    rcases List.mem_append.mp he with z | z
    · exact post_ok a _ h.2 e z
    · rw [List.mem_singleton.mp z]
      exact h
  | .n2 w a b, r, h, e, he => by
    rcases List.mem_append.mp he with z | z
    · rcases List.mem_append.mp z with z | z
      · exact post_ok a _ h.2.1 e z
      · exact post_ok b _ h.2.2 e z
    · rw [List.mem_singleton.mp z]
      exact h
theorem no_leaf {w : Str} (h : leafy w = false) (z : leafy w = true) : False := by
  rw [h] at z
  cases z
/-- a tree's own tuple -/
theorem At.view {H : Hp} {t : Tr} {v : V} (h : At H t v) (ok : t.Ok) : ∃ p vs, v = .ref p ∧ H p = some (.tup (.str t.word :: vs)) ∧ vs.length ≤ 2 ∧ (leafy t.word = false → All2 (At H) t.kids vs) ∧ (leafy t.word = true → ∃ x, t = .leaf t.word x ∧ vs = [x]) := by
  cases t with
  | leaf w x =>
    obtain ⟨p, e, h⟩ := h
    exact ⟨p, [x], e, h, Nat.le_succ 1, fun z => (no_leaf z ok.1).elim, fun _ => ⟨x, rfl, rfl⟩⟩
  | n0 w =>
    obtain ⟨p, e, h⟩ := h
    exact ⟨p, [], e, h, Nat.zero_le 2, fun _ => .nil, fun z => (no_leaf ok z).elim⟩
  | n1 w a =>
    obtain ⟨p, y, e, h, ha⟩ := h
    exact ⟨p, [y], e, h, Nat.le_succ 1, fun _ => .one ha, fun z => (no_leaf ok.1 z).elim⟩
  | n2 w a b =>
    obtain ⟨p, y, z, e, h, ha, hb⟩ := h
    exact ⟨p, [y, z], e, h, Nat.le_refl 2, fun _ => .cons ha (.one hb), fun q => (no_leaf ok.1 q).elim⟩
theorem kids_ok {t : Tr} (ok : t.Ok) : ∀ a ∈ t.kids, a.Ok := by
  cases t with
  | leaf w x => intro a h; cases h
  | n0 w => intro a h; cases h
  | n1 w a =>
    intro c h
    rw [List.mem_singleton.mp h]
    exact ok.2
  | n2 w a b =>
    intro c h
    rcases List.mem_cons.mp h with z | z
    · rw [z]
      exact ok.2.1
    · rw [List.mem_singleton.mp z]
      exact ok.2.2
/-! ### sorted lists of texts -/
theorem nodup_le : ∀ (ks ms : List Str), ks.Nodup → (∀ k ∈ ks, k ∈ ms) → ks.length ≤ ms.length
  | [], _, _, _ => Nat.zero_le _
  | k :: r, ms, nd, h => by
    obtain ⟨n1, n2⟩ := List.nodup_cons.mp nd
    have hk : k ∈ ms := h k List.mem_cons_self
    have q := nodup_le r (ms.erase k) n2 fun j hj => (List.mem_erase_of_ne (fun z : j = k => n1 (z ▸ hj))).mpr (h j (List.mem_cons_of_mem _ hj))
    rw [List.length_erase_of_mem hk] at q
    have pos : 0 < ms.length := List.length_pos_of_mem hk
    rw [List.length_cons]
    omega
def Le (a b : Str) : Prop := ltCps b.cps.toList a.cps.toList = false
theorem rising_pairs : ∀ (p : Str) (l : List Str), risingS p l = true → (∀ (a b c : Str), Le a b → Le b c → Le a c) → (p :: l).Pairwise Le
  | p, [], _, _ => List.pairwise_singleton _ _
  | p, x :: r, h, tr => by
    have h' : (!ltCps x.cps.toList p.cps.toList && risingS x r) = true := h
    rw [Bool.and_eq_true] at h'
    have q := rising_pairs x r h'.2 tr
    have px : Le p x := by
      unfold Le
      simpa using h'.1
    refine List.pairwise_cons.mpr ⟨fun y hy => ?_, q⟩
    rcases List.mem_cons.mp hy with z | z
    · rw [z]
      exact px
    · exact tr _ _ _ px (List.rel_of_pairwise_cons q z)
theorem le_iff (a b : Str) : Le a b ↔ a.cps.toList ≤ b.cps.toList := by
  unfold Le
  rw [ltCps_eq]
  simp
theorem le_trans3 (a b c : Str) (h1 : Le a b) (h2 : Le b c) : Le a c := by
  rw [le_iff] at *
  exact List.le_trans h1 h2
theorem le_anti (a b : Str) (h1 : Le a b) (h2 : Le b a) : a = b := by
  rw [le_iff] at *
  have q := List.le_antisymm h1 h2
  cases a with
  | mk x =>
    cases b with
    | mk y =>
      have q' : x.toList = y.toList := q
      rw [Array.toList_inj.mp q']
theorem one_order : ∀ (l m : List Str), l.Pairwise Le → m.Pairwise Le → l.Nodup → m.Nodup → (∀ x, x ∈ l ↔ x ∈ m) → l = m
  | [], [], _, _, _, _, _ => rfl
  | [], y :: m, _, _, _, _, h => by
    have := (h y).2 List.mem_cons_self
    cases this
  | x :: l, [], _, _, _, _, h => by
    have := (h x).1 List.mem_cons_self
    cases this
  | x :: l, y :: m, pl, pm, nl, nm, h => by
    obtain ⟨l1, l2⟩ := List.pairwise_cons.mp pl
    obtain ⟨m1, m2⟩ := List.pairwise_cons.mp pm
    obtain ⟨k1, k2⟩ := List.nodup_cons.mp nl
    obtain ⟨j1, j2⟩ := List.nodup_cons.mp nm
    have exy : x = y := by
      rcases List.mem_cons.mp ((h x).1 List.mem_cons_self) with z | z
      · exact z
      · rcases List.mem_cons.mp ((h y).2 List.mem_cons_self) with q | q
        · exact q.symm
        · exact le_anti _ _ (l1 y q) (m1 x z)
    subst exy
    rw [one_order l m l2 m2 k2 j2 fun z => ?_]
    constructor
    · intro hz
      rcases List.mem_cons.mp ((h z).1 (List.mem_cons_of_mem _ hz)) with e | e
      · exact absurd (e ▸ hz) k1
      · exact e
    · intro hz
      rcases List.mem_cons.mp ((h z).2 (List.mem_cons_of_mem _ hz)) with e | e
      · exact absurd (e ▸ hz) j1
      · exact e
theorem sorted_pairs : ∀ l : List Str, sortedS l = true → l.Pairwise Le
  | [], _ => List.Pairwise.nil
  | x :: r, h => rising_pairs x r h le_trans3
end Kf
set_option Elab.async false
set_option linter.all false
set_option maxRecDepth 100000
set_option maxHeartbeats 3900000
/-! A lambda with parameters and captured names, handed as the second of two to a def, called there. Its frame is begun as that of a def within a def. -/
namespace LmY
open PySem PySem.Spec PyProof.Rows L2 LamX NdefX
/-- the lambda as a def within the def of X, whose code object is k -/
abbrev lamF (X : Cx) (ar : Arguments) (sc : Scope) (k : Addr) : NF := ⟨"<lambda>", X.env.qual ++ "<lambda>", ar, [], sc, cloFrom X.env.cells sc.names [], k⟩
/-- where its body runs: its names are N -/
abbrev lamX (X : Cx) (N : List Str) (ar : Arguments) (sc : Scope) (fo k : Addr) (A : Around) (outer : List Env) (sh : Shared) (hp : Hp) : Cx := ncx L2.CX0 X.prog X.w X.K X.mg X.base N (lamF X ar sc k) fo A outer sh hp L2.E0
/-- where the def runs that got it, entered from X's frame -/
abbrev gotX (X : Cx) (Ng : List Str) (x : Str) (sg : Scope) (g : Addr) (cg : Value) (sh : Shared) (hp : Hp) : Cx := (cxOf L2.CX0 X.prog X.w X.K X.mg X.base Ng x sg g cg X.A X.stack sh hp L2.E0).nox
/-- cells that no def of the text writes hold what they held -/
theorem cells_stay {cl : List (Str × Addr)} {fr : List Str} {ws : List (Option V)} {g g2 : Heap} {hp hp2 : Hp} {fs : List Addr} (un : Un fs [] hp hp2 g g2) (cs : CellsAt cl fr ws g hp) : CellsAt cl fr ws g2 hp2 := by
  have still : ∀ a, hp a = none → ∀ val, g.IsCell a val → g2.IsCell a val := fun a off val ⟨ob, at1, dat⟩ => by
    obtain ⟨_, at2⟩ := un.any at1 off List.not_mem_nil
    exact ⟨_, at2, dat⟩
  refine ⟨cs.len, fun nm a e => ?_, cs.inj, fun j nm e => ?_⟩
  · obtain ⟨off, val, cell⟩ := cs.all nm a e
    obtain ⟨ob, at1, _⟩ := id cell
    exact ⟨un.free a ob at1 off List.not_mem_nil, val, still a off val cell⟩
  · obtain ⟨a, e1, has⟩ := cs.has j nm e
    refine ⟨a, e1, fun z ez => ?_⟩
    obtain ⟨u, rz, cell⟩ := has z ez
    exact ⟨u, rz, still a (cs.all nm a e1).1 _ cell⟩
section
variable {X : Cx} {pins : List (Addr × Obj)} {σ : L2.St} {H : Hp} {s : Shared}
/-- a call that ends without an exception, told to its caller -/
theorem land {fo : Addr} {us : List Value} {Q : VK} (I : Inv X pins σ H s) (run : codeAny (model X.prog X.w) X.A (.call (.ref fo) ⟨us, []⟩) (CR L2.CX0 X.stack X.prog X.w H s Q L2.E0) s) :
    wpAny (model X.prog X.w) X.A (call (.ref fo) us) (EP X pins σ Q) X.xe s :=
  wpAny_call (codeAny_mono run fun res s2 told => match res, told with
    | .ok (.ret _), told => I.after told
    | .ok .next, told => told.elim
    | .ok .brk, told => told.elim
    | .ok .cont, told => told.elim
    | .error _, told => (show False from told).elim)
/-- x(e, ..), in the def that got the lambda as x -/
theorem pe_lact {N ps fr Ng : List Str} {js : List Nat} {qg : Str} {sg : Scope} {g fo k : Addr} {cg pm ctv : Value} {ar : Arguments} {body : Expr} {sc : Scope} {m i : Nat} {a : Str} {tb : TE} {p1 p2 : Pos} {e : Expr} {es : List Expr} {t : TA}
    (I : Inv X pins σ H s) (S : NScope N ps fr sc) (cp : Caps X (cloFrom X.env.cells sc.names []) fr js)
    (at_ : s.heap.get? fo = some (PySem.W.kla_obj "<lambda>" (X.env.qual ++ "<lambda>") ar body sc (cloFrom X.env.cells sc.names []) pm k ctv)) (off : H fo = none) (noF : fo ∉ frs X.stack)
    (bind : ∀ us : List Value, us.length = ps.length → bindArgs (PySem.W.kla_fn "<lambda>" (X.env.qual ++ "<lambda>") ar body sc (cloFrom X.env.cells sc.names []) pm (.ref k) ctv) ⟨us, []⟩ = pure (ps.zip us))
    (room : Room (m + 1) (X.A.deeper (envOfC qg sg s.heap.objs.size g cg)))
    (inner : ∀ (A : Around) (outer : List Env) (sh : Shared) (hp : Hp), Room m (A.deeper (envF (lamF X ar sc k) fo sh.heap.objs.size)) → PE (lamX X N ar sc fo k A outer sh hp) body tb)
    (hN : Ng[i]? = some a) (hv : Vis sg a) (pa : PA (gotX X Ng qg sg g cg s H) (e :: es) t)
    (h1 : (a == ("__debug__" : Str)) = false := by decide) (h2 : (a == ("__classdict__" : Str)) = false := by decide)
    (h3 : starEach (e :: es) (envOfC qg sg s.heap.objs.size g cg) = (false, eval e (envOfC qg sg s.heap.objs.size g cg)) :: starEach es (envOfC qg sg s.heap.objs.size g cg) := by rfl)
    (h4 : (backTo p2 (starEach es (envOfC qg sg s.heap.objs.size g cg))).any (·.1) = false := by rfl) :
    PE (gotX X Ng qg sg g cg s H) (.Call (.Name a p1) (e :: es) [] p2)
      (fun σZ HZ Q => σZ[i]? = some (some (.ref fo)) ∧ t σZ HZ fun vs H1 => vs.length = ps.length ∧ H1 k = some (CodeO k (X.env.qual ++ "<lambda>")) ∧ tb (startF N vs (js.map (slotAt σ))) H1 Q) := by
  refine ⟨fun pinsZ sZ σZ HZ Q IZ ⟨slot, rest⟩ => ?_⟩
  have same : ∀ {pn : List (Addr × Obj)} {τ : L2.St} {hp : Hp} {sh : Shared}, Inv (gotX X Ng qg sg g cg s H) pn τ hp sh → sh.heap.get? fo = some (PySem.W.kla_obj "<lambda>" (X.env.qual ++ "<lambda>") ar body sc (cloFrom X.env.cells sc.names []) pm k ctv) :=
    fun J => J.base.keep fo _ at_ off noF List.not_mem_nil
  have name := (pe_var (X := gotX X Ng qg sg g cg s H) (pos := p1) (i := i) hN hv h1 h2).run pinsZ sZ σZ HZ (fun val hp => val = .ref fo ∧ hp = HZ) IZ ⟨.ref fo, slot, rfl, rfl⟩
  refine wpAny_Call_Name_kw (thn name fun val s1 ⟨_, _, I1, rel, ev, eh⟩ => ?_)
  subst ev eh
  cases (show val = Value.ref fo from rel)
  refine PySem.W.callWith_F (first := []) ⟨_, _, _, _, same I1⟩ (thn (pa.run p2 pinsZ s1 σZ _ _ I1 rest) fun us s2 ⟨vs, H2, I2, rv, len, code, ht⟩ => ⟨⟨_, _, _, _, same I2⟩, land (us := us) I2 ?_⟩) h3 h4
  obtain ⟨⟨oc, fields, tq, o1, o2, o3⟩, _, _⟩ := I2.hok k _ code
  refine PySem.W.kla_callFunE room.depth (same I2) rfl S.co S.gen rfl ⟨k, oc, fields, tq, rfl, o1, o2, o3⟩ ?_
  rw [bind us (rv.length.symm.trans len)]
  refine wpAny_pure (wpAny_newFunctionEnv (fun y hy => S.nocell y hy) (fun y hy => S.par y.1 (List.of_mem_zip hy).1) (fun g1 ns1 more => ⟨I2.nolimit.fresh _ more, ?_⟩) S.kind)
  have grown : ∀ b ob, s2.heap.get? b = some ob → g1.get? b = some ob := fun b ob eb => more.extBut b ob (Nat.ne_of_lt (Heap.lt_size eb)) (Heap.get?_push_of_some _ eb)
  have J := inv_startN (CX := L2.CX0) (E := L2.E0) (tk := s2.toks + (ps.zip us).length) (F := lamF X ar sc k) (f := fo) S room.hd I2.env0 len rv (cells_stay I2.base (cells_of I cp)) ns1 grown
  refine PySem.W.kla_codeExpr (wpAny_mono ((inner _ _ s2 H2 (room.deeper _)).run [] _ _ H2 Q J ht) (fun _ s3 ⟨w3, H3, J3, r3, q3⟩ => ?_) fun _ _ bad => bad)
  exact ⟨w3, H3, J3.os, J3.bare, J3.base, J3.hok, r3, q3⟩
end
/-- what the def that got the lambda makes of its calls: TT -/
def Gives2 (X : Cx) (Ng : List Str) (x : Str) (sg : Scope) (g : Addr) (cg : Value) (bg : List Stmt) (a : Str) (q : Str) (ps : List Str) (m : Nat) (TT : (List V → Hp → VK → Prop) → V → Hp → VK → Prop) : Prop :=
  ∀ (fo k : Addr) (s : Shared) (H : Hp) (v : V) (Q : VK) (tl : List V → Hp → VK → Prop),
    (∀ (p1 p2 : Pos) (e : Expr) (es : List Expr) (t : TA), PA (gotX X Ng x sg g cg s H) (e :: es) t →
      starEach (e :: es) (envOfC x sg s.heap.objs.size g cg) = (false, eval e (envOfC x sg s.heap.objs.size g cg)) :: starEach es (envOfC x sg s.heap.objs.size g cg) → (backTo p2 (starEach es (envOfC x sg s.heap.objs.size g cg))).any (·.1) = false →
      PE (gotX X Ng x sg g cg s H) (.Call (.Name a p1) (e :: es) [] p2) (fun σZ HZ Q => σZ[1]? = some (some (.ref fo)) ∧ t σZ HZ fun vs H1 => vs.length = ps.length ∧ H1 k = some (CodeO k q) ∧ tl vs H1 Q)) →
    Room (m + 1) (X.A.deeper (envOfC x sg s.heap.objs.size g cg)) → H k = some (CodeO k q) → TT tl v H Q →
    ∃ t, PSs (gotX X Ng x sg g cg s H) bg t ∧ t { nx := fun _ H' => Q .non H', rt := Q } (L2.start Ng [v, .ref fo]) H
def tLam2 (T : List (Addr × Str)) (N : List Str) (js : List Nat) (TT : (List V → Hp → VK → Prop) → V → Hp → VK → Prop) (te : TE) (t : TE) : TE := fun σ H Q => te σ H fun v H0 => Tabs T H0 ∧ ∀ H1, ExtN H0 H1 → Tabs T H1 → TT (fun vs H' Q' => t (startF N vs (js.map (slotAt σ))) H' Q') v H1 Q
section
variable {X : Cx}
/-- x(e, lambda ..: body) -/
theorem pe_lamcall2 {T : List (Addr × Str)} {TT : (List V → Hp → VK → Prop) → V → Hp → VK → Prop} {x a0 a : Str} {g c tab : Addr} {m : Nat} {pg : Arguments} {bg : List Stmt} {sg : Scope} {dV kV doc pm cdv ct oc : Value} {an od : Option Addr} {osl : Array (Option Value)} {N Ng ps fr : List Str} {js : List Nat}
    {ar : Arguments} {body e : Expr} {sc : Scope} {te t : TE} {p0 p1 p2 : Pos} (gx : Gl X x) (mx : X.mg x = some (.ref g)) (kx : PySem.W.keepIn X.K (.ref g) = true)
    (look : X.K.lookup g = some ⟨oc, od, .func (PySem.W.fnOf x x pg bg sg dV kV doc pm an cdv ct), osl⟩) (code : PySem.W.codeIn X.K cdv x = true) (bx : L2.Binds X.K (PySem.W.fnOf x x pg bg sg dV kV doc pm an cdv ct) [a0, a] []) (Sg : FnScope Ng [a0, a] sg) (second : Ng[1]? = some a) (seen : Vis sg a)
    (gives : Gives2 X Ng x sg g cdv bg a (X.env.qual ++ "<lambda>") ps m TT) (pe : PE X e te)
    (own : TabB X.base X.mg c tab) (mine : X.env.code = .ref c) (inT : (tab, X.env.qual ++ "<lambda>") ∈ T) (sole : ∀ p ∈ T, p.1 = tab → p.2 = X.env.qual ++ "<lambda>") (room : Room (m + 2) X.A)
    (S : NScope N ps fr sc) (held : ndefB X.env.scope sc fr = true) (slots : js.map (fun j => X.N[j]?) = fr.map some) (plain : defaultsOf ar X.env = ([], []))
    (bind : ∀ (q : Str) (cl : List (Str × Addr)) (pm cv ctv : Value) (us : List Value), us.length = ps.length → bindArgs (PySem.W.kla_fn "<lambda>" q ar body sc cl pm cv ctv) ⟨us, []⟩ = pure (ps.zip us))
    (inner : ∀ (A : Around) (outer : List Env) (sh : Shared) (hp : Hp) (fo k : Addr), Room m (A.deeper (envF (lamF X ar sc k) fo sh.heap.objs.size)) → PE (lamX X N ar sc fo k A outer sh hp) body t)
    (h0 : (x == ("__debug__" : Str)) = false := by decide) (h1 : (a == ("__debug__" : Str)) = false := by decide) (h2 : (a == ("__classdict__" : Str)) = false := by decide)
    (h3 : starEach (e :: [.Lambda ar body sc p1]) X.env = (false, eval e X.env) :: starEach [.Lambda ar body sc p1] X.env := by rfl) :
    PE X (.Call (.Name x p0) [e, .Lambda ar body sc p1] [] p2) (tLam2 T N js TT te t) := by
  refine ⟨fun pins s σ H Q I reading => wpAny_Call_Name_kw (ld_glob I gx mx (PySem.W.callWith_K (h₀ := X.base) I.ok.mod.kin kx ?_ h3 (by rfl)) h0)⟩
  rw [h3]
  show wpAny _ _ (spliced ((false, eval e X.env) :: backTo p2 (starEach [.Lambda ar body sc p1] X.env))) _ _ s
  refine Calls.spliced_cons (thn (pe.run pins s σ H _ I reading) fun u s0 ⟨v, H0, I0, r0, tabs0, later⟩ => ?_)
  show wpAny _ _ (spliced ((false, eval (.Lambda ar body sc p1) X.env) :: backTo p2 (starEach [] X.env))) _ _ s0
  refine Calls.spliced_cons (lam_make2 I0 own mine inT sole tabs0 plain (fun y hy e => (ndef_free held y hy e).elim (fun z => I0.ok.has _ (.inl z)) fun z => I0.ok.has _ (.inr z)) fun fo k pmF ctF H1 s1 I1 grown tabs1 at_ off noF codeK => Calls.spliced_nil ⟨I1.kIn, land I1 ?_⟩)
  refine run_ofS (N := Ng) (ps := [a0, a]) (us := [u, .ref fo]) (vs := [v, .ref fo]) look code Sg room I1.env0 (bx s1 [u, .ref fo] I1.kIn rfl) (.cons r0 (.cons rfl .nil)) rfl fun room1 => ?_
  obtain ⟨ts, run, told⟩ := gives fo k s1 H1 v Q _ (fun q1 q2 e1 es1 t1 pa he hp => pe_lact (i := 1) (js := js) I1 S (Caps.made I1.ok (ndef_free held) (ndef_fr held) slots) at_ off noF (fun us hl => bind _ _ _ _ _ us hl) room1 (fun A outer sh hp2 r2 => inner A outer sh hp2 fo k r2) second seen pa h1 h2 he hp) room1 codeK (later H1 grown tabs1)
  exact ⟨ts, run.nox, told⟩
end
end LmY
set_option Elab.async false
set_option linter.all false
set_option maxRecDepth 100000
set_option maxHeartbeats 3900000
/-! The end of a law whose defs want to know that no repr is under way around them: its def is run from the caller alone. -/
namespace Gd
open PySem PySem.Spec PyProof.Rows L2 LamX LmY
section
variable {P : Program} {w : World} {K : PySem.W.Frag} {mg mb : Str → Option Value} {k : Nat} {fa scr : Addr} {cs : List (Addr × Addr)} {st : Shared} {vs : List Value} {ns : List Int}
/-- what stands in the heap ahead of the law's call -/
structure Ahead (K : PySem.W.Frag) (mg mb : Str → Option Value) (cs : List (Addr × Addr)) (scr : Addr) (vs : List Value) (st : Shared) : Prop where
  kin : K.In st.heap
  glob : st.heap.Ns mainGlobals mg
  blt : st.heap.Ns builtinsNs mb
  boot : ∀ x : Str, x ≠ "__name__" → mb x = bootBuiltins x
  lim : st.heap.NoLimit
  gens : st.gens = #[]
  tabs : ∀ p ∈ cs, st.heap.get? p.2 = some { cls := .none, data := .fields #[] }
  offK : ∀ p ∈ cs, K.lookup p.2 = none
  codes : ∀ p ∈ cs, PySem.W.CodeHd st.heap p.1 p.2
  mod : ∃ (bm : Addr) (ob : Obj), mg "__builtins__" = some (.ref bm) ∧ bm ≠ builtinsNs ∧ st.heap.get? bm = some ob ∧ ob.cls = .type "module" ∧ ob.dict = some builtinsNs ∧ ob.data = .plain
  list : st.heap.get? scr = some { cls := .type "list", data := .seq vs.toArray }
/-- tracked are the script and the tables at most -/
structure Few (K : PySem.W.Frag) (cs : List (Addr × Addr)) (scr : Addr) (H : Hp) : Prop where
  only : ∀ b, H b ≠ none → b = scr ∨ ∃ p ∈ cs, p.2 = b
  notK : H scr ≠ none → K.lookup scr = none
theorem untracked (W : Ahead K mg mb cs scr vs st) {H : Hp} (F : Few K cs scr H) {b : Addr} {ob : Obj} (at_ : st.heap.get? b = some ob) (n1 : ∀ us m, ob.data ≠ .seq us m) (n2 : ob.data ≠ .fields #[]) : H b = none := by
  refine Decidable.byContradiction fun z => ?_
  rcases F.only b z with rfl | ⟨p, hp, rfl⟩
  · rw [W.list] at at_
    cases at_
    exact n1 _ _ rfl
  · rw [W.tabs p hp] at at_
    cases at_
    exact n2 rfl
theorem hid_ns (W : Ahead K mg mb cs scr vs st) {H : Hp} (F : Few K cs scr H) {b : Addr} {m : Str → Option Value} (h : st.heap.Ns b m) : (hidT st.heap H).Ns b m := by
  obtain ⟨ob, es, ep, at_, dat, rest⟩ := h
  refine ⟨ob, es, ep, hidT_get at_ (untracked W F at_ (fun us m z => ?_) fun z => ?_), dat, rest⟩ <;> (rw [dat] at z; cases z)
theorem hid_in (W : Ahead K mg mb cs scr vs st) {H : Hp} (F : Few K cs scr H) : K.In (hidT st.heap H) := fun b ob e => by
  refine hidT_get (W.kin b ob e) (Decidable.byContradiction fun z => ?_)
  rcases F.only b z with rfl | ⟨p, hp, rfl⟩
  · rw [F.notK z] at e
    cases e
  · rw [W.offK p hp] at e
    cases e
theorem hid_tab (W : Ahead K mg mb cs scr vs st) {H : Hp} (F : Few K cs scr H) : ∀ p ∈ cs, TabB (hidT st.heap H) mg p.1 p.2 := fun p hp => by
  have here := W.tabs p hp
  have plainG : ∀ {b : Addr} {ob : Obj}, st.heap.get? b = some ob → (∃ es ep, ob.data = .dict es ep) → b ≠ p.2 := fun e ⟨es, ep, d⟩ z => by
    rw [z, here] at e
    cases e
    cases d
  refine ⟨?_, ?_, ?_⟩
  · obtain ⟨ob, us, file, tf, flags, tg, inF, text, tt, e1, r1, r2, r3, rest⟩ := W.codes p hp
    refine ⟨ob, us, file, tf, flags, tg, inF, text, tt, hidT_get e1 (untracked W F e1 (fun us m z => ?_) fun z => ?_), r1, r2, r3, rest⟩
    · rw [r2] at z
      cases z
    · rw [r2] at z
      cases z
      simp at r3
  · obtain ⟨bm, ob, b1, b2, b3, b4, b5, b6⟩ := W.mod
    refine ⟨bm, ob, b1, b2, fun z => ?_, fun z => ?_, hidT_get b3 (untracked W F b3 (fun us m z => ?_) fun z => ?_), b4, b5, b6⟩
    · obtain ⟨og, es, ep, e, dat, _⟩ := W.glob
      rw [z, e] at b3
      cases b3
      rw [dat] at b6
      cases b6
    · rw [z, here] at b3
      cases b3
      cases b6
    · rw [b6] at z
      cases z
    · rw [b6] at z
      cases z
  · obtain ⟨og, es, ep, e, dat, _⟩ := W.glob
    exact plainG e ⟨es, ep, dat⟩
theorem hid_env (W : Ahead K mg mb cs scr vs st) {H : Hp} (F : Few K cs scr H) (hok : HOk P w H st.heap) : Env0 P w K mg (hidT st.heap H) callerA [] st H :=
  ⟨rfl, ⟨hid_in W F, hid_ns W F W.glob, ⟨mb, hid_ns W F W.blt, W.boot⟩, let ⟨mc, c1, c2⟩ := W.lim; ⟨mc, hid_ns W F c1, c2⟩⟩, fun b ob e => of_hidT e, Nat.le_of_eq (hidT_size _ _), trivial, fun b hb => (List.not_mem_nil (show b ∈ ([] : List Addr) from hb)).elim, hok, .of_eq W.gens⟩
/-- what is told of the heap behind the call -/
theorem behind (W : Ahead K mg mb cs scr vs st) {H : Hp} (F : Few K cs scr H) (hok : HOk P w H st.heap) (tb : ∀ p ∈ cs, H p.2 = some (.tbl #[])) (fz : H scr = none ∨ ∃ ob xs, H scr = some (.frz ob (.lst xs))) {r : Result} {s' : Shared}
    (told : CR L2.CX0 [] P w H st (fun v _ => v = .bl true) L2.E0 r s') : r = .ok (.ret (.bool true)) ∧ OldK st.heap s'.heap ∧ s'.os = st.os ∧ AllBare s'.gens := by
  match r, told with
  | .error _, told => exact (show False from told).elim
  | .ok .next, told => exact (show False from told).elim
  | .ok .brk, told => exact (show False from told).elim
  | .ok .cont, told => exact (show False from told).elim
  | .ok (.ret u), told =>
    obtain ⟨v, H2, os, bare, un, hok2, rel, isT⟩ := told
    have isT : v = .bl true := isT
    subst isT
    obtain rfl : u = Value.bool true := rel
    have noE : ∀ b : Addr, b ∉ ([] : List Addr) := fun _ => List.not_mem_nil
    have grown : ∀ p ∈ cs, ∃ more : Array Value, s'.heap.get? p.2 = some { cls := .none, data := .fields more } := fun p hp => by
      obtain ⟨more, e⟩ := un.tbls p.2 #[] (tb p hp)
      exact ⟨_, hok2 p.2 _ e⟩
    have stays : ∀ b ob, (¬ ∃ p ∈ cs, p.2 = b) → st.heap.get? b = some ob → s'.heap.get? b = some ob := fun b ob far e => by
      by_cases z : H b = none
      · exact un.keep b ob e z (noE b) (noE b)
      · rcases F.only b z with rfl | h
        · rcases fz with f | ⟨o2, xs, f⟩
          · exact absurd f z
          · obtain ⟨e1, _⟩ := hok _ _ f
            obtain ⟨e2, _⟩ := hok2 _ _ (un.frzs _ _ _ f)
            rw [e] at e1
            cases e1
            exact e2
        · exact absurd h far
    refine ⟨rfl, ⟨fun b ob e => ?_, fun b ob e => ?_⟩, os, bare⟩
    · by_cases h : ∃ p ∈ cs, p.2 = b
      · obtain ⟨p, hp, rfl⟩ := h
        obtain ⟨more, hm⟩ := grown p hp
        rw [W.tabs p hp] at e
        cases e
        exact .inr (.inl ⟨((W.codes p hp).tab (W.tabs p hp)).isCodeTable, rfl, #[], more, rfl, by rw [Array.empty_append]; exact hm⟩)
      · exact .inl (stays b ob h e)
    · by_cases h : ∃ p ∈ cs, p.2 = b
      · obtain ⟨p, hp, rfl⟩ := h
        obtain ⟨more, hm⟩ := grown p hp
        exact ⟨_, hm⟩
      · exact ⟨ob, stays b ob h e⟩
open Classical in
/-- THE END: the law's def by its run from the caller alone -/
theorem end_at (W : Ahead K mg mb cs scr vs st) (are : IntsAre vs ns) (short : ns.length ≤ sizeLine)
    (run : ∀ (base : Heap) (H : Hp), K.In base → base.Ns mainGlobals mg → (∀ p ∈ cs, TabB base mg p.1 p.2) → (∀ p ∈ cs, H p.2 = some (.tbl #[])) → SqL K H scr (ns.map V.int) → Env0 P w K mg base callerA [] st H →
      codeAny (model P w) callerA (.call (.ref fa) ⟨[.ref scr], []⟩) (CR L2.CX0 [] P w H st (fun v _ => v = .bl true) L2.E0) st) :
    codeAny (model P w) callerA (.call (.ref fa) ⟨[.ref scr], []⟩) (fun r s' => r = .ok (.ret (.bool true)) ∧ OldK st.heap s'.heap ∧ s'.os = st.os ∧ AllBare s'.gens) st := by
  have rv := vals_ints are
  have same := are.length
  have scrT : ¬ ∃ p ∈ cs, p.2 = scr := fun ⟨p, hp, e⟩ => by
    have z := W.tabs p hp
    rw [e, W.list] at z
    cases z
  have go : ∀ H : Hp, (∀ b, (∃ p ∈ cs, p.2 = b) → H b = some (.tbl #[])) → (∀ b, (¬ ∃ p ∈ cs, p.2 = b) → b ≠ scr → H b = none) → (H scr = none ∨ (K.lookup scr = none ∧ H scr = some (.frz { cls := .type "list", data := .seq vs.toArray } (.lst (ns.map V.int))))) → SqL K H scr (ns.map V.int) →
      codeAny (model P w) callerA (.call (.ref fa) ⟨[.ref scr], []⟩) (fun r s' => r = .ok (.ret (.bool true)) ∧ OldK st.heap s'.heap ∧ s'.os = st.os ∧ AllBare s'.gens) st := by
    intro H isTab noneElse atScr seq
    have few : Few K cs scr H := ⟨fun b z => by
      by_cases h : ∃ p ∈ cs, p.2 = b
      · exact .inr h
      · exact .inl (Decidable.byContradiction fun n => z (noneElse b h n)), fun z => (atScr.resolve_left z).1⟩
    have hok : HOk P w H st.heap := fun b ob e => by
      by_cases h : ∃ p ∈ cs, p.2 = b
      · rw [isTab b h] at e
        cases e
        obtain ⟨p, hp, rfl⟩ := h
        exact W.tabs p hp
      · by_cases n : b = scr
        · subst n
          rcases atScr with z | ⟨_, z⟩
          · rw [z] at e
            cases e
          · rw [z] at e
            cases e
            exact ⟨W.list, by rw [List.length_map]; exact short, vs, _, rv, W.list⟩
        · rw [noneElse b h n] at e
          cases e
    have tb : ∀ p ∈ cs, H p.2 = some (.tbl #[]) := fun p hp => isTab p.2 ⟨p, hp, rfl⟩
    exact codeAny_mono (run _ H (hid_in W few) (hid_ns W few W.glob) (hid_tab W few) tb seq (hid_env W few hok)) fun r s' told => behind W few hok tb (atScr.imp id fun z => ⟨_, _, z.2⟩) told
  cases hk : K.lookup scr with
  | some ob =>
    have e := W.kin scr ob hk
    rw [W.list] at e
    cases e
    exact go (fun b => if ∃ p ∈ cs, p.2 = b then some (.tbl #[]) else none) (fun b h => if_pos h) (fun b h _ => if_neg h) (.inl (if_neg scrT)) (.inr ⟨_, vs.toArray, _, hk, rfl, rfl, rfl, by rw [List.size_toArray, same]; exact short, by simpa using rv⟩)
  | none =>
    refine go (fun b => if b = scr then some (.frz { cls := .type "list", data := .seq vs.toArray } (.lst (ns.map V.int))) else if ∃ p ∈ cs, p.2 = b then some (.tbl #[]) else none) (fun b h => ?_) (fun b h n => ?_) (.inr ⟨hk, if_pos rfl⟩) (.inl (.inr ⟨_, if_pos rfl⟩))
    · exact (if_neg (fun z => scrT (by rw [← z]; exact h))).trans (if_pos h)
    · exact (if_neg n).trans (if_neg h)
end
end Gd
set_option Elab.async false
set_option linter.all false
set_option maxRecDepth 100000
set_option maxHeartbeats 3900000
/-! Defs that are run where no repr is under way; repr of data. -/
namespace Gd
open PySem PySem.Spec PyProof.Rows L2 LamX LmY
/-- as FnOk, where no repr is under way around the call -/
structure FnG (P : Program) (w : World) (K : PySem.W.Frag) (mg : Str → Option Value) (base : Heap) (k : Nat) (f : Addr) (fd : FuncData) (ps : List Str) (sp : Sp) : Prop where
  len : ∀ vs H Q E, sp vs H Q E → vs.length = ps.length
  run : ∀ (A : Around) (outer : List Env) (s : Shared) (H : Hp) (args : Args) (us : List Value) (vs : List V) (Q : VK), A.guards = some [] → Room k A → Env0 P w K mg base A outer s H → BindsTo s fd args (ps.zip us) → Vals vs us → sp vs H Q L2.E0 →
    codeAny (model P w) A (.call (.ref f) args) (CR L2.CX0 outer P w H s Q L2.E0) s
section
variable {P : Program} {w : World} {K : PySem.W.Frag} {mg : Str → Option Value} {base : Heap}
/-- a def of the text, by its body -/
theorem okG {x : Str} {st : Stmt} {f : Addr} {fd : FuncData} {N ps : List Str} {k : Nat} {sp : Sp} (F : Fun K x x st f fd) (S : FnScope N ps (defScope st)) (len : ∀ vs H Q E, sp vs H Q E → vs.length = ps.length)
    (body : ∀ (cdv : Value) (A : Around) (outer : List Env) (s : Shared) (H : Hp) (vs : List V) (Q : VK), A.guards = some [] → Room k (A.deeper (envOfC x (defScope st) s.heap.objs.size f cdv)) → sp vs H Q L2.E0 →
      ∃ t, PSs (cxOf L2.CX0 P w K mg base N x (defScope st) f cdv A outer s H L2.E0).nox (defBody st) t ∧ t { nx := fun _ H' => Q .non H', rt := Q } (L2.start N vs) H) : FnG P w K mg base (k + 1) f fd ps sp := by
  obtain ⟨oc, od, kV, doc, pm, an, cdv, ct, osl, rfl, look, code⟩ := F.ex
  refine ⟨len, fun A outer s H args us vs Q gu room e0 bind rel h => ?_⟩
  refine run_ofS look code S room e0 bind rel (len _ _ _ _ h) fun room1 => ?_
  obtain ⟨t, run, told⟩ := body cdv A outer s H vs Q gu room1 h
  exact ⟨t, run.nox, told⟩
/-- FnOk is more -/
theorem FnG.of {k : Nat} {f : Addr} {fd : FuncData} {ps : List Str} {sp : Sp} (F : FnOk P w K mg base L2.CX0 k f fd ps sp) : FnG P w K mg base k f fd ps sp := ⟨F.len, fun A outer s H args us vs Q _ room e0 bind rel h => F.run A outer s H args us vs Q L2.E0 room e0 bind rel h⟩
end
section
variable {X : Cx}
/-- x(e, ..), x such a def -/
theorem pe_callG {k : Nat} {f : Addr} {fd : FuncData} {ps : List Str} {sp : Sp} {x : Str} {p pos : Pos} {e : Expr} {es : List Expr} {t : TA} (F : FnG X.prog X.w X.K X.mg X.base k f fd ps sp) (gu : X.A.guards = some []) (room : Room k X.A) (gl : Gl X x) (mx : X.mg x = some (.ref f)) (kx : PySem.W.keepIn X.K (.ref f) = true)
    (bind : L2.Binds X.K fd ps []) (pa : PA X (e :: es) t) (h0 : (x == ("__debug__" : Str)) = false := by decide)
    (h1 : starEach (e :: es) X.env = (false, eval e X.env) :: starEach es X.env := by rfl) (h2 : (backTo pos (starEach es X.env)).any (·.1) = false := by rfl) :
    PE X (.Call (.Name x p) (e :: es) [] pos) (fun σ H Q => t σ H fun vs H1 => sp vs H1 Q L2.E0) := by
  refine ⟨fun pins s σ H Q I reading => wpAny_Call_Name_kw (ld_glob I gl mx (PySem.W.callWith_K (h₀ := X.base) I.ok.mod.kin kx (thn (pa.run pos pins s σ H _ I reading) fun us s1 ⟨vs, H1, I1, rel, q⟩ => ⟨I1.kIn, land (us := us) I1 ?_⟩) h1 h2) h0)⟩
  have given := bind s1 us I1.kIn (by rw [List.append_nil]; exact rel.length.symm.trans (F.len _ _ _ _ q))
  rw [List.append_nil] at given
  exact F.run X.A X.stack s1 H1 ⟨us, []⟩ us vs Q gu room I1.env0 given rel q
/-- repr of data, no repr being under way -/
theorem cr_reprD (gu : X.A.guards = some []) (un : X.A.units + 64 < cLine) : CallR X (.builtin "repr") (fun xs H Q => ∃ (a : Addr) (d : PyData), xs = [.ref a] ∧ Dp X.K H (.ref a) d ∧ d.showable = true ∧ d.hasDict = false ∧ d.depth ≤ 60 ∧ d.shown.length ≤ sizeLine ∧ Q (.str d.shown) H) := by
  intro pins s σ H xs us Q I rel ⟨a, d, ex, dp, sh, nd, dd, fits, q⟩
  subst ex
  rw [Vals.ref1 rel]
  obtain ⟨as, rd⟩ := Dp.reads I d (.ref a) (.ref a) dp rfl
  exact repr_of_reads' rd sh (fun e => by rw [nd] at e; cases e) gu (by omega) (fun _ _ e => e) (fun h' u tk kp => ⟨.str d.shown, H, I.kept kp, ⟨u, rfl⟩, q⟩) fits
end
/-- what the end wants of the law's def -/
def LawG (l : PySem.W.OpenLaw) (w : World) (K : PySem.W.Frag) (k n : Nat) (x : Str) (mg : Str → Option Value) (fa : Addr) (h : Heap) : Prop :=
  ∃ (fd : FuncData) (cs : List (Addr × Addr)) (sp : Sp), (∀ p ∈ cs, h.get? p.2 = some { cls := .none, data := .fields #[] }) ∧ (∀ p ∈ cs, K.lookup p.2 = none) ∧ (∀ p ∈ cs, PySem.W.CodeHd h p.1 p.2) ∧ (∀ (s : Shared) (u : Value), BindsTo s fd ⟨[u], []⟩ [(x, u)]) ∧
    (∀ (H : Hp) (a : Addr) (ns : List Int), ns.length ≤ n → (∀ z ∈ ns, Builtin.Int.intBits z ≤ 1048576) → (∀ p ∈ cs, H p.2 = some (.tbl #[])) → SqL K H a (ns.map V.int) → sp [.ref a] H (fun v _ => v = .bl true) L2.E0) ∧
    ∀ base : Heap, K.In base → base.Ns mainGlobals mg → (∀ p ∈ cs, TabB base mg p.1 p.2) → FnG l.prog w K mg base k fa fd [x] sp
/-- the end of a law some defs of which say repr, or hold lambdas: these ones' tables are still empty -/
theorem walk_guard {l : PySem.W.OpenLaw} {n k : Nat} {q : Program} {loose : List Str} {XP : (Str → Option Value) → Heap → Prop} {YP : World → Heap → Prop} {d : DefRec} {K : Params → PySem.W.Frag} {x : Str} (nms : List Str)
    (hn : l.most = some n) (line : n ≤ sizeLine) (hdf : d.params.defaults = []) (room : Room k callerA) (recs : ∀ nm ∈ nms, ((recsOf q).any fun e => e.name == nm) = true) (hY : ∀ (w : World) (h : Heap), YP w h → (K w.params).In h)
    (F : ∀ (w : World) (mg : Str → Option Value) (fa : Addr) (h : Heap), YP w h → (K w.params).In h → h.Ns mainGlobals mg → mg d.name = some (.ref fa) → (∀ nm ∈ nms, ∀ fw, mg nm = some (.ref fw) → OwnTab (K w.params) fw h) → LawG l w (K w.params) k n x mg fa h) :
    PySem.W.WalkO q loose XP YP l.row.toRowW d [] (fun f vs => PySem.call f vs) := by
  refine Att.attach_callB hn hdf fun w s0 s1 mg mb fa o pm cd doc a vs ns G Y ho hd hcd hmg hobj hints hlen hbits hg => ?_
  have KX := hY w _ Y
  have tabs : ∀ nm ∈ nms, ∀ fw, mg nm = some (.ref fw) → OwnTab (K w.params) fw s1.heap := by
    intro nm inn fw hw c P o1 fd1 e dd us sl look isF isC lookC at11
    obtain ⟨dR, mem, same⟩ := List.any_eq_true.mp (recs nm inn)
    have eN : dR.name = nm := beq_iff_eq.mp same
    obtain ⟨a2, o2, fd2, c2, P2, g1, g2, g3, g4, _, ⟨oc, vc, g5, _, g6, g7⟩, empty⟩ := G.T.tab dR mem
    rw [eN] at g1
    cases hw.symm.trans g1
    cases (KX _ _ look).symm.trans g2
    cases isF.symm.trans g3
    cases isC.symm.trans g4
    cases (KX _ _ lookC).symm.trans g5
    cases g6
    cases at11.symm.trans g7
    exact empty
  obtain ⟨fd, cs, sp, hT, nT, hC, hb, hsp, hF⟩ := F w mg fa _ Y KX G.T.g hmg tabs
  exact end_at ⟨KX, G.T.g, G.T.b, G.T.builtins, G.T.nolimit, hg, hT, nT, hC, G.T.bmain, hobj⟩ hints (Nat.le_trans hlen line) fun base H hK hG hB ht hS e0 =>
    (hF base hK hG hB).run callerA [] s1 H ⟨[.ref a], []⟩ [.ref a] [.ref a] _ rfl room e0 (hb s1 (.ref a)) (.cons rfl .nil) (hsp H a ns hlen hbits ht hS)
end Gd
set_option Elab.async false
set_option linter.all false
set_option maxRecDepth 100000
set_option maxHeartbeats 3900000
/-! Defs that call themselves far: each call counts for one. -/
namespace Gd
open PySem PySem.Spec PyProof.Rows L2 LamX LmY
/-- room for n calls, one in another, and what they need besides -/
structure RoomD (n : Nat) (A : Around) : Prop where
  hd : A.handled = none
  dp : A.depth + n + 20 < recursionLimit
  un : A.units + 4 * n + 300 < cLine
theorem RoomD.one {n : Nat} {A : Around} (r : RoomD n A) : Room 1 A := ⟨r.hd, by have := r.dp; omega, by have := r.un; omega⟩
theorem RoomD.deeper {n : Nat} {A : Around} (r : RoomD (n + 1) A) (env : Env) : RoomD n (A.deeper env) :=
  ⟨r.hd, by have z := r.dp; show A.depth + 1 + n + 20 < _; omega, by have z := r.un; show A.units + 3 + 4 * n + 300 < _; omega⟩
theorem RoomD.of {k n : Nat} {A : Around} (r : Room k A) (h : n + 15 ≤ 3 * k) (g : 4 * n + 100 ≤ 16 * k) : RoomD n A := ⟨r.hd, by have := r.dp; omega, by have := r.un; omega⟩
theorem RoomD.mono {m n : Nat} {A : Around} (r : RoomD n A) (h : m ≤ n) : RoomD m A := ⟨r.hd, by have := r.dp; omega, by have := r.un; omega⟩
/-- as FnOk, by such room -/
structure FnD (P : Program) (w : World) (K : PySem.W.Frag) (mg : Str → Option Value) (base : Heap) (n : Nat) (f : Addr) (fd : FuncData) (ps : List Str) (sp : Sp) : Prop where
  len : ∀ vs H Q E, sp vs H Q E → vs.length = ps.length
  run : ∀ (A : Around) (outer : List Env) (s : Shared) (H : Hp) (args : Args) (us : List Value) (vs : List V) (Q : VK), RoomD n A → Env0 P w K mg base A outer s H → BindsTo s fd args (ps.zip us) → Vals vs us → sp vs H Q L2.E0 →
    codeAny (model P w) A (.call (.ref f) args) (CR L2.CX0 outer P w H s Q L2.E0) s
section
variable {P : Program} {w : World} {K : PySem.W.Frag} {mg : Str → Option Value} {base : Heap}
theorem okD {x : Str} {st : Stmt} {f : Addr} {fd : FuncData} {N ps : List Str} {n : Nat} {sp : Sp} (F : Fun K x x st f fd) (S : FnScope N ps (defScope st)) (len : ∀ vs H Q E, sp vs H Q E → vs.length = ps.length)
    (body : ∀ (cdv : Value) (A : Around) (outer : List Env) (s : Shared) (H : Hp) (vs : List V) (Q : VK), RoomD n (A.deeper (envOfC x (defScope st) s.heap.objs.size f cdv)) → sp vs H Q L2.E0 →
      ∃ t, PSs (cxOf L2.CX0 P w K mg base N x (defScope st) f cdv A outer s H L2.E0).nox (defBody st) t ∧ t { nx := fun _ H' => Q .non H', rt := Q } (L2.start N vs) H) : FnD P w K mg base (n + 1) f fd ps sp := by
  obtain ⟨oc, od, kV, doc, pm, an, cdv, ct, osl, rfl, look, code⟩ := F.ex
  refine ⟨len, fun A outer s H args us vs Q room e0 bind rel h => ?_⟩
  refine run_ofS (k := 0) look code S room.one e0 bind rel (len _ _ _ _ h) fun _ => ?_
  obtain ⟨t, run, told⟩ := body cdv A outer s H vs Q (room.deeper _) h
  exact ⟨t, run.nox, told⟩
theorem FnD.none {n : Nat} {f : Addr} {fd : FuncData} {ps : List Str} {sp : Sp} (no : ∀ vs H Q E, ¬ sp vs H Q E) : FnD P w K mg base n f fd ps sp :=
  ⟨fun vs H Q E h => absurd h (no vs H Q E), fun A outer s H args us vs Q _ _ _ _ h => absurd h (no vs H Q _)⟩
end
section
variable {X : Cx}
theorem pe_callD {n : Nat} {f : Addr} {fd : FuncData} {ps : List Str} {sp : Sp} {x : Str} {p pos : Pos} {e : Expr} {es : List Expr} {t : TA} (F : FnD X.prog X.w X.K X.mg X.base n f fd ps sp) (room : RoomD n X.A) (gl : Gl X x) (mx : X.mg x = some (.ref f)) (kx : PySem.W.keepIn X.K (.ref f) = true)
    (bind : L2.Binds X.K fd ps []) (pa : PA X (e :: es) t) (h0 : (x == ("__debug__" : Str)) = false := by decide)
    (h1 : starEach (e :: es) X.env = (false, eval e X.env) :: starEach es X.env := by rfl) (h2 : (backTo pos (starEach es X.env)).any (·.1) = false := by rfl) :
    PE X (.Call (.Name x p) (e :: es) [] pos) (fun σ H Q => t σ H fun vs H1 => sp vs H1 Q L2.E0) := by
  refine ⟨fun pins s σ H Q I reading => wpAny_Call_Name_kw (ld_glob I gl mx (PySem.W.callWith_K (h₀ := X.base) I.ok.mod.kin kx (thn (pa.run pos pins s σ H _ I reading) fun us s1 ⟨vs, H1, I1, rel, q⟩ => ⟨I1.kIn, land (us := us) I1 ?_⟩) h1 h2) h0)⟩
  have given := bind s1 us I1.kIn (by rw [List.append_nil]; exact rel.length.symm.trans (F.len _ _ _ _ q))
  rw [List.append_nil] at given
  exact F.run X.A X.stack s1 H1 ⟨us, []⟩ us vs Q room I1.env0 given rel q
end
end Gd
set_option Elab.async false
set_option linter.all false
set_option maxRecDepth 100000
set_option maxHeartbeats 4000000
set_option pp.maxSteps 1500
/-! The dice. -/
namespace Kf
open PySem PySem.Spec PyProof.Rows L2 Sx
def top (i : Nat) : Stmt := PySem.Challenge.pw_prooffruit_k81_texts_that_write_none.main.body.getD i (.Pass ⟨0, 0, 0, 0⟩)
abbrev sRoll : Stmt := top 15
abbrev sPick : Stmt := top 16
abbrev rollN : List Str := ["dice", "size", "spot", "cell", "seed", "rest"]
theorem scRoll : FnScope rollN ["dice", "size"] (defScope sRoll) := ⟨rfl, rfl, rfl, by decide +kernel, rfl, by decide +kernel, by decide +kernel⟩
theorem scPick : FnScope ["dice", "some"] ["dice", "some"] (defScope sPick) := ⟨rfl, rfl, rfl, by decide +kernel, rfl, by decide +kernel, by decide +kernel⟩
/-- the dice: its cells, how many are used up, below m -/
def DiceAt (H : Hp) (p L : Addr) (m : Int) : Prop := ∃ (spot n rest : Int) (cells : List Int), H p = some (.lst [.ref L, .int spot, .int n, .int rest]) ∧ L ≠ p ∧ H L = some (.lst (cells.map V.int)) ∧ cells.length ≤ 63 ∧ 0 ≤ spot ∧ spot ≤ m
theorem DiceAt.same {H H' : Hp} {p L : Addr} {m : Int} (h : DiceAt H p L m) (b : Same H H') : DiceAt H' p L m := by
  obtain ⟨x, n, r, cs, e, nl, eL, q⟩ := h
  exact ⟨x, n, r, cs, b _ _ e, nl, b _ _ eL, q⟩
theorem DiceAt.more {H : Hp} {p L : Addr} {m k : Int} (h : DiceAt H p L m) (l : m ≤ k) : DiceAt H p L k := by
  obtain ⟨x, n, r, cs, e, nl, eL, hc, h0, h1⟩ := h
  exact ⟨x, n, r, cs, e, nl, eL, hc, h0, Int.le_trans h1 l⟩
theorem DiceAt.ne {H : Hp} {p q L : Addr} {m : Int} (h : DiceAt H p L m) (e : H q = none) : q ≠ p := fun z => by
  obtain ⟨x, n, r, cs, e2, _⟩ := h
  rw [z, e2] at e
  cases e
theorem DiceAt.tups {H H' : Hp} {p L : Addr} {m : Int} (h : DiceAt H p L m) (b : But p H H') : Tups H H' := by
  obtain ⟨x, n, r, cs, e2, _⟩ := h
  intro c xs e
  refine b _ _ (fun z => ?_) e
  rw [z, e2] at e
  cases e
/-! ### whole numbers as data -/
theorem dp_ints {K : PySem.W.Frag} {H : Hp} {a : Addr} {ns : List Int} (h : SqL K H a (ns.map V.int)) : Dp K H (.ref a) (.list (ns.map PyData.int)) := by
  refine .lst h ?_
  clear h
  induction ns with
  | nil => exact .nil
  | cons x r ih => exact .cons (.int x) ih
theorem lay_ints : ∀ ns : List Int, PyData.canLayAll0 (ns.map .int) = true ∧ PyData.depthAll (ns.map .int) = 0
  | [] => ⟨rfl, rfl⟩
  | z :: r => by
    obtain ⟨h1, h2⟩ := lay_ints r
    refine ⟨?_, ?_⟩
    · show (true && PyData.canLayAll0 (r.map .int)) = true
      rw [h1]
      rfl
    · show max 0 (PyData.depthAll (r.map .int)) = 0
      rw [h2]
      rfl
theorem shaped_ints (ns : List Int) : SeqAt.shaped (.list (ns.map .int)) = true := by
  obtain ⟨h1, h2⟩ := lay_ints ns
  show (PyData.canLayAll0 (ns.map .int) && decide (PyData.depthAll (ns.map .int) + 1 ≤ 64)) = true
  rw [h1, h2]
  rfl
theorem notM {m : Int} (h : 0 < m) : m ≠ 0 := Int.ne_of_gt h
theorem mod_in {i m : Int} (h : 0 < m) : 0 ≤ i.fmod m ∧ i.fmod m < m := by
  rw [Int.fmod_eq_emod_of_nonneg _ (Int.le_of_lt h)]
  exact ⟨Int.emod_nonneg _ (Int.ne_of_gt h), Int.emod_lt_of_pos _ h⟩
theorem atI_in {α : Type} {xs : List α} {r : Int} (h0 : 0 ≤ r) (h1 : r < (xs.length : Int)) : ∃ x ∈ xs, atI xs r = some x := by
  obtain ⟨k, rfl⟩ := Int.eq_ofNat_of_zero_le h0
  have lt : k < xs.length := by omega
  exact ⟨xs[k], List.getElem_mem lt, atI_nat (List.getElem?_eq_getElem lt)⟩
section
variable {P : Program} {w : World} {K : PySem.W.Frag} {mg : Str → Option Value} {base : Heap}
def spRoll : Sp := fun vs H Q _ => ∃ (p L : Addr) (size m : Int), vs = [.ref p, .int size] ∧ 0 < size ∧ size.natAbs < 2 ^ 200 ∧ m < 2 ^ 50 ∧ DiceAt H p L m ∧
  ∀ (r : Int) H', 0 ≤ r → r < size → But p H H' → DiceAt H' p L (m + 1) → Q (.int r) H'
theorem ok_roll {f : Addr} {fd : FuncData} {j : Nat} (F : Fun K "_law_roll" "_law_roll" sRoll f fd) (ml : mg "len" = none) : FnOk P w K mg base CX0 (j + 1) f fd ["dice", "size"] spRoll := by
  refine F.ok scRoll (fun vs H Q E h => ?_) (fun cdv A outer s H vs Q E hr h => ?_)
  · obtain ⟨a, L, z, m, rfl, _⟩ := h
    rfl
  obtain ⟨p, L, size, m, rfl, pos, small, mm, ⟨spot, n, rest, cells, hp, nl, hL, hc, s0, s1⟩, q⟩ := h
  have u1 : (A.deeper (envOfC "_law_roll" (defScope sRoll) s.heap.objs.size f cdv)).units + 64 < cLine := by
    have := hr.units
    omega
  refine ⟨_, pss_cons (ps_if (pt_cmpR op_eq (pe_ix ix_list (pv 0) pe_int (fun _ _ => rfl)) pe_int (nomark _))
      (pss_cons (ps_set (i := 2) scRoll.nd rfl (.inl rfl) (pe_ix ix_list (pv 0) pe_int (fun _ _ => rfl)))
      (pss_cons (ps_asg (pe_op op_add (pv 2) pe_int) (pg_sub (pv 0) pe_int set_list))
      (pss_cons (ps_set (i := 3) scRoll.nd rfl (.inl rfl) pe_int)
      (pss_cons (ps_if (pt_cmpR (op_neD u1) (pe_ix ix_list (pv 0) pe_int (fun _ _ => rfl)) (pe_lst pa_nil) (nomark _))
        (pss_one (ps_set (i := 3) scRoll.nd rfl (.inl rfl) (pe_ix ix_list (pe_ix ix_list (pv 0) pe_int (fun _ _ => rfl)) (pe_op op_modN (pv 2) (pe_callB call_len_seq (by rfl) ml PySem.boot_len (pa_cons (pe_ix ix_list (pv 0) pe_int (fun _ _ => rfl)) pa_nil))) (fun _ _ => rfl)))) pss_nil)
      (pss_cons (ps_if (PW.pt (pw_or (pt_cmpR op_ge (pv 2) (pe_callB call_len_seq (by rfl) ml PySem.boot_len (pa_cons (pe_ix ix_list (pv 0) pe_int (fun _ _ => rfl)) pa_nil)) (nomark _)) (pw_or1 (pt_cmpR op_lt (pv 3) (pe_op op_pow pe_int pe_int) (nomark _)))))
        (pss_cons (ps_set (i := 4) scRoll.nd rfl (.inl rfl) (pe_op op_modN (pe_op op_mul (pe_op op_add (pe_op op_modN (pv 3) pe_int) pe_int) (pe_op op_add (pe_op op_add (pe_op op_mul (pv 2) (pv 2)) (pe_op op_mul pe_int (pv 2))) pe_int)) pe_int))
        (pss_cons (ps_set (i := 4) scRoll.nd rfl (.inl rfl) (pe_op op_modN (pe_op op_pow (pv 4) pe_int) pe_int))
        (pss_one (ps_ret (pe_op op_modN (pe_op op_fdiv (pe_op op_modN (pe_op op_add (pv 4) (pe_op op_mul pe_int (pv 2))) pe_int) pe_int) (pv 1)))))) pss_nil)
      (pss_cons (ps_asg pe_int (pg_sub (pv 0) pe_int set_list))
      (pss_one (ps_asg (pe_op op_sub (pv 3) (pe_op op_pow pe_int pe_int)) (pg_sub (pv 0) pe_int set_list))))))))) pss_nil)
    (pss_cons (ps_asg (pe_op op_sub (pe_ix ix_list (pv 0) pe_int (fun _ _ => rfl)) pe_int) (pg_sub (pv 0) pe_int set_list))
    (pss_cons (ps_set (i := 5) scRoll.nd rfl (.inl rfl) (pe_ix ix_list (pv 0) pe_int (fun _ _ => rfl)))
    (pss_cons (ps_asg (pe_op op_fdivW (pv 5) (pv 1)) (pg_sub (pv 0) pe_int set_list)) (pss_one (ps_ret (pe_op op_modN (pv 5) (pv 1))))))), ?_⟩
  have sq : ∀ (H' : Hp) a b c, H' p = some (.lst [.ref L, a, b, c]) → SqL K H' p [.ref L, a, b, c] := fun H' a b c e => .inl (.inl e)
  have end_ : ∀ (H' : Hp) (x a b : Int), H' p = some (.lst [.ref L, .int x, .int a, .int b]) → But p H H' → 0 ≤ x → x ≤ m + 1 →
      (∃ H2, H2 = upd (upd H' p (.lst [.ref L, .int x, .int (a - 1), .int b])) p (.lst [.ref L, .int x, .int (a - 1), .int (b / size)]) ∧ Q (.int (b.fmod size)) H2) := fun H' x a b e bb x0 x1 => by
    refine ⟨_, rfl, ?_⟩
    refine q _ _ (mod_in pos).1 (mod_in pos).2 ((bb.own).own) ⟨x, a - 1, b / size, cells, upd_same, nl, ?_, hc, x0, x1⟩
    rw [upd_ne nl, upd_ne nl]
    exact bb _ _ nl hL
  have sp : CMul spot spot := .inl ⟨by omega, by omega⟩
  have in64 : ∀ c : Int, -(2 ^ 64) < c.fmod 999953 + 37 ∧ c.fmod 999953 + 37 < 2 ^ 64 := fun c => by
    obtain ⟨a, b⟩ := mod_in (i := c) (m := 999953) (by decide)
    omega
  have pow64 : ∀ c : Int, (c.fmod 1000003).natAbs < 2 ^ 64 := fun c => by
    obtain ⟨a, b⟩ := mod_in (i := c) (m := 1000003) (by decide)
    omega
  refine ⟨_, rfl, p, _, 2, .int n, rfl, rfl, sq _ _ _ _ hp, rfl, rfl, _, rfl, ?_⟩
  refine ite2 (fun c => ?_) (fun c => ?_)
  · refine ⟨_, rfl, p, _, 1, .int spot, rfl, rfl, sq _ _ _ _ hp, rfl, ?_⟩
    refine ⟨_, rfl, _, _, rfl, rfl, _, rfl, p, _, 1, 1, rfl, rfl, hp, rfl, ?_⟩
    have b1 : But p H (upd H p (.lst [.ref L, .int (spot + 1), .int n, .int rest])) := (But.refl p H).own
    have hL1 := b1 _ _ nl hL
    have hp1 : upd H p (.lst [.ref L, .int (spot + 1), .int n, .int rest]) p = some (.lst [.ref L, .int (spot + 1), .int n, .int rest]) := upd_same
    refine ⟨_, rfl, p, _, 0, .ref L, rfl, rfl, sq _ _ _ _ hp1, rfl, (by show 0 ≤ sizeLine; decide), fun e0 ne0 => ?_⟩
    have s2 := same_new (o := .lst []) ne0
    have b2 := b1.new (o := .lst []) ne0
    have hL2 := s2 _ _ hL1
    have hp2 := s2 _ _ hp1
    refine ⟨_, _, dp_ints (.inl (.inl hL2)), .lst (.inl (.inl upd_same)) .nil, shaped_ints _, rfl, _, rfl, ?_⟩
    cases cells with
    | nil =>
      refine iteF ?_
      refine ⟨_, rfl, _, rfl, p, _, 0, .ref L, rfl, rfl, sq _ _ _ _ hp2, rfl, L, _, rfl, .inl (.inl (.inl hL2)), _, _, rfl, rfl, _, rfl, ?_⟩
      refine ite2 (fun c2 => ?_) (fun c2 => (c2 (decide_eq_true s0)).elim)
      refine ⟨_, rfl, _, _, rfl, rfl, notM (by decide), _, _, rfl, rfl, _, rfl, _, rfl, _, _, rfl, rfl, sp, _, rfl, _, _, rfl, rfl, .inl ⟨by decide, by decide⟩, _, _, rfl, rfl, _, _, rfl, rfl, _, _, rfl, rfl, .inl (in64 _), _, _, rfl, rfl, notM (by decide), ?_⟩
      refine ⟨_, rfl, _, _, rfl, rfl, ⟨by decide, by decide, pow64 _⟩, _, _, rfl, rfl, notM (by decide), ?_⟩
      refine ⟨_, rfl, _, rfl, _, _, rfl, rfl, .inl ⟨by decide, by decide⟩, _, _, rfl, rfl, _, _, rfl, rfl, notM (by decide), _, _, rfl, rfl, ⟨by decide, by decide⟩, _, rfl, _, _, rfl, rfl, notM pos, ?_⟩
      exact q _ _ (mod_in pos).1 (mod_in pos).2 b2 ⟨spot + 1, n, rest, _, hp2, nl, hL2, hc, by omega, by omega⟩
    | cons z zs =>
      refine iteT ?_
      refine ⟨_, rfl, p, _, 0, .ref L, rfl, rfl, sq _ _ _ _ hp2, rfl, _, rfl, _, rfl, p, _, 0, .ref L, rfl, rfl, sq _ _ _ _ hp2, rfl, L, _, rfl, .inl (.inl (.inl hL2)), _, _, rfl, rfl, notM (by show (0 : Int) < (((z :: zs).map V.int).length : Nat); rw [List.length_map]; exact Int.natCast_pos.mpr (Nat.succ_pos _)), ?_⟩
      obtain ⟨i0, i1⟩ := mod_in (i := spot) (m := (((z :: zs).map V.int).length : Nat)) (by rw [List.length_map]; exact Int.natCast_pos.mpr (Nat.succ_pos _))
      have item : ∃ y : Int, atI ((z :: zs).map V.int) (spot.fmod (((z :: zs).map V.int).length : Nat)) = some (.int y) := by
        obtain ⟨x, mem, e⟩ := atI_in i0 i1
        obtain ⟨y, _, ey⟩ := List.mem_map.mp mem
        exact ⟨y, by rw [e, ← ey]⟩
      obtain ⟨y, item⟩ := item
      refine ⟨L, _, _, _, rfl, rfl, .inl (.inl hL2), item, ?_⟩
      refine ⟨_, rfl, _, rfl, p, _, 0, .ref L, rfl, rfl, sq _ _ _ _ hp2, rfl, L, _, rfl, .inl (.inl (.inl hL2)), _, _, rfl, rfl, _, rfl, ?_⟩
      refine ite2 (fun c2 => ?_) (fun c2 => ?_)
      · refine ⟨_, rfl, _, _, rfl, rfl, notM (by decide), _, _, rfl, rfl, _, rfl, _, rfl, _, _, rfl, rfl, sp, _, rfl, _, _, rfl, rfl, .inl ⟨by decide, by decide⟩, _, _, rfl, rfl, _, _, rfl, rfl, _, _, rfl, rfl, .inl (in64 _), _, _, rfl, rfl, notM (by decide), ?_⟩
        refine ⟨_, rfl, _, _, rfl, rfl, ⟨by decide, by decide, pow64 _⟩, _, _, rfl, rfl, notM (by decide), ?_⟩
        refine ⟨_, rfl, _, rfl, _, _, rfl, rfl, .inl ⟨by decide, by decide⟩, _, _, rfl, rfl, _, _, rfl, rfl, notM (by decide), _, _, rfl, rfl, ⟨by decide, by decide⟩, _, rfl, _, _, rfl, rfl, notM pos, ?_⟩
        exact q _ _ (mod_in pos).1 (mod_in pos).2 b2 ⟨spot + 1, n, rest, _, hp2, nl, hL2, hc, by omega, by omega⟩
      · refine ⟨_, rfl, _, _, rfl, rfl, ⟨by decide, by decide, by decide⟩, _, _, rfl, rfl, _, rfl, ?_⟩
        refine ite2 (fun c3 => ?_) (fun c3 => ?_)
        · refine ⟨_, rfl, _, _, rfl, rfl, notM (by decide), _, _, rfl, rfl, _, rfl, _, rfl, _, _, rfl, rfl, sp, _, rfl, _, _, rfl, rfl, .inl ⟨by decide, by decide⟩, _, _, rfl, rfl, _, _, rfl, rfl, _, _, rfl, rfl, .inl (in64 _), _, _, rfl, rfl, notM (by decide), ?_⟩
          refine ⟨_, rfl, _, _, rfl, rfl, ⟨by decide, by decide, pow64 _⟩, _, _, rfl, rfl, notM (by decide), ?_⟩
          refine ⟨_, rfl, _, rfl, _, _, rfl, rfl, .inl ⟨by decide, by decide⟩, _, _, rfl, rfl, _, _, rfl, rfl, notM (by decide), _, _, rfl, rfl, ⟨by decide, by decide⟩, _, rfl, _, _, rfl, rfl, notM pos, ?_⟩
          exact q _ _ (mod_in pos).1 (mod_in pos).2 b2 ⟨spot + 1, n, rest, _, hp2, nl, hL2, hc, by omega, by omega⟩
        · refine ⟨_, rfl, p, _, 2, 2, rfl, rfl, hp2, rfl, ?_⟩
          refine ⟨_, rfl, _, _, rfl, rfl, ⟨by decide, by decide, by decide⟩, _, _, rfl, rfl, _, rfl, p, _, 3, 3, rfl, rfl, upd_same, rfl, ?_⟩
          refine ⟨_, rfl, p, _, 2, _, rfl, rfl, sq _ _ _ _ upd_same, rfl, _, _, rfl, rfl, _, rfl, p, _, 2, 2, rfl, rfl, upd_same, rfl, ?_⟩
          refine ⟨_, rfl, p, _, 3, _, rfl, rfl, sq _ _ _ _ upd_same, rfl, ?_⟩
          refine ⟨_, rfl, _, rfl, _, _, rfl, rfl, wide_div pos small (by decide) (by decide), _, rfl, p, _, 3, 3, rfl, rfl, upd_same, rfl, ?_⟩
          refine ⟨_, rfl, _, rfl, _, _, rfl, rfl, notM pos, ?_⟩
          refine q _ _ (mod_in pos).1 (mod_in pos).2 ((((b2.own).own).own).own) ⟨spot + 1, _, _, _, upd_same, nl, ?_, hc, by omega, by omega⟩
          rw [upd_ne nl, upd_ne nl, upd_ne nl, upd_ne nl]
          exact hL2
  · refine ⟨_, rfl, p, _, 2, _, rfl, rfl, sq _ _ _ _ hp, rfl, _, _, rfl, rfl, _, rfl, p, _, 2, 2, rfl, rfl, hp, rfl, ?_⟩
    refine ⟨_, rfl, p, _, 3, _, rfl, rfl, sq _ _ _ _ upd_same, rfl, ?_⟩
    refine ⟨_, rfl, _, rfl, _, _, rfl, rfl, wide_div pos small (by decide) (by decide), _, rfl, p, _, 3, 3, rfl, rfl, upd_same, rfl, ?_⟩
    refine ⟨_, rfl, _, rfl, _, _, rfl, rfl, notM pos, ?_⟩
    refine q _ _ (mod_in pos).1 (mod_in pos).2 ((((But.refl p H).own).own)) ⟨spot, _, _, _, upd_same, nl, ?_, hc, s0, by omega⟩
    rw [upd_ne nl, upd_ne nl]
    exact hL
end
end Kf
set_option Elab.async false
set_option linter.all false
set_option maxRecDepth 100000
set_option maxHeartbeats 4000000
set_option pp.maxSteps 800
/-! Data of any form. -/
namespace Kf
open PySem PySem.Spec PyProof.Rows L2 Sx
section
variable {K : PySem.W.Frag} {H H' : Hp}
theorem sqL_up {a : Addr} {xs : List V} (b : Same H H') (h : SqL K H a xs) : SqL K H' a xs := by
  rcases h with (h | ⟨o, h⟩) | h
  · exact .inl (.inl (b _ _ h))
  · exact .inl (.inr ⟨o, b _ _ h⟩)
  · exact .inr h
theorem sqT_up {a : Addr} {xs : List V} (b : Same H H') (h : SqT K H a xs) : SqT K H' a xs := by
  rcases h with (h | ⟨o, h⟩) | h
  · exact .inl (.inl (b _ _ h))
  · exact .inl (.inr ⟨o, b _ _ h⟩)
  · exact .inr h
mutual
theorem dp_up (s : Same H H') : ∀ (d : PyData) (v : V), Dp K H v d → Dp K H' v d
  | .none, _, h => by cases h; exact .non
  | .bool b, _, h => by cases h; exact .bl b
  | .int b, _, h => by cases h; exact .int b
  | .str b, _, h => by cases h; exact .str b
  | .list ds, _, h => by
    cases h with
    | lst h a => exact .lst (sqL_up s h) (dps_up s ds _ a)
  | .tuple ds, _, h => by
    cases h with
    | tup h a => exact .tup (sqT_up s h) (dps_up s ds _ a)
  | .dict _, _, h => by cases h
theorem dps_up (s : Same H H') : ∀ (ds : List PyData) (vs : List V), DpAll K H vs ds → DpAll K H' vs ds
  | [], _, h => by cases h; exact .nil
  | d :: ds, _, h => by
    cases h with
    | cons a b => exact .cons (dp_up s d _ a) (dps_up s ds _ b)
end
/-- the name of a thing's type -/
def tyN : PyData → String
  | .none => "NoneType"
  | .bool _ => "bool"
  | .int _ => "int"
  | .str _ => "str"
  | .list _ => "list"
  | .tuple _ => "tuple"
  | .dict _ => "dict"
theorem dp_ty {v : V} {d : PyData} (h : Dp K H v d) : TyX K H v (.type (tyN d)) := by
  cases h with
  | non => exact .base .non
  | bl b => exact .base (.bl b)
  | int i => exact .base (.int i)
  | str z => exact .base (.str z)
  | lst h _ =>
    rcases h with (h | ⟨o, h⟩) | ⟨o, its, n, e, c, _⟩
    · exact .base (.lst h)
    · exact .base (.frz h)
    · exact .kList e c
  | tup h _ =>
    rcases h with (h | ⟨o, h⟩) | ⟨o, its, n, e, c, _⟩
    · exact .base (.tup h)
    · exact .fTuple h
    · exact .kTuple e c
def isI : PyData → Bool
  | .int _ | .bool _ => true
  | _ => false
def isB : PyData → Bool
  | .bool _ => true
  | _ => false
def isS : PyData → Bool
  | .str _ => true
  | _ => false
def isTu : PyData → Bool
  | .tuple _ => true
  | _ => false
theorem kit_i (d : PyData) : PySem.W.kitOne K (.type (tyN d)) (.type "int") = some (isI d) := by
  cases d with
  | none => exact kit_ty (show kitB "NoneType" "int" = some false by decide +kernel)
  | bool _ => exact kit_ty (show kitB "bool" "int" = some true by decide +kernel)
  | int _ => exact kit_ty (show kitB "int" "int" = some true by decide +kernel)
  | str _ => exact kit_ty (show kitB "str" "int" = some false by decide +kernel)
  | list _ => exact kit_ty (show kitB "list" "int" = some false by decide +kernel)
  | tuple _ => exact kit_ty (show kitB "tuple" "int" = some false by decide +kernel)
  | dict _ => exact kit_ty (show kitB "dict" "int" = some false by decide +kernel)
theorem kit_b (d : PyData) : PySem.W.kitOne K (.type (tyN d)) (.type "bool") = some (isB d) := by
  cases d with
  | none => exact kit_ty (show kitB "NoneType" "bool" = some false by decide +kernel)
  | bool _ => exact kit_ty (show kitB "bool" "bool" = some true by decide +kernel)
  | int _ => exact kit_ty (show kitB "int" "bool" = some false by decide +kernel)
  | str _ => exact kit_ty (show kitB "str" "bool" = some false by decide +kernel)
  | list _ => exact kit_ty (show kitB "list" "bool" = some false by decide +kernel)
  | tuple _ => exact kit_ty (show kitB "tuple" "bool" = some false by decide +kernel)
  | dict _ => exact kit_ty (show kitB "dict" "bool" = some false by decide +kernel)
theorem kit_s (d : PyData) : PySem.W.kitOne K (.type (tyN d)) (.type "str") = some (isS d) := by
  cases d with
  | none => exact kit_ty (show kitB "NoneType" "str" = some false by decide +kernel)
  | bool _ => exact kit_ty (show kitB "bool" "str" = some false by decide +kernel)
  | int _ => exact kit_ty (show kitB "int" "str" = some false by decide +kernel)
  | str _ => exact kit_ty (show kitB "str" "str" = some true by decide +kernel)
  | list _ => exact kit_ty (show kitB "list" "str" = some false by decide +kernel)
  | tuple _ => exact kit_ty (show kitB "tuple" "str" = some false by decide +kernel)
  | dict _ => exact kit_ty (show kitB "dict" "str" = some false by decide +kernel)
theorem kit_tu (d : PyData) : PySem.W.kitOne K (.type (tyN d)) (.type "tuple") = some (isTu d) := by
  cases d with
  | none => exact kit_ty (show kitB "NoneType" "tuple" = some false by decide +kernel)
  | bool _ => exact kit_ty (show kitB "bool" "tuple" = some false by decide +kernel)
  | int _ => exact kit_ty (show kitB "int" "tuple" = some false by decide +kernel)
  | str _ => exact kit_ty (show kitB "str" "tuple" = some false by decide +kernel)
  | list _ => exact kit_ty (show kitB "list" "tuple" = some false by decide +kernel)
  | tuple _ => exact kit_ty (show kitB "tuple" "tuple" = some true by decide +kernel)
  | dict _ => exact kit_ty (show kitB "dict" "tuple" = some false by decide +kernel)
theorem dps_len : ∀ {vs : List V} {ds : List PyData}, DpAll K H vs ds → vs.length = ds.length
  | _, _, .nil => rfl
  | _, _, .cons _ t => congrArg Nat.succ (dps_len t)
end
/-! ### in a tuple -/
section
variable {X : Cx}
def rInDT (K : PySem.W.Frag) : R2 := fun x y H Q => ∃ d ds, Dp K H x d ∧ Dp K H y (.tuple ds) ∧ SeqAt.shaped d = true ∧ SeqAt.shaped (.list ds) = true ∧ PyData.depthAll ds = 0 ∧ Q (.bl (ds.any fun z => PyData.eqv z d)) H
theorem op_inDT (hu : X.A.units + 64 < cLine) : OpR X (compareOp .In) (rInDT X.K) := by
  intro pins s σ H x y v u Q I rx ry h
  obtain ⟨d, ds, hd, he, sd, se, z0, q⟩ := h
  obtain ⟨as, r1⟩ := Dp.reads I d x v hd rx
  obtain ⟨bs, r2⟩ := Dp.reads I (.tuple ds) y u he ry
  exact SeqAt.in_tuple_reads r2 r1 (SeqAt.canLay_of_shaped se) (SeqAt.canLay_of_shaped sd) (by rw [z0, Nat.zero_min]; omega) ⟨.bl _, H, I, rfl, q⟩
def rNotInDT (K : PySem.W.Frag) : R2 := fun x y H Q => ∃ d ds, Dp K H x d ∧ Dp K H y (.tuple ds) ∧ SeqAt.shaped d = true ∧ SeqAt.shaped (.list ds) = true ∧ PyData.depthAll ds = 0 ∧ Q (.bl (!ds.any fun z => PyData.eqv z d)) H
theorem op_notInDT (hu : X.A.units + 64 < cLine) : OpR X (compareOp .NotIn) (rNotInDT X.K) := by
  intro pins s σ H x y v u Q I rx ry h
  obtain ⟨d, ds, hd, he, sd, se, z0, q⟩ := h
  obtain ⟨as, r1⟩ := Dp.reads I d x v hd rx
  obtain ⟨bs, r2⟩ := Dp.reads I (.tuple ds) y u he ry
  exact SeqAt.notIn_tuple_reads r2 r1 (SeqAt.canLay_of_shaped se) (SeqAt.canLay_of_shaped sd) (by rw [z0, Nat.zero_min]; omega) ⟨.bl _, H, I, rfl, q⟩
end
/-! ### data of any depth: ==, !=, repr -/
section
variable {X : Cx}
def rEqW (K : PySem.W.Frag) : R2 := fun x y H Q => ∃ d e, Dp K H x d ∧ Dp K H y e ∧ d.canLay0 = true ∧ e.canLay0 = true ∧ d.depth ≤ 120 ∧ Q (.bl (PyData.eqv d e)) H
def rNeW (K : PySem.W.Frag) : R2 := fun x y H Q => ∃ d e, Dp K H x d ∧ Dp K H y e ∧ d.canLay0 = true ∧ e.canLay0 = true ∧ d.depth ≤ 120 ∧ Q (.bl (!PyData.eqv d e)) H
theorem op_eqW (hu : X.A.units + 130 < cLine) : OpR X (compareOp .Eq) (rEqW X.K) := by
  intro pins s σ H x y v u Q I rx ry h
  obtain ⟨d, e, hd, he, sd, se, dd, q⟩ := h
  obtain ⟨as, r1⟩ := Dp.reads I d x v hd rx
  obtain ⟨bs, r2⟩ := Dp.reads I e y u he ry
  exact SeqAt.compareEq_reads r1 r2 sd se (by omega) ⟨.bl _, H, I, rfl, q⟩
theorem op_neW (hu : X.A.units + 130 < cLine) : OpR X (compareOp .NotEq) (rNeW X.K) := by
  intro pins s σ H x y v u Q I rx ry h
  obtain ⟨d, e, hd, he, sd, se, dd, q⟩ := h
  obtain ⟨as, r1⟩ := Dp.reads I d x v hd rx
  obtain ⟨bs, r2⟩ := Dp.reads I e y u he ry
  exact SeqAt.compareNe_reads r1 r2 sd se (by omega) ⟨.bl _, H, I, rfl, q⟩
def rInW (K : PySem.W.Frag) : R2 := fun x y H Q => ∃ d ds, Dp K H x d ∧ Dp K H y (.tuple ds) ∧ d.canLay0 = true ∧ PyData.canLayAll0 ds = true ∧ min (PyData.depthAll ds) d.depth ≤ 120 ∧ Q (.bl (ds.any fun z => PyData.eqv z d)) H
theorem op_inW (hu : X.A.units + 130 < cLine) : OpR X (compareOp .In) (rInW X.K) := by
  intro pins s σ H x y v u Q I rx ry h
  obtain ⟨d, ds, hd, he, sd, se, z0, q⟩ := h
  obtain ⟨as, r1⟩ := Dp.reads I d x v hd rx
  obtain ⟨bs, r2⟩ := Dp.reads I (.tuple ds) y u he ry
  exact SeqAt.in_tuple_reads r2 r1 se sd (by omega) ⟨.bl _, H, I, rfl, q⟩
def rNotInW (K : PySem.W.Frag) : R2 := fun x y H Q => ∃ d ds, Dp K H x d ∧ Dp K H y (.tuple ds) ∧ d.canLay0 = true ∧ PyData.canLayAll0 ds = true ∧ min (PyData.depthAll ds) d.depth ≤ 120 ∧ Q (.bl (!ds.any fun z => PyData.eqv z d)) H
theorem op_notInW (hu : X.A.units + 130 < cLine) : OpR X (compareOp .NotIn) (rNotInW X.K) := by
  intro pins s σ H x y v u Q I rx ry h
  obtain ⟨d, ds, hd, he, sd, se, z0, q⟩ := h
  obtain ⟨as, r1⟩ := Dp.reads I d x v hd rx
  obtain ⟨bs, r2⟩ := Dp.reads I (.tuple ds) y u he ry
  exact SeqAt.notIn_tuple_reads r2 r1 se sd (by omega) ⟨.bl _, H, I, rfl, q⟩
end
end Kf
set_option Elab.async false
set_option linter.all false
set_option maxRecDepth 100000
set_option maxHeartbeats 8000000
set_option pp.maxSteps 600
/-! A pick from a list, from a text; a word. -/
namespace Kf
open PySem PySem.Spec PyProof.Rows L2 Sx
abbrev sWord : Stmt := top 17
theorem scWord : FnScope ["dice", "word", "k"] ["dice"] (defScope sWord) := ⟨rfl, rfl, rfl, by decide +kernel, rfl, by decide +kernel, by decide +kernel⟩
section
variable {P : Program} {w : World} {K : PySem.W.Frag} {mg : Str → Option Value} {base : Heap}
def spPick (K : PySem.W.Frag) : Sp := fun vs H Q _ => ∃ (p l L : Addr) (xs : List V) (m : Int), vs = [.ref p, .ref l] ∧ SqL K H l xs ∧ l ≠ p ∧ 0 < xs.length ∧ xs.length ≤ 1000 ∧ m < 2 ^ 50 ∧ DiceAt H p L m ∧
  ∀ x ∈ xs, ∀ H', But p H H' → DiceAt H' p L (m + 1) → Q x H'
theorem seq_but {p l : Addr} {H H' : Hp} {xs : List V} (n : l ≠ p) (b : But p H H') (h : SqL K H l xs) : SqL K H' l xs := by
  rcases h with (h | ⟨o, h⟩) | h
  · exact .inl (.inl (b _ _ n h))
  · exact .inl (.inr ⟨o, b _ _ n h⟩)
  · exact .inr h
theorem ok_pick {f g : Addr} {fd gd : FuncData} {j : Nat} (F : Fun K "_law_pick" "_law_pick" sPick f fd) (G : FnOk P w K mg base CX0 (j + 1) g gd ["dice", "size"] spRoll) (bG : Binds K gd ["dice", "size"] []) (kG : PySem.W.keepIn K (.ref g) = true) (mG : mg "_law_roll" = some (.ref g)) (ml : mg "len" = none) :
    FnOk P w K mg base CX0 (j + 2) f fd ["dice", "some"] (spPick K) := by
  refine F.ok scPick (fun vs H Q E h => ?_) (fun cdv A outer s H vs Q E hr h => ?_)
  · obtain ⟨p, l, L, xs, m, rfl, _⟩ := h
    rfl
  obtain ⟨p, l, L, xs, m, rfl, hs, nl, l0, l1, mm, hD, q⟩ := h
  refine ⟨_, pss_one (ps_ret (pe_ix ix_list (pv 1) (pe_call G hr (by rfl) mG kG bG .nil pass0 (pa_cons (pv 0) (pa_cons (pe_callB call_len_seq (by rfl) ml PySem.boot_len (pa_cons (pv 1) pa_nil)) pa_nil))) (fun _ _ => rfl))), ?_⟩
  refine ⟨_, rfl, _, rfl, _, rfl, l, xs, rfl, .inl hs, p, L, ((xs.length : Nat) : Int), m, rfl, by omega, Nat.lt_of_le_of_lt (by rw [Int.natAbs_natCast]; exact l1) (by decide), mm, hD, fun r H' r0 r1 b hD' => ?_⟩
  obtain ⟨x, mem, e⟩ := atI_in r0 r1
  exact ⟨l, xs, r, x, rfl, rfl, seq_but nl b hs, e, q x mem H' b hD'⟩

def spPickS : Sp := fun vs H Q _ => ∃ (p L : Addr) (z : Str) (m : Int), vs = [.ref p, .str z] ∧ 0 < z.length ∧ z.length ≤ 1000 ∧ m < 2 ^ 50 ∧ DiceAt H p L m ∧
  ∀ c ∈ z.cps.toList, ∀ H', But p H H' → DiceAt H' p L (m + 1) → Q (.str ⟨#[c]⟩) H'
theorem ok_pickS {f g : Addr} {fd gd : FuncData} {j : Nat} (F : Fun K "_law_pick" "_law_pick" sPick f fd) (G : FnOk P w K mg base CX0 (j + 1) g gd ["dice", "size"] spRoll) (bG : Binds K gd ["dice", "size"] []) (kG : PySem.W.keepIn K (.ref g) = true) (mG : mg "_law_roll" = some (.ref g)) (ml : mg "len" = none) :
    FnOk P w K mg base CX0 (j + 2) f fd ["dice", "some"] spPickS := by
  refine F.ok scPick (fun vs H Q E h => ?_) (fun cdv A outer s H vs Q E hr h => ?_)
  · obtain ⟨p, L, z, m, rfl, _⟩ := h
    rfl
  obtain ⟨p, L, z, m, rfl, l0, l1, mm, hD, q⟩ := h
  refine ⟨_, pss_one (ps_ret (pe_ix ix_str (pv 1) (pe_call G hr (by rfl) mG kG bG .nil pass0 (pa_cons (pv 0) (pa_cons (pe_callB call_len_str (by rfl) ml PySem.boot_len (pa_cons (pv 1) pa_nil)) pa_nil))) (fun _ _ => rfl))), ?_⟩
  have line : z.length ≤ sizeLine := Nat.le_trans l1 (by decide)
  refine ⟨_, rfl, _, rfl, _, rfl, z, rfl, line, p, L, ((z.length : Nat) : Int), m, rfl, by omega, Nat.lt_of_le_of_lt (by rw [Int.natAbs_natCast]; exact l1) (by decide), mm, hD, fun r H' r0 r1 b hD' => ?_⟩
  have ln : z.cps.toList.length = z.length := Array.length_toList
  obtain ⟨x, hx, item⟩ := atI_in (xs := z.cps.toList) r0 (by omega)
  exact ⟨z, r, _, rfl, rfl, line, item, q _ hx H' b hD'⟩
/-! ### the dice, with all that the draws want -/
structure Draw (P : Program) (w : World) (K : PySem.W.Frag) (mg : Str → Option Value) (base : Heap) (fr fp : Addr) (dr dp : FuncData) : Prop where
  R : FnOk P w K mg base CX0 1 fr dr ["dice", "size"] spRoll
  bR : Binds K dr ["dice", "size"] []
  kR : PySem.W.keepIn K (.ref fr) = true
  mR : mg "_law_roll" = some (.ref fr)
  Pk : FnOk P w K mg base CX0 2 fp dp ["dice", "some"] (spPick K)
  Ps : FnOk P w K mg base CX0 2 fp dp ["dice", "some"] spPickS
  bP : Binds K dp ["dice", "some"] []
  kP : PySem.W.keepIn K (.ref fp) = true
  mP : mg "_law_pick" = some (.ref fp)
abbrev abc : Str := "abcdefghijklmnopqrstuvwxyz"
/-- a word: one to eight small letters -/
def WordZ (z : Str) : Prop := 1 ≤ z.length ∧ z.length ≤ 8 ∧ ∀ c ∈ z.cps.toList, c ∈ abc.cps.toList
theorem lo62 {r : Int} (h : 0 ≤ r) : -(2 ^ 62) ≤ r := Int.le_trans (by decide) h
theorem hi62 {r : Int} (h : r ≤ 1000) : r < 2 ^ 62 := Int.lt_of_le_of_lt h (by decide)
theorem add_len {x y : Str} : (x ++ y).length = x.length + y.length := Array.size_append
theorem add_tl {x y : Str} : (x ++ y).cps.toList = x.cps.toList ++ y.cps.toList := Array.toList_append
def spWord : Sp := fun vs H Q _ => ∃ (p L : Addr) (m : Int), vs = [.ref p] ∧ m < 2 ^ 45 ∧ DiceAt H p L m ∧ ∀ z H', WordZ z → But p H H' → DiceAt H' p L (m + 10) → Q (.str z) H'
theorem ok_lword {f fr fp : Addr} {fd dr dp : FuncData} (F : Fun K "_law_word" "_law_word" sWord f fd) (D : Draw P w K mg base fr fp dr dp) (zRange : mg "range" = none) : FnOk P w K mg base CX0 3 f fd ["dice"] spWord := by
  refine F.ok scWord (fun vs H Q E h => ?_) (fun cdv A outer s H vs Q E hr h => ?_)
  · obtain ⟨p, L, m, rfl, _⟩ := h
    rfl
  obtain ⟨p, L, m, rfl, mb, hD, q⟩ := h
  have h1 : Room 1 _ := hr.mono (by decide)
  refine ⟨_, (pss_cons (ps_set (i := 1) scWord.nd rfl (.inl rfl) pe_str)
    (pss_cons (ps_for PassesOwn.never rfl (pi_range1 (by rfl) zRange (pa_cons (pe_call D.Pk hr (by rfl) D.mP D.kP D.bP .nil pass0 (pa_cons (pv 0) (pa_cons (pe_lst (pa_cons pe_int (pa_cons pe_int (pa_cons pe_int (pa_cons pe_int (pa_cons (pe_op op_add pe_int (pe_call D.R h1 (by rfl) D.mR D.kR D.bR .nil pass0 (pa_cons (pv 0) (pa_cons pe_int pa_nil)))) pa_nil)))))) pa_nil))) pa_nil)) (pg_name (i := 2) scWord.nd rfl (.inl rfl)) (pss_one (ps_set (i := 1) scWord.nd rfl (.inl rfl) (pe_op op_add_str (pv 1) (pe_call D.Ps hr (by rfl) D.mP D.kP D.bP .nil pass0 (pa_cons (pv 0) (pa_cons pe_str pa_nil)))))))
    (pss_one (ps_ret (pv 1))))), ?_⟩
  refine ⟨_, rfl, _, rfl, p, L, 8, m, rfl, by decide, by decide, by omega, hD, fun r H1 r0 r1 b1 hD1 => ?_⟩
  refine ⟨_, _, rfl, rfl, (by show 5 ≤ sizeLine; decide), fun l nl => ?_⟩
  have s2 := same_new (o := .lst [.int 1, .int 1, .int 2, .int 8, .int (1 + r)]) nl
  have e2 : upd H1 l (.lst [.int 1, .int 1, .int 2, .int 8, .int (1 + r)]) l = _ := upd_same
  have hD2 := hD1.same s2
  have nlp := hD1.ne nl
  generalize upd H1 l (.lst [.int 1, .int 1, .int 2, .int 8, .int (1 + r)]) = H2 at s2 e2 hD2
  have b2 : But p H H2 := b1.trans (but_same s2)
  refine ⟨p, l, L, _, m + 1, rfl, .inl (.inl e2), nlp, (by show 0 < 5; decide), (by show 5 ≤ 1000; decide), by omega, hD2, fun x mem H3 b3 hD3 => ?_⟩
  obtain ⟨k, rfl, k1, k8⟩ : ∃ k : Int, x = .int k ∧ 1 ≤ k ∧ k ≤ 8 := by
    rcases List.mem_cons.mp mem with e | mem
    · exact ⟨1, e, by decide, by decide⟩
    rcases List.mem_cons.mp mem with e | mem
    · exact ⟨1, e, by decide, by decide⟩
    rcases List.mem_cons.mp mem with e | mem
    · exact ⟨2, e, by decide, by decide⟩
    rcases List.mem_cons.mp mem with e | mem
    · exact ⟨8, e, by decide, by decide⟩
    · exact ⟨1 + r, List.mem_singleton.mp mem, by omega, by omega⟩
  have bb := b2.trans b3
  refine ⟨_, rfl, lo62 (by omega), hi62 (by omega), ?_⟩
  refine for_range (lo := 0) (n := k.toNat) (fun i σ H' => ∃ (z : Str) (y2 : Option V), σ = [some (.ref p), some (.str z), y2] ∧ z.length = i ∧ (∀ c ∈ z.cps.toList, c ∈ abc.cps.toList) ∧ But p H H' ∧ DiceAt H' p L (m + 1 + 1 + (i : Int)))
    ⟨"", none, rfl, by decide +kernel, (fun c hc => by cases hc), bb, hD3.more (by omega)⟩ ?_ ?_
  · rintro i σ X hi ⟨z, y2, rfl, lz, az, bX, hX⟩
    refine ⟨_, rfl, _, rfl, p, L, abc, _, rfl, by decide +kernel, by decide +kernel, (by omega), hX, fun c hc Y bY hY => ?_⟩
    have l1 : (⟨#[c]⟩ : Str).length = 1 := rfl
    refine ⟨z, ⟨#[c]⟩, rfl, rfl, Nat.le_trans (show z.length + (⟨#[c]⟩ : Str).length ≤ 100 by omega) (by decide), _, _, rfl, by rw [add_len, lz, l1], fun c2 hc2 => ?_, bX.trans bY, hY.more (by omega)⟩
    rw [add_tl] at hc2
    rcases List.mem_append.mp hc2 with h | h
    · exact az c2 h
    · rw [List.mem_singleton.mp h]
      exact hc
  · rintro σ X ⟨z, y2, rfl, lz, az, bX, hX⟩
    exact ⟨_, rfl, q z X ⟨by omega, by omega, az⟩ bX (hX.more (by omega))⟩
end
end Kf
set_option Elab.async false
set_option linter.all false
set_option maxRecDepth 100000
set_option maxHeartbeats 4000000
set_option pp.maxSteps 1200
/-! Things of any form that stand beside the feed and a table; how great they are. -/
namespace Kf
open PySem PySem.Spec PyProof.Rows L2 Sx
abbrev NmOk (z : Str) : Prop := z.cps.all (· < 0x110000) = true
/-- the heap without some places -/
def del (H : Hp) (S : List Addr) : Hp := fun c => if c ∈ S then none else H c
theorem del_ne {H : Hp} {S : List Addr} {c : Addr} (n : c ∉ S) : del H S c = H c := if_neg n
theorem del_same {H : Hp} {S : List Addr} : Same (del H S) H := fun c o e => by
  unfold del at e
  split at e
  · cases e
  · exact e
theorem del_less {H : Hp} {S T : List Addr} (h : ∀ a ∈ T, a ∈ S) : Same (del H S) (del H T) := fun c o e => by
  unfold del at e
  split at e
  · cases e
  · rename_i n
    rw [del_ne fun z => n (h c z)]
    exact e
theorem del_but {H H' : Hp} {p : Addr} {S : List Addr} (pS : p ∈ S) (b : But p H H') : Same (del H S) (del H' S) := fun c o e => by
  by_cases n : c ∈ S
  · rw [show del H S c = none from if_pos n] at e
    cases e
  · rw [del_ne n] at e ⊢
    exact b _ _ (fun z => n (by rw [z]; exact pS)) e
/-- these places are lists, or tables -/
def LS (H : Hp) (S : List Addr) : Prop := ∀ a ∈ S, (∃ xs, H a = some (.lst xs)) ∨ ∃ ps, H a = some (.tbl ps)
theorem LS.but {H H' : Hp} {f L : Addr} {m : Int} {S : List Addr} (h : LS H S) (b : But f H H') (hF : DiceAt H' f L m) : LS H' S := fun a ha => by
  by_cases e : a = f
  · obtain ⟨x, n, r, cs, e2, _⟩ := hF
    rw [e]
    exact .inl ⟨_, e2⟩
  · rcases h a ha with ⟨xs, e2⟩ | ⟨xs, e2⟩
    · exact .inl ⟨xs, b _ _ e e2⟩
    · exact .inr ⟨xs, b _ _ e e2⟩
theorem LS.same {H H' : Hp} {S : List Addr} (h : LS H S) (b : Same H H') : LS H' S := fun a ha => by
  rcases h a ha with ⟨xs, e⟩ | ⟨xs, e⟩
  · exact .inl ⟨xs, b _ _ e⟩
  · exact .inr ⟨xs, b _ _ e⟩
theorem LS.nin {H : Hp} {S : List Addr} {q : Addr} (h : LS H S) (e : H q = none) : q ∉ S := fun z => by
  rcases h q z with ⟨xs, e2⟩ | ⟨xs, e2⟩ <;> (rw [e] at e2; cases e2)
theorem LS.nil {H : Hp} : LS H [] := fun a ha => (List.not_mem_nil ha).elim
section
variable {K : PySem.W.Frag} {H H' : Hp} {p : Addr} {S : List Addr}
/-- data in the heap, but for these places -/
def Df (K : PySem.W.Frag) (S : List Addr) (H : Hp) (v : V) (d : PyData) : Prop := Dp K (del H S) v d
theorem Df.dp {v : V} {d : PyData} (h : Df K S H v d) : Dp K H v d := dp_up del_same _ _ h
theorem Df.less {T : List Addr} {v : V} {d : PyData} (h : Df K S H v d) (l : ∀ a ∈ T, a ∈ S) : Df K T H v d := dp_up (del_less l) _ _ h
theorem Df.but {v : V} {d : PyData} (pS : p ∈ S) (b : But p H H') (h : Df K S H v d) : Df K S H' v d := dp_up (del_but pS b) _ _ h
theorem del_up (b : Same H H') : Same (del H S) (del H' S) := fun c o e => by
  by_cases n : c ∈ S
  · rw [show del H S c = none from if_pos n] at e
    cases e
  · rw [del_ne n] at e ⊢
    exact b _ _ e
theorem Df.same {v : V} {d : PyData} (b : Same H H') (h : Df K S H v d) : Df K S H' v d := dp_up (del_up b) _ _ h
theorem sqT_del {a : Addr} {xs : List V} (hL : LS H S) (h : SqT K H a xs) : SqT K (del H S) a xs := by
  rcases h with (h | ⟨o, h⟩) | h
  · have ne : a ∉ S := fun z => by
      rcases hL a z with ⟨ys, e⟩ | ⟨ys, e⟩ <;> (rw [e] at h; cases h)
    exact .inl (.inl (by rw [del_ne ne]; exact h))
  · have ne : a ∉ S := fun z => by
      rcases hL a z with ⟨ys, e⟩ | ⟨ys, e⟩ <;> (rw [e] at h; cases h)
    exact .inl (.inr ⟨o, by rw [del_ne ne]; exact h⟩)
  · exact .inr h
def DfAll (K : PySem.W.Frag) (S : List Addr) (H : Hp) (vs : List V) (ds : List PyData) : Prop := DpAll K (del H S) vs ds
theorem df_tup {a : Addr} {xs : List V} {ds : List PyData} (hL : LS H S) (h : SqT K H a xs) (g : DfAll K S H xs ds) : Df K S H (.ref a) (.tuple ds) := .tup (sqT_del hL h) g
theorem df_lst {a : Addr} {xs : List V} {ds : List PyData} (n : a ∉ S) (h : H a = some (.lst xs)) (g : DfAll K S H xs ds) : Df K S H (.ref a) (.list ds) := .lst (.inl (.inl (by rw [del_ne n]; exact h))) g
theorem DfAll.but {vs : List V} {ds : List PyData} (pS : p ∈ S) (b : But p H H') (h : DfAll K S H vs ds) : DfAll K S H' vs ds := dps_up (del_but pS b) _ _ h
theorem DfAll.same {vs : List V} {ds : List PyData} (b : Same H H') (h : DfAll K S H vs ds) : DfAll K S H' vs ds := dps_up (del_up b) _ _ h
theorem DfAll.dp {vs : List V} {ds : List PyData} (h : DfAll K S H vs ds) : DpAll K H vs ds := dps_up del_same _ _ h
theorem dps_app : ∀ {vs ws : List V} {ds es : List PyData}, DpAll K H vs ds → DpAll K H ws es → DpAll K H (vs ++ ws) (ds ++ es)
  | _, _, _, _, .nil, h => h
  | _, _, _, _, .cons a b, h => .cons a (dps_app b h)
theorem dps_take : ∀ (k : Nat) {vs : List V} {ds : List PyData}, DpAll K H vs ds → DpAll K H (vs.take k) (ds.take k)
  | 0, _, _, _ => .nil
  | k + 1, _, _, .nil => .nil
  | k + 1, _, _, .cons a b => .cons a (dps_take k b)
theorem dps_drop : ∀ (k : Nat) {vs : List V} {ds : List PyData}, DpAll K H vs ds → DpAll K H (vs.drop k) (ds.drop k)
  | 0, _, _, h => h
  | k + 1, _, _, .nil => .nil
  | k + 1, _, _, .cons a b => dps_drop k b
theorem dps_get : ∀ {vs : List V} {ds : List PyData} {i : Nat} {v : V}, DpAll K H vs ds → vs[i]? = some v → ∃ d, ds[i]? = some d ∧ Dp K H v d
  | _, _, _, _, .nil, h => by simp at h
  | _, _, 0, _, .cons a _, h => ⟨_, rfl, (Option.some.inj h) ▸ a⟩
  | _, _, i + 1, _, .cons _ t, h => dps_get (i := i) t (by simpa using h)
theorem dps_mem {vs : List V} {ds : List PyData} {v : V} (h : DpAll K H vs ds) (m : v ∈ vs) : ∃ d, d ∈ ds ∧ Dp K H v d := by
  obtain ⟨i, lt, e⟩ := List.getElem_of_mem m
  obtain ⟨d, e2, h2⟩ := dps_get h (by rw [List.getElem?_eq_getElem lt, e])
  exact ⟨d, List.mem_of_getElem? e2, h2⟩
end
/-! ### how great -/
mutual
def ats : PyData → Bool
  | .tuple ds => atss ds
  | .list ds => atss ds
  | .none => true
  | .bool _ => true
  | .int i => decide (i.natAbs < 10 ^ 62)
  | .str z => z.cps.all (· < 0x110000) && decide (z.length ≤ 10)
  | .dict _ => false
def atss : List PyData → Bool
  | [] => true
  | d :: ds => ats d && atss ds
end
mutual
def psz : PyData → Nat
  | .tuple ds => 1 + pszs ds
  | .list ds => 1 + pszs ds
  | .none => 1
  | .bool _ => 1
  | .int _ => 1
  | .str _ => 1
  | .dict _ => 1
def pszs : List PyData → Nat
  | [] => 0
  | d :: ds => psz d + pszs ds
end
theorem psz_pos : ∀ d, 1 ≤ psz d
  | .tuple ds => Nat.le_add_right _ _
  | .list ds => Nat.le_add_right _ _
  | .none => Nat.le_refl _
  | .bool _ => Nat.le_refl _
  | .int _ => Nat.le_refl _
  | .str _ => Nat.le_refl _
  | .dict _ => Nat.le_refl _
theorem pszs_app : ∀ xs ys : List PyData, pszs (xs ++ ys) = pszs xs + pszs ys
  | [], ys => (Nat.zero_add _).symm
  | x :: xs, ys => by
    have z := pszs_app xs ys
    show psz x + pszs (xs ++ ys) = psz x + pszs xs + pszs ys
    omega
theorem atss_app : ∀ xs ys : List PyData, atss (xs ++ ys) = (atss xs && atss ys)
  | [], ys => rfl
  | x :: xs, ys => by
    have z := atss_app xs ys
    show (ats x && atss (xs ++ ys)) = (ats x && atss xs && atss ys)
    rw [z, Bool.and_assoc]
theorem atss_mem : ∀ {ds : List PyData} {d : PyData}, atss ds = true → d ∈ ds → ats d = true
  | x :: xs, d, h, m => by
    have h2 : (ats x && atss xs) = true := h
    rw [Bool.and_eq_true] at h2
    rcases List.mem_cons.mp m with rfl | m
    · exact h2.1
    · exact atss_mem h2.2 m
theorem atss_of : ∀ {ds : List PyData}, (∀ d ∈ ds, ats d = true) → atss ds = true
  | [], _ => rfl
  | x :: xs, h => by
    show (ats x && atss xs) = true
    rw [h x List.mem_cons_self, atss_of fun d m => h d (List.mem_cons_of_mem _ m)]
    rfl
theorem pszs_mem : ∀ {ds : List PyData} {d : PyData}, d ∈ ds → psz d ≤ pszs ds
  | x :: xs, d, m => by
    show psz d ≤ psz x + pszs xs
    rcases List.mem_cons.mp m with rfl | m
    · exact Nat.le_add_right _ _
    · exact Nat.le_trans (pszs_mem m) (Nat.le_add_left _ _)
theorem dep_mem : ∀ {ds : List PyData} {d : PyData}, d ∈ ds → d.depth ≤ PyData.depthAll ds
  | x :: xs, d, m => by
    show d.depth ≤ max x.depth (PyData.depthAll xs)
    rcases List.mem_cons.mp m with rfl | m
    · exact Nat.le_max_left _ _
    · exact Nat.le_trans (dep_mem m) (Nat.le_max_right _ _)
theorem dep_of : ∀ {ds : List PyData} {n : Nat}, (∀ d ∈ ds, d.depth ≤ n) → PyData.depthAll ds ≤ n
  | [], n, _ => Nat.zero_le _
  | x :: xs, n, h => by
    show max x.depth (PyData.depthAll xs) ≤ n
    have a := h x List.mem_cons_self
    have b := dep_of fun d m => h d (List.mem_cons_of_mem _ m)
    omega
theorem len_pszs : ∀ ds : List PyData, ds.length ≤ pszs ds
  | [] => Nat.le_refl _
  | x :: xs => by
    have a := len_pszs xs
    have b := psz_pos x
    show xs.length + 1 ≤ psz x + pszs xs
    omega
structure Fit (d : PyData) (m : Nat) : Prop where
  lay : d.canLay0 = true
  show_ : d.showable = true
  dict : d.hasDict = false
  len : d.shown.length ≤ m
theorem fit_int {i : Int} (h : i.natAbs < 10 ^ 62) : Fit (.int i) 127 := by
  refine ⟨rfl, decide_eq_true ?_, rfl, ?_⟩
  · by_cases z : i.natAbs = 0
    · rw [z]
      decide
    · refine (Nat.log2_lt z).2 ?_
      exact Nat.lt_of_lt_of_le h (Nat.le_trans (show 10 ^ 62 ≤ 2 ^ 208 by decide) (Nat.pow_le_pow_right (by decide) (by decide)))
  · have e := int_text_length_le10 (k := 62) (by decide) h
    show (Str.ofString (toString i)).length ≤ 127
    rw [PySem.ofString_length]
    exact Nat.le_trans e (by decide)
theorem fit_str {z : Str} (h1 : NmOk z) (h2 : z.length ≤ 10) : Fit (.str z) 127 := by
  refine ⟨h1, rfl, rfl, ?_⟩
  have all : ∀ c ∈ z.cps.toList, c < 16 ^ 8 := fun c hc => by
    have q := (Array.all_eq_true_iff_forall_mem.mp h1) c (Array.mem_toList_iff.mp hc)
    have q2 : c < 0x110000 := by simpa using q
    exact Nat.lt_of_lt_of_le q2 (by decide)
  have y := StrLaws.reprText_len z all
  have e : (PyData.shown (.str z)).length = (reprText z).length := rfl
  rw [e]
  omega
mutual
theorem fit : ∀ d : PyData, ats d = true → Fit d (130 * psz d - 3)
  | .none, _ => ⟨rfl, rfl, rfl, by decide +kernel⟩
  | .bool b, _ => ⟨rfl, rfl, rfl, by cases b <;> decide +kernel⟩
  | .int i, h => fit_int (of_decide_eq_true h)
  | .str z, h => by
    have h2 : (z.cps.all (· < 0x110000) && decide (z.length ≤ 10)) = true := h
    rw [Bool.and_eq_true] at h2
    exact fit_str h2.1 (of_decide_eq_true h2.2)
  | .dict _, h => (Bool.false_ne_true h).elim
  | .tuple ds, h => by
    obtain ⟨a1, a2, a3, a4, a5⟩ := fits ds h
    have l2 := tupleText_len_le (PyData.shownAll ds)
    have e : psz (.tuple ds) = 1 + pszs ds := rfl
    refine ⟨a1, a2, a3, ?_⟩
    show (tupleText (PyData.shownAll ds)).length ≤ _
    omega
  | .list ds, h => by
    obtain ⟨a1, a2, a3, a4, a5⟩ := fits ds h
    have l1 := listText_len_le (PyData.shownAll ds)
    have e : psz (.list ds) = 1 + pszs ds := rfl
    refine ⟨a1, a2, a3, ?_⟩
    show (listText (PyData.shownAll ds)).length ≤ _
    omega
theorem fits : ∀ ds : List PyData, atss ds = true → PyData.canLayAll0 ds = true ∧ PyData.showableAll ds = true ∧ PyData.hasDictAll ds = false ∧ ((PyData.shownAll ds).map (·.length)).sum + 3 * ds.length ≤ 130 * pszs ds ∧ (PyData.shownAll ds).length = ds.length
  | [], _ => ⟨rfl, rfl, rfl, Nat.le_refl _, rfl⟩
  | d :: ds, h => by
    have h2 : (ats d && atss ds) = true := h
    rw [Bool.and_eq_true] at h2
    obtain ⟨b1, b2, b3, b4⟩ := fit d h2.1
    obtain ⟨a1, a2, a3, a4, a5⟩ := fits ds h2.2
    have p := psz_pos d
    refine ⟨?_, ?_, ?_, ?_, ?_⟩
    · show (d.canLay0 && PyData.canLayAll0 ds) = true
      rw [b1, a1]
      rfl
    · show (d.showable && PyData.showableAll ds) = true
      rw [b2, a2]
      rfl
    · show (d.hasDict || PyData.hasDictAll ds) = false
      rw [b3, a3]
      rfl
    · show d.shown.length + ((PyData.shownAll ds).map (·.length)).sum + 3 * (ds.length + 1) ≤ 130 * (psz d + pszs ds)
      omega
    · show (PyData.shownAll ds).length + 1 = ds.length + 1
      rw [a5]
end
/-- a thing: its atoms, how deep, how many parts at most -/
structure Th (n m : Nat) (d : PyData) : Prop where
  ats : ats d = true
  deep : d.depth ≤ n
  sz : psz d ≤ m
theorem Th.mono {n m n2 m2 : Nat} {d : PyData} (h : Th n m d) (a : n ≤ n2) (b : m ≤ m2) : Th n2 m2 d := ⟨h.ats, Nat.le_trans h.deep a, Nat.le_trans h.sz b⟩
theorem Th.line {n m : Nat} {d : PyData} (h : Th n m d) (b : m ≤ 4000) : d.shown.length ≤ sizeLine := by
  have a := (fit d h.ats).len
  have c := h.sz
  exact Nat.le_trans (m := 520000) (by omega) (by decide)
theorem dep_tup (ds : List PyData) : (PyData.tuple ds).depth = PyData.depthAll ds + 1 := rfl
theorem dep_lst (ds : List PyData) : (PyData.list ds).depth = PyData.depthAll ds + 1 := rfl
theorem psz_tup (ds : List PyData) : psz (.tuple ds) = 1 + pszs ds := rfl
theorem psz_lst (ds : List PyData) : psz (.list ds) = 1 + pszs ds := rfl
end Kf
set_option Elab.async false
set_option linter.all false
set_option maxRecDepth 100000
set_option maxHeartbeats 8000000
set_option pp.maxSteps 600
/-! The trees that the law draws. -/
namespace Kf
open PySem PySem.Spec PyProof.Rows L2 Sx
abbrev sTree : Stmt := top 18
abbrev treeN : List Str := ["dice", "deep", "parts", "k", "way"]
theorem scTree : FnScope treeN ["dice", "deep"] (defScope sTree) := ⟨rfl, rfl, rfl, by decide +kernel, rfl, by decide +kernel, by decide +kernel⟩
/-- a word's text, as a test -/
def wordB (z : Str) : Bool := (decide (1 ≤ z.length) && decide (z.length ≤ 8)) && z.cps.toList.all fun c => abc.cps.toList.contains c
def headW : List PyData → Bool
  | .str _ :: _ => true
  | _ => false
mutual
/-- a tree, or a part of one -/
def tw : PyData → Bool
  | .tuple ds => headW ds && tws ds
  | .str z => wordB z
  | .int i => decide (0 ≤ i) && decide (i < 10 ^ 60)
  | .list _ => false
  | .none => false
  | .bool _ => false
  | .dict _ => false
def tws : List PyData → Bool
  | [] => true
  | d :: ds => tw d && tws ds
end
theorem tws_app : ∀ xs ys : List PyData, tws (xs ++ ys) = (tws xs && tws ys)
  | [], ys => rfl
  | x :: xs, ys => by
    have z := tws_app xs ys
    show (tw x && tws (xs ++ ys)) = (tw x && tws xs && tws ys)
    rw [z, Bool.and_assoc]
theorem headW_app : ∀ {xs ys : List PyData}, headW xs = true → headW (xs ++ ys) = true
  | [], ys, h => (Bool.false_ne_true h).elim
  | .str _ :: _, ys, _ => rfl
  | .int _ :: _, ys, h => (Bool.false_ne_true h).elim
  | .tuple _ :: _, ys, h => (Bool.false_ne_true h).elim
  | .list _ :: _, ys, h => (Bool.false_ne_true h).elim
  | .none :: _, ys, h => (Bool.false_ne_true h).elim
  | .bool _ :: _, ys, h => (Bool.false_ne_true h).elim
  | .dict _ :: _, ys, h => (Bool.false_ne_true h).elim
theorem wordB_of {z : Str} (h : WordZ z) : wordB z = true := by
  obtain ⟨a, b, c⟩ := h
  unfold wordB
  rw [decide_eq_true a, decide_eq_true b, Bool.true_and, Bool.true_and, List.all_eq_true]
  intro x hx
  exact List.contains_iff_mem.mpr (c x hx)
theorem abc_small : ∀ c ∈ abc.cps.toList, c < 0x110000 := by decide +kernel
theorem word_ats {z : Str} (h : WordZ z) : ats (.str z) = true := by
  obtain ⟨a, b, c⟩ := h
  have n : z.cps.all (· < 0x110000) = true := by
    rw [Array.all_eq_true']
    intro x hx
    exact decide_eq_true (abc_small x (c x (Array.mem_toList_iff.mpr hx)))
  show (z.cps.all (· < 0x110000) && decide (z.length ≤ 10)) = true
  rw [n, decide_eq_true (show z.length ≤ 10 by omega)]
  rfl
def cost (d : Nat) : Int := 100 * 4 ^ d
def zz (d : Nat) : Nat := 6 * 4 ^ d
def pre : Nat → Int
  | 0 => 0
  | e + 1 => cost e
def zp : Nat → Nat
  | 0 => 1
  | e + 1 => zz e
theorem four_pos : ∀ d : Nat, (1 : Int) ≤ 4 ^ d
  | 0 => by decide
  | d + 1 => by
    rw [Int.pow_succ]
    have := four_pos d
    omega
theorem cost_pre (d : Nat) : 11 + 3 * (11 + pre d) ≤ cost d ∧ 0 ≤ pre d := by
  cases d with
  | zero => exact ⟨by decide, by decide⟩
  | succ e =>
    have z := four_pos e
    have e1 : cost (e + 1) = 4 * (100 * 4 ^ e) := by
      unfold cost
      rw [Int.pow_succ]
      omega
    have e2 : pre (e + 1) = 100 * 4 ^ e := rfl
    rw [e1, e2]
    omega
theorem zz_zp (d : Nat) : 2 + 3 * zp d ≤ zz d ∧ 1 ≤ zp d := by
  cases d with
  | zero => exact ⟨by decide, by decide⟩
  | succ e =>
    have z : 1 ≤ 4 ^ e := Nat.one_le_pow _ _ (by decide)
    have e1 : zz (e + 1) = 4 * (6 * 4 ^ e) := by
      unfold zz
      rw [Nat.pow_succ]
      omega
    have e2 : zp (e + 1) = 6 * 4 ^ e := rfl
    rw [e1, e2]
    omega
theorem DiceAt.neL {H : Hp} {p L q : Addr} {m : Int} (h : DiceAt H p L m) (e : H q = none) : q ≠ L := fun z => by
  obtain ⟨x, n, r, cs, _, _, e2, _⟩ := h
  rw [z, e2] at e
  cases e
theorem DiceAt.put {H : Hp} {p L D : Addr} {m : Int} {o : HO} (h : DiceAt H p L m) (n1 : D ≠ p) (n2 : D ≠ L) : DiceAt (upd H D o) p L m := by
  obtain ⟨x, n, r, cs, e, nl, e2, q⟩ := h
  exact ⟨x, n, r, cs, by rw [upd_ne n1.symm]; exact e, nl, by rw [upd_ne n2.symm]; exact e2, q⟩
theorem joinS {C G : L2.St → Hp → Prop} {M : Prop} (main : (∀ σ H, C σ H → G σ H) → M) (rest : ∀ σ H, C σ H → G σ H) : M := main rest
theorem no_calls {P : Program} {w : World} {K : PySem.W.Frag} {mg : Str → Option Value} {base : Heap} {f : Addr} {fd : FuncData} {k : Nat} {ps : List Str} {sp : Sp} (no : ∀ vs H Q E, ¬ sp vs H Q E) : FnOk P w K mg base CX0 k f fd ps sp :=
  ⟨fun vs H Q E h => absurd h (no vs H Q E), fun A outer s H args us vs Q E _ _ _ _ h => absurd h (no vs H Q E)⟩
section
variable {P : Program} {w : World} {K : PySem.W.Frag} {mg : Str → Option Value} {base : Heap}
def spTree (K : PySem.W.Frag) (n : Nat) : Sp := fun vs H Q _ => ∃ (p L : Addr) (S : List Addr) (d : Nat) (m : Int), vs = [.ref p, .int (d : Int)] ∧ p ∈ S ∧ LS H S ∧ d + 1 ≤ n ∧ m + cost d < 2 ^ 44 ∧ DiceAt H p L m ∧
  ∀ v ds H', Df K S H' v (.tuple ds) → tw (.tuple ds) = true → Th (d + 1) (zz d) (.tuple ds) → But p H H' → DiceAt H' p L (m + cost d) → Q v H'
theorem ok_tree {f fr fp fw : Addr} {fd dr dp dw : FuncData} {n : Nat} (F : Fun K "_law_tree" "_law_tree" sTree f fd) (D : Draw P w K mg base fr fp dr dp) (W : FnOk P w K mg base CX0 3 fw dw ["dice"] spWord) (bW : Binds K dw ["dice"] []) (kW : PySem.W.keepIn K (.ref fw) = true) (mW : mg "_law_word" = some (.ref fw)) (zRange : mg "range" = none) (zTuple : mg "tuple" = none)
    (Sf : FnOk P w K mg base CX0 (3 + n) f fd ["dice", "deep"] (spTree K n)) (bS : Binds K fd ["dice", "deep"] []) (mS : mg "_law_tree" = some (.ref f)) : FnOk P w K mg base CX0 (3 + n + 1) f fd ["dice", "deep"] (spTree K (n + 1)) := by
  refine F.ok scTree (fun vs H Q E h => ?_) (fun cdv A outer s H vs Q E hr h => ?_)
  · obtain ⟨p, L, S, d, m, rfl, _⟩ := h
    rfl
  obtain ⟨p, L, S, d, m, rfl, pS, lS, dn, mc, hD, q⟩ := h
  have h1 : Room 1 _ := hr.mono (by omega)
  have h2 : Room 2 _ := hr.mono (by omega)
  have h3 : Room 3 _ := hr.mono (by omega)
  refine ⟨_, (pss_cons (ps_set (i := 2) scTree.nd rfl (.inl rfl) (pe_lst (pa_cons (pe_call W h3 (by rfl) mW kW bW .nil pass0 (pa_cons (pv 0) pa_nil)) pa_nil)))
    (pss_cons (ps_for PassesOwn.never rfl (pi_range1 (by rfl) zRange (pa_cons (pe_call D.R h1 (by rfl) D.mR D.kR D.bR .nil pass0 (pa_cons (pv 0) (pa_cons pe_int pa_nil))) pa_nil)) (pg_name (i := 3) scTree.nd rfl (.inl rfl)) (pss_cons (ps_set (i := 4) scTree.nd rfl (.inl rfl) (pe_call D.R h1 (by rfl) D.mR D.kR D.bR .nil pass0 (pa_cons (pv 0) (pa_cons pe_int pa_nil))))
    (pss_one (ps_if (pt_cmpR op_eq (pv 4) pe_int (nomark _)) (pss_one (ps_expr (pe_bm PySem.F.plainAttrs_list PySem.F.slot_list_append PySem.F.type_list_append mt_append (pv 2) (pa_cons (pe_call W h3 (by rfl) mW kW bW .nil pass0 (pa_cons (pv 0) pa_nil)) pa_nil)))) (pss_one (ps_if (pt_cmpR op_eq (pv 4) pe_int (nomark _)) (pss_one (ps_expr (pe_bm PySem.F.plainAttrs_list PySem.F.slot_list_append PySem.F.type_list_append mt_append (pv 2) (pa_cons (pe_call D.Pk h2 (by rfl) D.mP D.kP D.bP .nil pass0 (pa_cons (pv 0) (pa_cons (pe_lst (pa_cons pe_int (pa_cons pe_int (pa_cons pe_int (pa_cons (pe_call D.R h1 (by rfl) D.mR D.kR D.bR .nil pass0 (pa_cons (pv 0) (pa_cons (pe_op op_pow pe_int pe_int) pa_nil))) (pa_cons (pe_op op_sub (pe_op op_pow pe_int pe_int) pe_int) (pa_cons (pe_op op_pow pe_int pe_int) pa_nil))))))) pa_nil))) pa_nil)))) (pss_one (ps_if (pt_cmpR op_gt (pv 1) pe_int (nomark _)) (pss_one (ps_expr (pe_bm PySem.F.plainAttrs_list PySem.F.slot_list_append PySem.F.type_list_append mt_append (pv 2) (pa_cons (pe_call Sf hr (by rfl) mS F.kp bS .nil pass0 (pa_cons (pv 0) (pa_cons (pe_op op_sub (pv 1) pe_int) pa_nil))) pa_nil)))) pss_nil))))))))
    (pss_one (ps_ret (pe_tupleOf (by rfl) zTuple (pv 2)))))), ?_⟩
  obtain ⟨c1, c2⟩ := cost_pre d
  obtain ⟨z1, z2_⟩ := zz_zp d
  refine ⟨_, rfl, p, L, m, rfl, by omega, hD, fun z H1 hz b1 hD1 => ⟨(by show 1 ≤ sizeLine; decide), fun l nl => ?_⟩⟩
  have s2 := same_new (o := .lst [.str z]) nl
  have e2 : upd H1 l (.lst [.str z]) l = _ := upd_same
  have hD2 := hD1.same s2
  have nlp := hD1.ne nl
  have nlL := hD1.neL nl
  have b2 : But p H (upd H1 l (.lst [.str z])) := b1.trans (but_same s2)
  generalize upd H1 l (.lst [.str z]) = H2 at s2 e2 hD2 b2
  have away : ∀ b o, b ≠ p → H b = some o → b ≠ l := fun b o n e => ne_of_none (b1 _ _ n e) nl
  have pS2 : p ∈ l :: S := List.mem_cons_of_mem _ pS
  have lS2 : l ∈ l :: S := List.mem_cons_self
  have ls : ∀ {X : Hp} {k : Int} {xs : List V}, But p H X → DiceAt X p L k → X l = some (.lst xs) → LS X (l :: S) := fun {X k xs} b hX e a ha => by
    rcases List.mem_cons.mp ha with rfl | ha
    · exact .inl ⟨_, e⟩
    · exact lS.but b hX a ha
  refine ⟨_, rfl, p, L, 4, m + 10, rfl, by decide, by decide, by omega, hD2, fun r H3 r0 r4 b3 hD3 => ?_⟩
  refine ⟨_, rfl, lo62 r0, hi62 (by omega), ?_⟩
  refine for_range (lo := 0) (n := r.toNat) (fun i σ X => ∃ (xs : List V) (ds : List PyData) (y3 y4 : Option V), σ = [some (.ref p), some (.int (d : Int)), some (.ref l), y3, y4] ∧ X l = some (.lst xs) ∧ DfAll K (l :: S) X xs ds ∧ tws ds = true ∧ headW ds = true ∧ atss ds = true ∧ PyData.depthAll ds ≤ d ∧ pszs ds ≤ 1 + i * zp d ∧ xs.length ≤ 1 + i ∧ But p H X ∧ DiceAt X p L (m + 11 + (i : Int) * (11 + pre d)))
    ⟨[.str z], [.str z], none, none, rfl, b3 _ _ nlp e2, .cons (.str _) .nil, (by show (wordB z && true) = true; rw [wordB_of hz]; rfl), rfl, (by show (ats (.str z) && true) = true; rw [word_ats hz]; rfl), Nat.zero_le _, (by show 1 + 0 ≤ 1 + 0 * zp d; omega), Nat.le_refl 1, b2.trans b3, hD3.more (by omega)⟩ ?_ ?_
  · rintro i σ X hi ⟨xs, ds, y3, y4, rfl, el, hds, t1, t2, t3, t4, t5, t6, bX, hX⟩
    have i3 : i ≤ 2 := by omega
    have grow : (i : Int) * (11 + pre d) ≤ 2 * (11 + pre d) := Int.mul_le_mul_of_nonneg_right (by omega) (by omega)
    have step : ((i + 1 : Nat) : Int) * (11 + pre d) = (i : Int) * (11 + pre d) + (11 + pre d) := by
      rw [Int.natCast_add, Int.add_mul]
      omega
    have stepN : (i + 1) * zp d = i * zp d + zp d := Nat.succ_mul _ _
    refine ⟨_, rfl, p, L, 4, _, rfl, by decide, by decide, by omega, hX, fun way Y0 _ _ bY0 hY0 => ?_⟩
    have elY := bY0 _ _ nlp el
    have hdsY : DfAll K (l :: S) Y0 xs ds := hds.but pS2 bY0
    have fin : ∀ (x : V) (dx : PyData) (Z : Hp) (y : Option V), Df K (l :: S) Z x dx → tw dx = true → ats dx = true → dx.depth ≤ d → psz dx ≤ zp d → But p Y0 Z → DiceAt Z p L (m + 11 + (i : Int) * (11 + pre d) + (11 + pre d)) →
        ∃ (xs' : List V) (ds' : List PyData) (y3' y4' : Option V), [some (.ref p), some (.int (d : Int)), some (.ref l), some (.int (0 + (i : Int))), y] = [some (.ref p), some (.int (d : Int)), some (.ref l), y3', y4'] ∧ upd Z l (.lst (xs ++ [x])) l = some (.lst xs') ∧ DfAll K (l :: S) (upd Z l (.lst (xs ++ [x]))) xs' ds' ∧ tws ds' = true ∧ headW ds' = true ∧ atss ds' = true ∧ PyData.depthAll ds' ≤ d ∧ pszs ds' ≤ 1 + (i + 1) * zp d ∧ xs'.length ≤ 1 + (i + 1) ∧ But p H (upd Z l (.lst (xs ++ [x]))) ∧ DiceAt (upd Z l (.lst (xs ++ [x]))) p L (m + 11 + ((i + 1 : Nat) : Int) * (11 + pre d)) := fun x dx Z y hx w1 w2 w3 w4 bZ hZ => by
      have bl : But l Z (upd Z l (.lst (xs ++ [x]))) := (But.refl l Z).own
      refine ⟨xs ++ [x], ds ++ [dx], _, _, rfl, upd_same, dps_app ((hdsY.but pS2 bZ).but lS2 bl) (.cons (hx.but lS2 bl) .nil), ?_, headW_app t2, ?_, ?_, ?_, by rw [List.length_append]; show xs.length + 1 ≤ 1 + (i + 1); omega, fun b o n e => ?_, ?_⟩
      · rw [tws_app, t1]
        show (true && (tw dx && true)) = true
        rw [w1]
        rfl
      · rw [atss_app, t3]
        show (true && (ats dx && true)) = true
        rw [w2]
        rfl
      · refine dep_of fun a ha => ?_
        rcases List.mem_append.mp ha with h | h
        · exact Nat.le_trans (dep_mem h) t4
        · rw [List.mem_singleton.mp h]
          exact w3
      · rw [pszs_app, stepN]
        show pszs ds + (psz dx + 0) ≤ _
        omega
      · rw [upd_ne (away b o n e)]
        exact bZ _ _ n (bY0 _ _ n (bX _ _ n e))
      · exact (hZ.put nlp nlL).more (by omega)
    have lt : xs.length < sizeLine := Nat.lt_of_le_of_lt (show xs.length ≤ 10 by omega) (by decide)
    have same_ : ∀ y : Option V, ∃ (xs' : List V) (ds' : List PyData) (y3' y4' : Option V), [some (.ref p), some (.int (d : Int)), some (.ref l), some (.int (0 + (i : Int))), y] = [some (.ref p), some (.int (d : Int)), some (.ref l), y3', y4'] ∧ Y0 l = some (.lst xs') ∧ DfAll K (l :: S) Y0 xs' ds' ∧ tws ds' = true ∧ headW ds' = true ∧ atss ds' = true ∧ PyData.depthAll ds' ≤ d ∧ pszs ds' ≤ 1 + (i + 1) * zp d ∧ xs'.length ≤ 1 + (i + 1) ∧ But p H Y0 ∧ DiceAt Y0 p L (m + 11 + ((i + 1 : Nat) : Int) * (11 + pre d)) := fun y =>
      ⟨xs, ds, _, _, rfl, elY, hdsY, t1, t2, t3, t4, by rw [stepN]; omega, by omega, bX.trans bY0, hY0.more (by omega)⟩
    have zlt : ∀ e, d = e + 1 → pre d = cost e ∧ zp d = zz e := fun e ed => by
      subst ed
      exact ⟨rfl, rfl⟩
    refine ⟨_, rfl, rfl, _, rfl, ?_⟩
    refine ite2 (fun _ => ?_) (fun _ => ?_)
    · refine ⟨_, rfl, .inl ⟨rfl, _, .inl (.inl elY)⟩, _, rfl, p, L, _, rfl, by omega, hY0, fun z2 Z hz2 bZ hZ => ?_⟩
      exact ⟨l, xs, .str z2, rfl, rfl, bZ _ _ nlp elY, lt, fin _ (.str z2) Z _ (.str _) (wordB_of hz2) (word_ats hz2) (Nat.zero_le _) z2_ bZ (hZ.more (by omega))⟩
    refine ⟨_, rfl, rfl, _, rfl, ?_⟩
    refine ite2 (fun _ => ?_) (fun _ => ?_)
    · refine ⟨_, rfl, .inl ⟨rfl, _, .inl (.inl elY)⟩, _, rfl, _, rfl, _, _, rfl, rfl, ⟨by decide, by decide, by decide⟩, p, L, _, _, rfl, by decide, by decide +kernel, by omega, hY0, fun k1 U0 k10 k11 bU0 hU0 => ?_⟩
      refine ⟨_, _, rfl, rfl, ⟨by decide, by decide, by decide⟩, _, _, rfl, rfl, _, _, rfl, rfl, ⟨by decide, by decide, by decide⟩, (by show 6 ≤ sizeLine; decide), fun g ng => ?_⟩
      have hU1 := hU0.same (same_new (o := .lst [.int 0, .int 7, .int 10, .int k1, .int (10 ^ (60 : Int).toNat - 1), .int (10 ^ (59 : Int).toNat)]) ng)
      refine ⟨p, g, L, _, _, rfl, .inl (.inl upd_same), hU0.ne ng, (by show 0 < 6; decide), (by show 6 ≤ 1000; decide), by omega, hU1, fun x mem Z bZ hZ => ?_⟩
      have nm : ∃ n : Int, x = .int n ∧ 0 ≤ n ∧ n < 10 ^ 60 := by
        have k11b : k1 < 10 ^ 59 := k11
        rcases List.mem_cons.mp mem with e | mem
        · exact ⟨0, e, by decide, by decide⟩
        rcases List.mem_cons.mp mem with e | mem
        · exact ⟨7, e, by decide, by decide⟩
        rcases List.mem_cons.mp mem with e | mem
        · exact ⟨10, e, by decide, by decide⟩
        rcases List.mem_cons.mp mem with e | mem
        · exact ⟨k1, e, k10, by omega⟩
        rcases List.mem_cons.mp mem with e | mem
        · exact ⟨_, e, by decide, by decide⟩
        · exact ⟨_, List.mem_singleton.mp mem, by decide, by decide⟩
      obtain ⟨n, rfl, n0, n1⟩ := nm
      have bb : But p Y0 Z := (bU0.trans (but_same (same_new ng))).trans bZ
      exact ⟨l, xs, .int n, rfl, rfl, bb _ _ nlp elY, lt, fin _ (.int n) Z _ (.int _) (by show (decide (0 ≤ n) && decide (n < 10 ^ 60)) = true; rw [decide_eq_true n0, decide_eq_true n1]; rfl) (decide_eq_true (by omega)) (Nat.zero_le _) z2_ bb (hZ.more (by omega))⟩
    refine ⟨_, rfl, _, _, rfl, rfl, _, rfl, ?_⟩
    refine ite2 (fun c => ?_) (fun _ => same_ _)
    have dpos : (d : Int) > 0 := of_decide_eq_true c
    obtain ⟨e, ed⟩ : ∃ e, d = e + 1 := ⟨d - 1, by omega⟩
    obtain ⟨pe_, ze_⟩ := zlt e ed
    have em : (d : Int) - 1 = (e : Int) := by omega
    refine ⟨_, rfl, .inl ⟨rfl, _, .inl (.inl elY)⟩, _, rfl, _, rfl, _, _, rfl, rfl, p, L, l :: S, e, _, (by show [V.ref p, V.int ((d : Int) - 1)] = _; rw [em]), pS2, ls (bX.trans bY0) hY0 elY, by omega, by omega, hY0, fun vt dt Z hvt wt tt bZ hZ => ?_⟩
    exact ⟨l, xs, vt, rfl, rfl, bZ _ _ nlp elY, lt, fin _ (.tuple dt) Z _ hvt wt tt.ats (by have := tt.deep; omega) (by have := tt.sz; omega) bZ (hZ.more (by omega))⟩
  · rintro σ X ⟨xs, ds, y3, y4, rfl, el, hds, t1, t2, t3, t4, t5, t6, bX, hX⟩
    refine ⟨_, rfl, .inl ⟨l, xs, rfl, .inl (.inl el), fun qa na => ?_⟩⟩
    have s9 := same_new (o := .tup xs) na
    have r3 : r.toNat ≤ 3 := by omega
    have up3 : r.toNat * zp d ≤ 3 * zp d := Nat.mul_le_mul_right _ r3
    have up3i : ((r.toNat : Nat) : Int) * (11 + pre d) ≤ 3 * (11 + pre d) := Int.mul_le_mul_of_nonneg_right (by omega) (by omega)
    have lsn : ∀ a ∈ S, a ∈ l :: S := fun a ha => List.mem_cons_of_mem _ ha
    have hds2 : DfAll K S X xs ds := dps_up (del_less lsn) _ _ hds
    refine q _ ds _ (df_tup ((lS.but bX hX).same s9) (.inl (.inl upd_same)) (hds2.same s9)) (by show (headW ds && tws ds) = true; rw [t1, t2]; rfl) ⟨t3, by show PyData.depthAll ds + 1 ≤ d + 1; omega, by show 1 + pszs ds ≤ zz d; omega⟩ (bX.new na) ((hX.same s9).more (by omega))
theorem ok_trees {f fr fp fw : Addr} {fd dr dp dw : FuncData} (F : Fun K "_law_tree" "_law_tree" sTree f fd) (D : Draw P w K mg base fr fp dr dp) (W : FnOk P w K mg base CX0 3 fw dw ["dice"] spWord) (bW : Binds K dw ["dice"] []) (kW : PySem.W.keepIn K (.ref fw) = true) (mW : mg "_law_word" = some (.ref fw)) (zRange : mg "range" = none) (zTuple : mg "tuple" = none)
    (bS : Binds K fd ["dice", "deep"] []) (mS : mg "_law_tree" = some (.ref f)) : ∀ n : Nat, FnOk P w K mg base CX0 (3 + n) f fd ["dice", "deep"] (spTree K n)
  | 0 => no_calls fun vs H Q E h => by
    obtain ⟨p, L, S, d, m, _, _, _, dn, _⟩ := h
    omega
  | n + 1 => ok_tree F D W bW kW mW zRange zTuple (ok_trees F D W bW kW mW zRange zTuple bS mS n) bS mS
end
end Kf
set_option Elab.async false
set_option linter.all false
set_option maxRecDepth 100000
set_option maxHeartbeats 8000000
set_option pp.maxSteps 600
/-! The law's own text of a tree. -/
namespace Kf
open PySem PySem.Spec PyProof.Rows L2 Sx
abbrev sText : Stmt := top 19
abbrev textN : List Str := ["tree", "texts", "part"]
theorem scText : FnScope textN ["tree"] (defScope sText) := ⟨rfl, rfl, rfl, by decide +kernel, rfl, by decide +kernel, by decide +kernel⟩
mutual
/-- the text of a tree -/
def txt : PyData → Str
  | .tuple ds => "(" ++ Txt.join " " (txts ds) ++ ")"
  | .str z => z
  | .int i => Str.ofString (toString i)
  | .list _ => ""
  | .none => ""
  | .bool _ => ""
  | .dict _ => ""
def txts : List PyData → List Str
  | [] => []
  | d :: ds => txt d :: txts ds
end
theorem txts_app : ∀ xs ys : List PyData, txts (xs ++ ys) = txts xs ++ txts ys
  | [], ys => rfl
  | x :: xs, ys => congrArg (txt x :: ·) (txts_app xs ys)
theorem txts_len : ∀ xs : List PyData, (txts xs).length = xs.length
  | [] => rfl
  | x :: xs => congrArg Nat.succ (txts_len xs)
theorem joinL_len2 {s : List Nat} : ∀ ps : List (List Nat), (TL.joinL s ps).length ≤ (ps.map List.length).sum + ps.length * s.length
  | [] => Nat.zero_le _
  | [p] => by
    show p.length ≤ p.length + 0 + 1 * s.length
    omega
  | p :: q :: r => by
    have z := joinL_len2 (s := s) (q :: r)
    show (p ++ (s ++ TL.joinL s (q :: r))).length ≤ _
    rw [List.length_append, List.length_append, List.map_cons, List.sum_cons, List.length_cons (a := p), Nat.succ_mul]
    omega
theorem join_len2 {a : Str} {ys : List Str} : (Txt.join a ys).length ≤ (ys.map (·.length)).sum + ys.length * a.length := by
  have e : (Txt.join a ys).length = (TL.tl (Txt.join a ys)).length := Array.length_toList.symm
  have e2 := TL.tl_join a ys
  rw [← TL.join_eq] at e2
  rw [e, e2]
  have z := joinL_len2 (s := TL.tl a) (ys.map TL.tl)
  have e3 : ((ys.map TL.tl).map List.length) = ys.map (·.length) := by
    rw [List.map_map]
    exact List.map_congr_left fun y _ => Array.length_toList
  rw [e3, List.length_map] at z
  have e4 : (TL.tl a).length = a.length := Array.length_toList
  rw [e4] at z
  exact z
theorem int_len {i : Int} (h0 : 0 ≤ i) (h : i < 10 ^ 60) : (Str.ofString (toString i)).length ≤ 61 := by
  have e := int_text_length_le10 (k := 60) (a := i) (by decide) (by omega)
  rw [PySem.ofString_length]
  exact Nat.le_trans e (by decide)
mutual
theorem txt_len : ∀ d : PyData, tw d = true → (txt d).length + 1 ≤ 70 * psz d
  | .tuple ds, h => by
    have h2 : (headW ds && tws ds) = true := h
    rw [Bool.and_eq_true] at h2
    have z := txts_sum ds h2.2
    have j := join_len2 (a := " ") (ys := txts ds)
    have e1 : (" " : Str).length = 1 := by decide +kernel
    rw [e1, Nat.mul_one] at j
    show ("(" ++ Txt.join " " (txts ds) ++ ")").length + 1 ≤ 70 * (1 + pszs ds)
    rw [add_len, add_len]
    have e2 : ("(" : Str).length = 1 := by decide +kernel
    have e3 : (")" : Str).length = 1 := by decide +kernel
    omega
  | .str z, h => by
    have h2 : ((decide (1 ≤ z.length) && decide (z.length ≤ 8)) && z.cps.toList.all fun c => abc.cps.toList.contains c) = true := h
    rw [Bool.and_eq_true, Bool.and_eq_true] at h2
    have a := of_decide_eq_true h2.1.2
    show z.length + 1 ≤ 70 * 1
    omega
  | .int i, h => by
    have h2 : (decide (0 ≤ i) && decide (i < 10 ^ 60)) = true := h
    rw [Bool.and_eq_true] at h2
    have a := int_len (of_decide_eq_true h2.1) (of_decide_eq_true h2.2)
    show (Str.ofString (toString i)).length + 1 ≤ 70 * 1
    omega
  | .list _, h => (Bool.false_ne_true h).elim
  | .none, h => (Bool.false_ne_true h).elim
  | .bool _, h => (Bool.false_ne_true h).elim
  | .dict _, h => (Bool.false_ne_true h).elim
theorem txts_sum : ∀ ds : List PyData, tws ds = true → ((txts ds).map (·.length)).sum + (txts ds).length ≤ 70 * pszs ds
  | [], _ => Nat.le_refl _
  | d :: ds, h => by
    have h2 : (tw d && tws ds) = true := h
    rw [Bool.and_eq_true] at h2
    have a := txt_len d h2.1
    have b := txts_sum ds h2.2
    show (txt d).length + ((txts ds).map (·.length)).sum + ((txts ds).length + 1) ≤ 70 * (psz d + pszs ds)
    omega
end
theorem tws_mem : ∀ {ds : List PyData} {d : PyData}, tws ds = true → d ∈ ds → tw d = true
  | x :: xs, d, h, m => by
    have h2 : (tw x && tws xs) = true := h
    rw [Bool.and_eq_true] at h2
    rcases List.mem_cons.mp m with rfl | m
    · exact h2.1
    · exact tws_mem h2.2 m
section
variable {X : Cx}
/-- str of a word or a number -/
theorem call_str_any : CallR X (.type "str") (fun xs H Q => (∃ i, xs = [.int i] ∧ i.natAbs.log2 < 1920 ∧ Q (.str (toString i)) H) ∨ ∃ a, xs = [.str a] ∧ Q (.str a) H) := by
  intro pins s σ H xs us Q I rs q
  rcases q with q | q
  · exact call_str_int pins s σ H xs us Q I rs q
  · exact SkE.call_str_str pins s σ H xs us Q I rs q
end
section
variable {P : Program} {w : World} {K : PySem.W.Frag} {mg : Str → Option Value} {base : Heap}
def spText (K : PySem.W.Frag) (n : Nat) : Sp := fun vs H Q _ => ∃ (v : V) (ds : List PyData), vs = [v] ∧ Dp K H v (.tuple ds) ∧ tw (.tuple ds) = true ∧ (PyData.tuple ds).depth ≤ n ∧ psz (.tuple ds) ≤ 20000 ∧ ∀ H', Same H H' → Q (.str (txt (.tuple ds))) H'
theorem ok_text {f : Addr} {fd : FuncData} {n : Nat} (F : Fun K "_law_text" "_law_text" sText f fd) (zIs : mg "isinstance" = none) (zTuple : mg "tuple" = none) (zStr : mg "str" = none) (Sf : _root_.Gd.FnD P w K mg base n f fd ["tree"] (spText K n)) (bS : Binds K fd ["tree"] []) (kS : PySem.W.keepIn K (.ref f) = true) (mS : mg "_law_text" = some (.ref f)) :
    _root_.Gd.FnD P w K mg base (n + 1) f fd ["tree"] (spText K (n + 1)) := by
  refine _root_.Gd.okD F scText (fun vs H Q E h => ?_) (fun cdv A outer s H vs Q hr h => ?_)
  · obtain ⟨v, ds, rfl, _⟩ := h
    rfl
  obtain ⟨v, ds, rfl, hd, ht, hn, hsz, q⟩ := h
  refine ⟨_, (pss_cons (ps_setLc (i := 1) (own := [("part", 2)]) (g := gName 2) (tt := tYes) rfl scText.nd rfl rfl (sw_true rfl rfl (by rfl) (by decide +kernel)) (pi_tup (pv 0)) (blkOk_by (N := textN) (sc := defScope sText) (by decide +kernel)) (fun _ _ _ _ _ => pg_name (i := 2) scText.nd rfl (Or.inl rfl)) (fun _ _ _ _ _ => pts_nil) (fun _ _ _ _ _ => pe_ifExp (pt_val (pe_callB (id := "isinstance") (r := rIsi K) call_isi (by rfl) zIs (by decide +kernel) (pa_cons (pv 2) (pa_cons (pe_bltn (v := .ty "tuple") (by rfl) zTuple (by decide +kernel) rfl) pa_nil)))) (_root_.Gd.pe_callD Sf hr (by rfl) mS kS bS (pa_cons (pv 2) pa_nil)) (pe_callTy call_str_any (by rfl) zStr (by decide +kernel) (pa_cons (pv 2) pa_nil))))
    (pss_one (ps_ret (pe_op op_add_str (pe_op op_add_str pe_str (pe_join pe_str (pv 1))) pe_str)))), ?_⟩
  cases hd with
  | @tup p xs _ hs ha =>
  have h2 : (headW ds && tws ds) = true := ht
  rw [Bool.and_eq_true] at h2
  have sumT := txts_sum ds h2.2
  have ez : psz (.tuple ds) = 1 + pszs ds := rfl
  have ed : (PyData.tuple ds).depth = PyData.depthAll ds + 1 := rfl
  have lx := dps_len ha
  have lp := len_pszs ds
  refine ⟨_, rfl, p, rfl, ⟨_, hs⟩, fun D nD => ?_⟩
  refine lc_tup (K := K) (a := p) (xs := xs) (fun i H' => H' D = some (.lst (((txts ds).take i).map V.str)) ∧ Same H H') ⟨upd_same, same_new nD⟩ (fun i H' _ ⟨_, sm⟩ => sqT_up sm hs) ?_ ?_
  · rintro i x Y hx ⟨eD, sm⟩
    obtain ⟨e, he, hxe⟩ := dps_get ha hx
    have mem := List.mem_of_getElem? he
    have te := tws_mem h2.2 mem
    have hi : i < ds.length := (List.getElem?_eq_some_iff.mp he).1
    have hxe2 := dp_up sm _ _ hxe
    have nxt : (txts ds).take (i + 1) = (txts ds).take i ++ [txt e] := by
      have g : ∀ (l : List PyData) (j : Nat), l[j]? = some e → (txts l)[j]? = some (txt e) := by
        intro l
        induction l with
        | nil => intro j h; simp at h
        | cons y ys ih =>
          intro j h
          cases j with
          | zero =>
            have e2 : y = e := by simpa using h
            rw [e2]
            rfl
          | succ j => exact ih j (by simpa using h)
      rw [List.take_add_one, g ds i he]
      rfl
    have fin : ∀ Z, Same Y Z → ∃ acc, Z D = some (.lst acc) ∧ acc.length < sizeLine ∧ upd Z D (.lst (acc ++ [V.str (txt e)])) D = some (.lst (((txts ds).take (i + 1)).map V.str)) ∧ Same H (upd Z D (.lst (acc ++ [V.str (txt e)]))) := fun Z sZ => by
      refine ⟨_, sZ _ _ eD, ?_, ?_, fun b o h => ?_⟩
      · rw [List.length_map, List.length_take, txts_len]
        exact Nat.lt_of_le_of_lt (show min i ds.length ≤ 20000 by omega) (by decide)
      · rw [upd_same, nxt, List.map_append]
        rfl
      · rw [upd_ne (ne_of_none h nD)]
        exact sZ _ _ (sm _ _ h)
    refine ⟨rfl, ?_⟩
    refine ⟨_, rfl, _, _, _, _, isTu e, rfl, .ty "tuple", dp_ty hxe2, kit_tu e, _, rfl, ?_⟩
    cases e with
    | tuple es =>
      refine iteT ⟨_, rfl, x, es, rfl, hxe2, te, ?_, ?_, fun Z sZ => fin Z sZ⟩
      · have z := dep_mem mem
        omega
      · have z := pszs_mem mem
        omega
    | str z =>
      cases hxe2
      exact iteF ⟨_, rfl, .inr ⟨z, rfl, fin Y (Same.refl Y)⟩⟩
    | int k =>
      cases hxe2
      have hk : (decide (0 ≤ k) && decide (k < 10 ^ 60)) = true := te
      rw [Bool.and_eq_true] at hk
      have k0 := of_decide_eq_true hk.1
      have k1 := of_decide_eq_true hk.2
      refine iteF ⟨_, rfl, .inl ⟨k, rfl, ?_, fin Y (Same.refl Y)⟩⟩
      by_cases z : k.natAbs = 0
      · rw [z]
        decide
      · exact (Nat.log2_lt z).2 (Nat.lt_of_lt_of_le (show k.natAbs < 10 ^ 60 by omega) (Nat.le_trans (show 10 ^ 60 ≤ 2 ^ 208 by decide) (Nat.pow_le_pow_right (by decide) (by decide))))
    | list _ => exact (Bool.false_ne_true te).elim
    | none => exact (Bool.false_ne_true te).elim
    | bool _ => exact (Bool.false_ne_true te).elim
    | dict _ => exact (Bool.false_ne_true te).elim
  · rintro Y ⟨eD, sm⟩
    rw [lx, ← txts_len, List.take_length] at eD
    have e1 : (" " : Str).length = 1 := by decide +kernel
    have e2 : ("(" : Str).length = 1 := by decide +kernel
    have e3 : (")" : Str).length = 1 := by decide +kernel
    have jl := join_len2 (a := " ") (ys := txts ds)
    rw [e1, Nat.mul_one] at jl
    refine ⟨⟨_, rfl⟩, _, rfl, _, D, txts ds, rfl, rfl, .inl (.inl (.inl eD)), ?_, ?_⟩
    · show ((txts ds).map (·.length)).sum + (txts ds).length * (" " : Str).length ≤ 16777216
      rw [e1, Nat.mul_one]
      omega
    · refine ⟨"(", _, rfl, rfl, ?_, _, ")", rfl, rfl, ?_, q Y sm⟩
      · rw [e2]
        exact Nat.le_trans (m := 1500000) (by omega) (by decide)
      · rw [add_len, e2, e3]
        exact Nat.le_trans (m := 1500000) (by omega) (by decide)
theorem ok_texts {f : Addr} {fd : FuncData} (F : Fun K "_law_text" "_law_text" sText f fd) (zIs : mg "isinstance" = none) (zTuple : mg "tuple" = none) (zStr : mg "str" = none) (bS : Binds K fd ["tree"] []) (kS : PySem.W.keepIn K (.ref f) = true) (mS : mg "_law_text" = some (.ref f)) : ∀ n : Nat, _root_.Gd.FnD P w K mg base n f fd ["tree"] (spText K n)
  | 0 => _root_.Gd.FnD.none fun vs H Q E h => by
    obtain ⟨v, ds, _, _, _, hn, _⟩ := h
    have e : (PyData.tuple ds).depth = PyData.depthAll ds + 1 := rfl
    omega
  | n + 1 => ok_text F zIs zTuple zStr (ok_texts F zIs zTuple zStr bS kS mS n) bS kS mS
end
end Kf
set_option Elab.async false
set_option linter.all false
set_option maxRecDepth 100000
set_option maxHeartbeats 8000000
set_option pp.maxSteps 600
/-! Chains, and their texts. -/
namespace Kf
open PySem PySem.Spec PyProof.Rows L2 Sx
theorem str_assoc (a b c : Str) : a ++ b ++ c = a ++ (b ++ c) := congrArg Str.mk Array.append_assoc
theorem join1 (a : Str) : Txt.join " " [a] = a := TL.join_eq _ _
theorem join2 (a b : Str) : Txt.join " " [a, b] = a ++ " " ++ b := TL.join_eq _ _
theorem join3 (a b c : Str) : Txt.join " " [a, b, c] = a ++ " " ++ (b ++ " " ++ c) := TL.join_eq _ _
/-- a link of a chain -/
structure Lk (d : PyData) (n : Nat) : Prop where
  tu : isTu d = true
  tw : tw d = true
  th : Th (n + 1) (4 * n + 2) d
theorem lk_end : Lk (.tuple [.str "end"]) 0 := ⟨rfl, by decide +kernel, by decide +kernel, by decide +kernel, by decide +kernel⟩
theorem wz3 : ∀ x ∈ ([.str "a", .str "next", .str "abcdefgh"] : List V), ∃ z : Str, x = .str z ∧ tw (.str z) = true ∧ ats (.str z) = true ∧ z.length ≤ 8 := by
  intro x hx
  rcases List.mem_cons.mp hx with e | hx
  · exact ⟨_, e, by decide +kernel, by decide +kernel, by decide +kernel⟩
  rcases List.mem_cons.mp hx with e | hx
  · exact ⟨_, e, by decide +kernel, by decide +kernel, by decide +kernel⟩
  · exact ⟨_, List.mem_singleton.mp hx, by decide +kernel, by decide +kernel, by decide +kernel⟩
theorem lk_3 {z : Str} {d : PyData} {k : Int} {n : Nat} (h : Lk d n) (hz : tw (.str z) = true) (az : ats (.str z) = true) (k0 : 0 ≤ k) (k1 : k < 10 ^ 6) : Lk (.tuple [.str z, d, .int k]) (n + 1) := by
  have a := h.th.deep
  have b := h.th.sz
  refine ⟨rfl, ?_, ?_, ?_, ?_⟩
  · show (true && (tw (.str z) && (tw d && ((decide (0 ≤ k) && decide (k < 10 ^ 60)) && true)))) = true
    rw [hz, h.tw, decide_eq_true k0, decide_eq_true (show k < 10 ^ 60 by omega)]
    rfl
  · show (ats (.str z) && (ats d && (decide (k.natAbs < 10 ^ 62) && true))) = true
    rw [az, h.th.ats, decide_eq_true (show k.natAbs < 10 ^ 62 by omega)]
    rfl
  · show max 0 (max d.depth (max 0 0)) + 1 ≤ _
    omega
  · show 1 + (1 + (psz d + (1 + 0))) ≤ _
    omega
theorem lk_x {z : Str} {d : PyData} {n : Nat} (h : Lk d n) (hz : tw (.str z) = true) (az : ats (.str z) = true) : Lk (.tuple [.str z, .str "x", d]) (n + 1) := by
  have a := h.th.deep
  have b := h.th.sz
  refine ⟨rfl, ?_, ?_, ?_, ?_⟩
  · show (true && (tw (.str z) && (tw (.str "x") && (tw d && true)))) = true
    rw [hz, h.tw, show tw (.str "x") = true by decide +kernel]
    rfl
  · show (ats (.str z) && (ats (.str "x") && (ats d && true))) = true
    rw [az, h.th.ats, show ats (.str "x") = true by decide +kernel]
    rfl
  · show max 0 (max 0 (max d.depth 0)) + 1 ≤ _
    omega
  · show 1 + (1 + (1 + (psz d + 0))) ≤ _
    omega
theorem lk_2 {z : Str} {d : PyData} {n : Nat} (h : Lk d n) (hz : tw (.str z) = true) (az : ats (.str z) = true) : Lk (.tuple [.str z, d]) (n + 1) := by
  have a := h.th.deep
  have b := h.th.sz
  refine ⟨rfl, ?_, ?_, ?_, ?_⟩
  · show (true && (tw (.str z) && (tw d && true))) = true
    rw [hz, h.tw]
    rfl
  · show (ats (.str z) && (ats d && true)) = true
    rw [az, h.th.ats]
    rfl
  · show max 0 (max d.depth 0) + 1 ≤ _
    omega
  · show 1 + (1 + (psz d + 0)) ≤ _
    omega
theorem txt_3 (z : Str) (d : PyData) (k : Int) : txt (.tuple [.str z, d, .int k]) = "(" ++ z ++ " " ++ txt d ++ " " ++ Str.ofString (toString k) ++ ")" := by
  show "(" ++ Txt.join " " [z, txt d, Str.ofString (toString k)] ++ ")" = _
  rw [join3]
  simp only [str_assoc]
theorem txt_2 (z : Str) (d : PyData) : txt (.tuple [.str z, d]) = "(" ++ z ++ " " ++ txt d ++ ")" := by
  show "(" ++ Txt.join " " [z, txt d] ++ ")" = _
  rw [join2]
  simp only [str_assoc]
theorem x_is : (" x " : Str) = " " ++ ("x" ++ " ") := by decide +kernel
theorem txt_x (z : Str) (d : PyData) : txt (.tuple [.str z, .str "x", d]) = "(" ++ z ++ " x " ++ txt d ++ ")" := by
  show "(" ++ Txt.join " " [z, "x", txt d] ++ ")" = _
  rw [join3, x_is]
  simp only [str_assoc]
end Kf
set_option Elab.async false
set_option linter.all false
set_option maxRecDepth 100000
set_option maxHeartbeats 4000000
set_option pp.maxSteps 600
/-! The text of a tree, sign list by sign list: what `written` puts together. -/
namespace Kf
open PySem PySem.Spec PyProof.Rows L2 Sx
/-- one behind the other -/
def glue : List Str → Str
  | [] => ""
  | x :: xs => x ++ glue xs
theorem emp_add (a : Str) : "" ++ a = a := congrArg Str.mk (by show (("" : Str).cps ++ a.cps) = a.cps; rw [show ("" : Str).cps = #[] by decide +kernel]; exact Array.empty_append)
theorem add_emp (a : Str) : a ++ "" = a := congrArg Str.mk (by show (a.cps ++ ("" : Str).cps) = a.cps; rw [show ("" : Str).cps = #[] by decide +kernel]; exact Array.append_empty)
theorem glue_app : ∀ xs ys : List Str, glue (xs ++ ys) = glue xs ++ glue ys
  | [], ys => (emp_add _).symm
  | x :: xs, ys => by
    show x ++ glue (xs ++ ys) = x ++ glue xs ++ glue ys
    rw [glue_app xs ys, str_assoc]
theorem glue_one (x : Str) : glue [x] = x := add_emp x
theorem join_glue : ∀ xs : List Str, Str.join "" xs = glue xs
  | [] => rfl
  | [x] => (add_emp x).symm
  | x :: y :: r => by
    have ih := join_glue (y :: r)
    show x ++ "" ++ Str.join "" (y :: r) = x ++ glue (y :: r)
    rw [ih, add_emp]
theorem joinE (xs : List Str) : Txt.join "" xs = glue xs := (TL.join_eq _ _).trans (join_glue xs)
/-- what a thing on the stack writes -/
def itx : PyData → Str
  | .str z => if z = ")" then ")" else " " ++ z
  | .tuple ds => " " ++ txt (.tuple ds)
  | .int i => " " ++ txt (.int i)
  | .list _ => ""
  | .none => ""
  | .bool _ => ""
  | .dict _ => ""
theorem word_not {z : Str} (h : tw (.str z) = true) : z ≠ ")" := fun e => by
  rw [e] at h
  exact absurd h (by decide +kernel)
theorem itx_tw : ∀ {d : PyData}, tw d = true → itx d = " " ++ txt d
  | .str z, h => if_neg (word_not h)
  | .tuple ds, h => rfl
  | .int i, h => rfl
  | .list _, h => (Bool.false_ne_true h).elim
  | .none, h => (Bool.false_ne_true h).elim
  | .bool _, h => (Bool.false_ne_true h).elim
  | .dict _, h => (Bool.false_ne_true h).elim
theorem join_rest (w : Str) : ∀ ps : List PyData, tws ps = true → Txt.join " " (w :: txts ps) = w ++ glue (ps.map itx)
  | [], _ => by
    rw [show txts [] = [] from rfl, join1]
    exact (add_emp w).symm
  | p :: ps, h => by
    have h2 : (tw p && tws ps) = true := h
    rw [Bool.and_eq_true] at h2
    have ih := join_rest (txt p) ps h2.2
    have e : Txt.join " " (w :: txts (p :: ps)) = w ++ " " ++ Txt.join " " (txt p :: txts ps) := by
      rw [TL.join_eq, TL.join_eq]
      rfl
    rw [e, ih, List.map_cons]
    show w ++ " " ++ (txt p ++ glue (ps.map itx)) = w ++ (itx p ++ glue (ps.map itx))
    rw [itx_tw h2.1]
    simp only [str_assoc]
/-- a tree's text: the bracket and its word, its parts, the closing bracket -/
theorem itx_tree {w : Str} {ps : List PyData} (h : tws ps = true) : itx (.tuple (.str w :: ps)) = (" (" ++ w) ++ glue ((ps ++ [PyData.str ")"]).map itx) := by
  show " " ++ ("(" ++ Txt.join " " (w :: txts ps) ++ ")") = _
  rw [join_rest w ps h, List.map_append, glue_app]
  have e : glue ([PyData.str ")"].map itx) = ")" := by
    show (if (")" : Str) = ")" then (")" : Str) else " " ++ ")") ++ "" = ")"
    rw [if_pos rfl, add_emp]
  have e2 : (" (" : Str) = " " ++ "(" := by decide +kernel
  rw [e, e2]
  simp only [str_assoc]
end Kf
set_option Elab.async false
set_option linter.all false
set_option maxRecDepth 100000
set_option maxHeartbeats 8000000
set_option pp.maxSteps 600
/-! written. -/
namespace Kf
open PySem PySem.Spec PyProof.Rows L2 Sx RT
theorem cut_one (x : V) (r : List V) : cutV (x :: r) (some 1) none = r := by
  unfold cutV
  have e1 : HT.sIx (x :: r).length 0 (some 1) = 1 := by
    rw [show HT.sIx (x :: r).length 0 (some 1) = min 1 (x :: r).length from HT.sIx_nat _ 0 1, List.length_cons]
    omega
  rw [e1, HT.sIx_none]
  show List.take ((x :: r).length - 1) r = r
  rw [List.length_cons, Nat.add_sub_cancel]
  exact List.take_length
theorem cut_not (x : V) (r : List V) : ¬ (HT.sIx (x :: r).length 0 (some 1) = 0 ∧ HT.sIx (x :: r).length (x :: r).length none = (x :: r).length) := by
  intro h
  have e1 : HT.sIx (x :: r).length 0 (some 1) = 1 := by
    rw [show HT.sIx (x :: r).length 0 (some 1) = min 1 (x :: r).length from HT.sIx_nat _ 0 1, List.length_cons]
    omega
  rw [e1] at h
  exact absurd h.1 (by decide)
theorem cutS_one (c : Str) (t : Str) (h : c.length = 1) : cutS (c ++ t) (some 1) none = t := by
  unfold cutS
  have ln : (c ++ t).length = t.length + 1 := by
    rw [add_len, h]
    omega
  have e1 : HT.sIx (c ++ t).length 0 (some 1) = 1 := by
    rw [show HT.sIx (c ++ t).length 0 (some 1) = min 1 (c ++ t).length from HT.sIx_nat _ 0 1, ln]
    omega
  rw [e1, HT.sIx_none, add_tl, ln]
  have hc : c.cps.toList.length = 1 := by
    rw [Array.length_toList]
    exact h
  rw [show List.drop 1 (c.cps.toList ++ t.cps.toList) = t.cps.toList by rw [← hc, List.drop_left]]
  have e2 : List.take (t.length + 1 - 1) t.cps.toList = t.cps.toList := List.take_of_length_le (by rw [Array.length_toList]; exact Nat.le_refl _)
  rw [e2]
theorem same_own {H H1 : Hp} {p : Addr} {o : HO} (s : Same H H1) (n : H p = none) : Same H (upd H1 p o) := fun b u q => by
  rw [upd_ne (ne_of_none q n)]
  exact s b u q
section
variable {K : PySem.W.Frag} {H : Hp}
theorem dps_rev : ∀ {vs : List V} {ds : List PyData}, DpAll K H vs ds → DpAll K H vs.reverse ds.reverse
  | _, _, .nil => .nil
  | _, _, .cons a b => by
    rw [List.reverse_cons, List.reverse_cons]
    exact dps_app (dps_rev b) (.cons a .nil)
theorem dps_last {vs : List V} {v : V} {ds : List PyData} (h : DpAll K H (vs ++ [v]) ds) : ∃ es e, ds = es ++ [e] ∧ DpAll K H vs es ∧ Dp K H v e := by
  have q := dps_rev h
  rw [List.reverse_append, List.reverse_singleton, List.singleton_append] at q
  generalize hr : ds.reverse = r at q
  cases q with
  | @cons _ _ e es a b =>
    have b2 := dps_rev b
    rw [List.reverse_reverse] at b2
    refine ⟨es.reverse, e, ?_, b2, a⟩
    have z := congrArg List.reverse hr
    rw [List.reverse_reverse, List.reverse_cons] at z
    exact z
end
theorem glue_len : ∀ xs : List Str, (glue xs).length = (xs.map (·.length)).sum
  | [] => rfl
  | x :: xs => by
    show (x ++ glue xs).length = x.length + (xs.map (·.length)).sum
    rw [add_len, glue_len xs]
theorem pszs_rev : ∀ xs : List PyData, pszs xs.reverse = pszs xs
  | [] => rfl
  | x :: xs => by
    rw [List.reverse_cons, pszs_app, pszs_rev xs]
    show pszs xs + (psz x + 0) = psz x + pszs xs
    omega
theorem head_at (x : V) (us : List V) : atI (x :: us) 0 = some x := atI_nat (j := 0) rfl
end Kf
set_option Elab.async false
set_option linter.all false
set_option maxRecDepth 100000
set_option maxHeartbeats 4000000
/-! enumerate over a text. -/
namespace Kf
open PySem PySem.Spec PyProof.Rows L2 Sx
/-- the text's signs, each in a new pair with its number -/
def Ites (x : Str) : It :=
  ⟨fun i _ => i < x.cps.size, fun i H v H' => ∃ T c, v = .ref T ∧ H T = none ∧ x.cps[i]? = some c ∧ H' = upd H T (.tup [.int (i : Nat), .str ⟨#[c]⟩]), fun i _ => x.cps.size ≤ i⟩
theorem turn_enumS {P : Program} {w : World} {K : PySem.W.Frag} {elts : List Expr} {kk : Nat} {tpos : Pos} (e it : Addr) (x : Str) (t : Tok) (ty : String) (hty : ty = "str_ascii_iterator" ∨ ty = "str_iterator") :
    Turn P w K (.Tuple elts kk tpos) (Ites x) [e, it] e (fun i h => (∃ old, IsEnum h e it ((i : Nat) : Int) old) ∧ h.IsStrIter it ty x t i ∧ e ≠ it ∧ i ≤ x.cps.size) where
  mem := by simp
  obj := fun i h st b hb => by
    obtain ⟨⟨old, he⟩, ⟨o, ho, hc, hd⟩, _⟩ := st
    have e' : b = e ∨ b = it := by simpa using hb
    rcases e' with z | z
    · rw [z]; exact ⟨_, he, fun v q => nomatch q⟩
    · rw [z]; exact ⟨o, ho, fun v q => by rw [hd] at q; cases q⟩
  keep := fun i h h' st k => by
    obtain ⟨⟨old, he⟩, ⟨o, ho, r⟩, hne, hle⟩ := st
    exact ⟨⟨old, k e (by simp) _ he⟩, ⟨o, k it (by simp) o ho, r⟩, hne, hle⟩
  item := by
    intro X hP hw hK hc i pins s σ H E I hf st hg
    subst hP hw hK
    obtain ⟨⟨old, he⟩, hit, hne, _⟩ := st
    have D : Draws X.prog X.w X.A.in1 it [it] x.cps.size (fun i v => ∃ c u, x.cps[i]? = some c ∧ v = .str ⟨#[c]⟩ u) (fun i h => h.IsStrIter it ty x t i) := by
      rcases hty with q | q
      · rw [q]; exact Draws.strAscii (show X.A.in1.handled = none from I.ok.hd hc) it x t
      · rw [q]; exact Draws.strWide (show X.A.in1.handled = none from I.ok.hd hc) it x t
    have hel : e < s.heap.objs.size := Heap.lt_size he
    have hil : it < s.heap.objs.size := by obtain ⟨_, q, _⟩ := hit; exact Heap.lt_size q
    refine wpAny_pyNext_enum_itemD D he hit hg hne (by simpa using hne) fun u h' tk hu ho hit' hT hsz hk => ?_
    obtain ⟨c, tc, hcx, rfl⟩ := hu
    refine ⟨_, rfl, wpAny_letOwnedTupleGo_enum (s := { s with heap := h', toks := tk + 1 }) ho fun h'' he' sb => ?_⟩
    have hT2 : h''.get? s.heap.objs.size = some { cls := .type "tuple", data := .seq #[.int i tk, .str ⟨#[c]⟩ tc] } := (sb.2 _ (Nat.ne_of_gt hel)).trans hT
    have new : ObjOk X.prog X.w (upd H s.heap.objs.size (.tup [.int (i : Nat), .str ⟨#[c]⟩])) h'' s.heap.objs.size (.tup [.int (i : Nat), .str ⟨#[c]⟩]) :=
      ⟨by show 2 ≤ sizeLine; decide, [.int i tk, .str ⟨#[c]⟩ tc], .cons ⟨_, rfl⟩ (.cons ⟨_, rfl⟩ .nil), ⟨_, hT2, rfl, _, rfl⟩⟩
    have I1 : Inv X pins σ (upd H s.heap.objs.size (.tup [.int (i : Nat), .str ⟨#[c]⟩])) { s with heap := h'', toks := tk + 1 } :=
      I.turnedNew (ch := [e, it]) (fun b ob hb q => (sb.2 b (fun z => hb (by simp [z]))).trans (hk b ob (fun z => hb (by simp [z])) (fun z => hb (by simp [z])) q)) hf (Nat.le_refl _) new
    refine ⟨.ref s.heap.objs.size, _, I1, rfl, ⟨_, c, rfl, I.hok.fresh (Nat.le_refl _), hcx, rfl⟩, ⟨⟨.str ⟨#[c]⟩ tc, ?_⟩, ?_, hne, hg⟩, fun b hb => ?_⟩
    · have e1 : ((i + 1 : Nat) : Int) = (i : Int) + 1 := by omega
      rw [e1]; exact he'
    · obtain ⟨oi, q, r⟩ := hit'
      exact ⟨oi, (sb.2 it (Ne.symm hne)).trans q, r⟩
    · have hb' : b < s.heap.objs.size := by
        have e' : b = e ∨ b = it := by simpa using hb
        rcases e' with z | z
        · rw [z]; exact hel
        · rw [z]; exact hil
      rw [upd_ne (Nat.ne_of_lt hb')]
      exact (hf b hb).1
  done := by
    intro X hP hw hK hc i pins s σ H E I hf st hg
    subst hP hw hK
    obtain ⟨⟨old, he⟩, hit, hne, hle⟩ := st
    obtain ⟨f0, f1, f2, f3, f4, f5⟩ := hf it (by simp)
    have ei : i = x.cps.size := Nat.le_antisymm hle hg
    have D : Draws X.prog X.w X.A.in1 it [it] x.cps.size (fun i v => ∃ c u, x.cps[i]? = some c ∧ v = .str ⟨#[c]⟩ u) (fun i h => h.IsStrIter it ty x t i) := by
      rcases hty with q | q
      · rw [q]; exact Draws.strAscii (show X.A.in1.handled = none from I.ok.hd hc) it x t
      · rw [q]; exact Draws.strWide (show X.A.in1.handled = none from I.ok.hd hc) it x t
    rw [ei] at hit
    exact wpAny_pyNext_enum_endD D he hit fun h' eb => ⟨rfl, I.turned (t' := s.toks) (fun b o hb q => eb b o hb q) f0 f1 f3 f4 f5⟩
  self := fun A i s Q E st h => let ⟨⟨_, he⟩, _⟩ := st; wpAny_pyIter_enum he h
def iEnumS (ta : TA) : TI := fun σ H R => ta σ H fun vs H1 => ∃ x, vs = [.str x] ∧ R (Ites x) H1
theorem pi_enumS {X : Cx} {e : Expr} {ta : TA} {p pos tpos : Pos} {elts : List Expr} {kk : Nat} (hg : Gl X "enumerate") (hm : X.mg "enumerate" = none) (ha : PA X [e] ta) (hs : starEach [e] X.env = [(false, eval e X.env)] := by rfl) :
    PI X (.Tuple elts kk tpos) (.Call (.Name "enumerate" p) [e] [] pos) (iEnumS ta) := by
  refine ⟨fun pins s σ H R I h => ?_⟩
  refine Call_ (ld_blt I hg hm boot_enumerate (PyProof.Rows.callWith_type1 (thn (ha.run pos pins s σ H _ I h) fun us s1 ⟨vs, H1, I1, r1, q1⟩ => ?_) hs rfl))
  obtain ⟨x, ex, q⟩ := q1
  subst ex
  cases r1 with
  | cons r rr =>
    cases rr
    obtain ⟨t, rfl⟩ := r
    refine call_enumerate_str fun h' he hit hsz hk => wpAny_pyIter_enum he ?_
    have I2 : Inv X pins σ H1 { s1 with heap := h' } := I1.kept (t' := s1.toks) hk
    have hty : strIterType x = "str_ascii_iterator" ∨ strIterType x = "str_iterator" := by
      unfold strIterType
      split
      · exact .inl rfl
      · exact .inr rfl
    refine ⟨s1.heap.objs.size + 1, [s1.heap.objs.size + 1, s1.heap.objs.size], _, _, H1, rfl, I2, turn_enumS (s1.heap.objs.size + 1) s1.heap.objs.size x t _ hty, ⟨⟨.none, he⟩, hit, Nat.succ_ne_self _, Nat.zero_le _⟩, fun b hb => ?_, q⟩
    have e' : b = s1.heap.objs.size + 1 ∨ b = s1.heap.objs.size := by simpa using hb
    have hle : s1.heap.objs.size ≤ b := by
      rcases e' with z | z
      · rw [z]; exact Nat.le_add_right _ _
      · rw [z]; exact Nat.le_refl _
    exact I1.fpOk hle (I1.hok.fresh hle)
/-- the loop, by what holds between its turns -/
theorem for_enumS {x : Str} {g : TG} {tb : TS} {D : Ends} {σ : L2.St} {H : Hp} (Pv : Nat → L2.St → Hp → Prop) (h0 : Pv 0 σ H)
    (hs : ∀ (i c : Nat) σ H T, x.cps[i]? = some c → Pv i σ H → H T = none → g (.ref T) σ (upd H T (.tup [.int (i : Nat), .str ⟨#[c]⟩])) fun σ2 H2 => tb { D with nx := Pv (i + 1), ct := Pv (i + 1), bk := D.nx } σ2 H2)
    (hd : ∀ σ H, Pv x.cps.size σ H → D.nx σ H) :
    ∃ W : Nat → Nat → L2.St → Hp → Prop, (∃ m, W 0 m σ H) ∧ ∀ i m σ H, W i m σ H →
      ((Ites x).stop i H ∧ D.nx σ H) ∨ ((Ites x).go i H ∧ ∃ N : L2.St → Hp → Prop, (∀ σ' H', N σ' H' → ∃ m', m' < m ∧ W (i + 1) m' σ' H') ∧ ∀ v H', (Ites x).yld i H v H' → g v σ H' fun σ2 H2 => tb { D with nx := N, ct := N, bk := D.nx } σ2 H2) := by
  refine ⟨fun i m σ H => m = x.cps.size - i ∧ i ≤ x.cps.size ∧ Pv i σ H, ⟨x.cps.size, rfl, Nat.zero_le _, h0⟩, ?_⟩
  rintro i m σ H ⟨rfl, hi, p⟩
  by_cases hlt : i < x.cps.size
  · refine .inr ⟨hlt, Pv (i + 1), fun σ' H' p' => ⟨x.cps.size - (i + 1), by omega, rfl, hlt, p'⟩, fun v H' y => ?_⟩
    obtain ⟨T, c, rfl, nT, hc, rfl⟩ := y
    exact hs i c σ H T hc p nT
  · exact .inl ⟨show x.cps.size ≤ i by omega, hd σ H (by rw [show x.cps.size = i by omega]; exact p)⟩
end Kf
set_option Elab.async false
set_option linter.all false
set_option maxRecDepth 100000
set_option maxHeartbeats 4000000
set_option pp.maxSteps 600
/-! The reader, as a machine over signs; what it makes of a tree's text. -/
namespace Kf
open PySem PySem.Spec PyProof.Rows L2 Sx
structure RS where
  trees : List (List PyData)
  begun : Str
  last : Str
  whole : Option PyData
abbrev figs : Str := "0123456789"
def isL (c : Nat) : Bool := decide (c ∈ abc.cps.toList)
def isF (c : Nat) : Bool := decide (c ∈ figs.cps.toList)
def one (c : Nat) : Str := ⟨#[c]⟩
/-- whether a text begins with a figure -/
def headF (b : Str) : Bool := match b.cps.toList with
  | x :: _ => isF x
  | [] => false
def goesOn (b : Str) (c : Nat) : Bool := if headF b = true then isF c && (decide (b ≠ "0") && decide ((b.length : Int) < 60)) else isL c && decide ((b.length : Int) < 8)
def isLast (s : RS) (z : Str) : Bool := decide (s.last = z)
def canOpen (s : RS) : Bool := isLast s "start" || (isLast s "blank" && decide ((s.trees.length : Int) < 300))
def canBegin (s : RS) (c : Nat) : Bool := if isLast s "open" = true then isL c else isLast s "blank" && (isL c || isF c)
def canPart (s : RS) : Bool := isLast s "begun" || (isLast s "closed" && decide ((s.trees.length : Int) > 0))
/-- a thing more for the innermost tree -/
def pushL : List (List PyData) → PyData → List (List PyData)
  | [], _ => []
  | [x], d => [x ++ [d]]
  | x :: y :: r, d => x :: pushL (y :: r) d
theorem pushL_app (x : List PyData) (d : PyData) : ∀ ts : List (List PyData), pushL (ts ++ [x]) d = ts ++ [x ++ [d]]
  | [] => rfl
  | [y] => rfl
  | y :: z :: r => congrArg (y :: ·) (pushL_app x d (z :: r))
def datum (b : Str) : PyData := if headF b = true then .int ((intText? b).getD 0) else .str b
def endB (s : RS) : RS := if isLast s "begun" = true then { s with trees := pushL s.trees (datum s.begun) } else s
def closeT : List (List PyData) → Option (List (List PyData) × Option PyData)
  | [] => none
  | x :: r => some (match r with | [] => ([], some (.tuple x)) | _ :: _ => (pushL r.reverse (.tuple x), none))
def closeR (s : RS) : RS := match closeT (endB s).trees.reverse with
  | none => s
  | some (ts, some t) => { endB s with trees := ts, whole := some t, last := "closed" }
  | some (ts, none) => { endB s with trees := ts, last := "closed" }
def takeR (s : RS) (c : Nat) : Option RS :=
  if (decide (one c = "(") && canOpen s) = true then some { s with trees := s.trees ++ [[]], last := "open" }
  else if (decide (one c = ")") && canPart s) = true then some (closeR s)
  else if (decide (one c = " ") && canPart s) = true then some { endB s with last := "blank" }
  else if (isLast s "begun" && goesOn s.begun c) = true then some { s with begun := s.begun ++ one c }
  else if canBegin s c = true then some { s with begun := one c, last := "begun" }
  else none
def runR (s : RS) : List Nat → Option RS
  | [] => some s
  | c :: r => match takeR s c with
    | none => none
    | some s' => runR s' r
theorem run_app (a b : List Nat) : ∀ s : RS, runR s (a ++ b) = match runR s a with | none => none | some s' => runR s' b := by
  induction a with
  | nil => intro s; rfl
  | cons c r ih =>
    intro s
    simp only [runR, List.cons_append]
    cases takeR s c with
    | none => rfl
    | some s' => exact ih s'
theorem run_two {a b : List Nat} {s s1 s2 : RS} (h : runR s a = some s1) (g : runR s1 b = some s2) : runR s (a ++ b) = some s2 := by
  rw [run_app, h]
  exact g
/-! ### single steps, where they are known -/
theorem one_inj {c d : Nat} (h : one c = one d) : c = d := by
  have e := congrArg (fun z : Str => z.cps.toList) h
  have e2 : [c] = [d] := e
  injection e2
theorem one_is (c : Nat) (z : Str) (d : Nat) (hz : z = one d) : decide (one c = z) = decide (c = d) := by
  subst hz
  by_cases e : c = d
  · rw [decide_eq_true e, e]
    exact decide_eq_true rfl
  · rw [decide_eq_false e]
    exact decide_eq_false fun q => e (one_inj q)
theorem op_is : ("(" : Str) = one 40 := by decide +kernel
theorem cl_is : (")" : Str) = one 41 := by decide +kernel
theorem sp_is : (" " : Str) = one 32 := by decide +kernel
theorem abc_is : ∀ c ∈ abc.cps.toList, 97 ≤ c ∧ c ≤ 122 := by decide +kernel
theorem figs_is : ∀ c ∈ figs.cps.toList, 48 ≤ c ∧ c ≤ 57 := by decide +kernel
theorem figs_all : figs.cps.toList = [48, 49, 50, 51, 52, 53, 54, 55, 56, 57] := by decide +kernel
theorem isL_of {c : Nat} (h : isL c = true) : 97 ≤ c ∧ c ≤ 122 := abc_is c (of_decide_eq_true h)
theorem isF_of {c : Nat} (h : isF c = true) : 48 ≤ c ∧ c ≤ 57 := figs_is c (of_decide_eq_true h)
theorem isF_dig (d : Nat) (h : d < 10) : isF (48 + d) = true := by
  unfold isF
  rw [figs_all]
  have all : ∀ d, d < 10 → decide (48 + d ∈ [48, 49, 50, 51, 52, 53, 54, 55, 56, 57]) = true := by decide
  exact all d h
theorem isL_notF {c : Nat} (h : isL c = true) : isF c = false := by
  cases e : isF c with
  | false => rfl
  | true =>
    have a := isL_of h
    have b := isF_of e
    omega
theorem isF_notL {c : Nat} (h : isF c = true) : isL c = false := by
  cases e : isL c with
  | false => rfl
  | true =>
    have a := isL_of e
    have b := isF_of h
    omega
theorem last_is (s : RS) (z : Str) (h : s.last = z) : isLast s z = true := decide_eq_true h
theorem last_not (s : RS) (z y : Str) (h : s.last = z) (n : z ≠ y) : isLast s y = false := decide_eq_false fun e => n (h.symm.trans e)
/-- a letter or a figure is no bracket, no blank -/
theorem take_sign (s : RS) (c : Nat) (h : 48 ≤ c) : takeR s c = if (isLast s "begun" && goesOn s.begun c) = true then some { s with begun := s.begun ++ one c } else if canBegin s c = true then some { s with begun := one c, last := "begun" } else none := by
  unfold takeR
  rw [one_is c "(" 40 op_is, one_is c ")" 41 cl_is, one_is c " " 32 sp_is, decide_eq_false (show ¬ c = 40 by omega), decide_eq_false (show ¬ c = 41 by omega), decide_eq_false (show ¬ c = 32 by omega)]
  simp only [Bool.false_and]
  rw [if_neg Bool.false_ne_true, if_neg Bool.false_ne_true, if_neg Bool.false_ne_true]
theorem take_open (s : RS) (h : canOpen s = true) : takeR s 40 = some { s with trees := s.trees ++ [[]], last := "open" } := by
  unfold takeR
  rw [one_is 40 "(" 40 op_is, decide_eq_true rfl, h]
  exact if_pos rfl
theorem take_close (s : RS) (h : canPart s = true) : takeR s 41 = some (closeR s) := by
  unfold takeR
  rw [one_is 41 "(" 40 op_is, one_is 41 ")" 41 cl_is, decide_eq_false (show ¬ 41 = 40 by decide), decide_eq_true (show 41 = 41 from rfl), h]
  simp only [Bool.false_and]
  rw [if_neg Bool.false_ne_true]
  exact if_pos rfl
theorem take_blank (s : RS) (h : canPart s = true) : takeR s 32 = some { endB s with last := "blank" } := by
  unfold takeR
  rw [one_is 32 "(" 40 op_is, one_is 32 ")" 41 cl_is, one_is 32 " " 32 sp_is, decide_eq_false (show ¬ 32 = 40 by decide), decide_eq_false (show ¬ 32 = 41 by decide), decide_eq_true (show 32 = 32 from rfl), h]
  simp only [Bool.false_and]
  rw [if_neg Bool.false_ne_true, if_neg Bool.false_ne_true]
  exact if_pos rfl
/-! ### a word is read, a number -/
def str (l : List Nat) : Str := ⟨l.toArray⟩
theorem str_app (a b : List Nat) : str a ++ str b = str (a ++ b) := congrArg Str.mk (by show a.toArray ++ b.toArray = _; simp)
theorem str_tl (z : Str) : str z.cps.toList = z := congrArg Str.mk (Array.toArray_toList)
theorem str_cps (l : List Nat) : (str l).cps.toList = l := by simp [str]
theorem str_len (l : List Nat) : (str l).length = l.length := by
  show l.toArray.size = l.length
  simp
theorem head_word (c : Nat) (l : List Nat) : headF (str (c :: l)) = isF c := by
  unfold headF
  rw [str_cps]
theorem run_word : ∀ (l b : List Nat) (s : RS), s.last = "begun" → s.begun = str b → (∃ c r, b = c :: r ∧ isL c = true) → (∀ c ∈ l, isL c = true) → b.length + l.length ≤ 8 → runR s l = some { s with begun := str (b ++ l) }
  | [], b, s, _, hb, _, _, _ => by
    rw [List.append_nil, ← hb]
    rfl
  | c :: l, b, s, hl, hb, ⟨c0, r, eb, h0⟩, hc, n => by
    have hcc := hc c List.mem_cons_self
    rw [List.length_cons] at n
    have hF : headF s.begun = false := by
      rw [hb, eb, head_word]
      exact isL_notF h0
    have g : goesOn s.begun c = true := by
      unfold goesOn
      rw [hF, if_neg Bool.false_ne_true, hcc, hb, str_len]
      exact decide_eq_true (by omega)
    have e : takeR s c = some { s with begun := s.begun ++ one c } := by
      rw [take_sign s c (by have := isL_of hcc; omega), last_is s _ hl, g]
      exact if_pos rfl
    have e2 : s.begun ++ one c = str (b ++ [c]) := by
      rw [hb, ← str_app]
      rfl
    have ih := run_word l (b ++ [c]) { s with begun := s.begun ++ one c } hl e2 ⟨c0, r ++ [c], by rw [eb]; rfl, h0⟩ (fun x hx => hc x (List.mem_cons_of_mem _ hx)) (by rw [List.length_append]; show b.length + 1 + l.length ≤ 8; omega)
    simp only [runR, e]
    rw [ih, List.append_assoc]
    rfl
theorem take_begin (s : RS) (c : Nat) (h : (s.last = "open" ∧ isL c = true) ∨ (s.last = "blank" ∧ (isL c = true ∨ isF c = true))) : takeR s c = some { s with begun := one c, last := "begun" } := by
  have hc : 48 ≤ c := by
    rcases h with ⟨_, h⟩ | ⟨_, h | h⟩
    · have := isL_of h; omega
    · have := isL_of h; omega
    · have := isF_of h; omega
  rw [take_sign s c hc]
  have nb : isLast s "begun" = false := by
    rcases h with ⟨h, _⟩ | ⟨h, _⟩
    · exact last_not s _ _ h (by decide +kernel)
    · exact last_not s _ _ h (by decide +kernel)
  have cb : canBegin s c = true := by
    unfold canBegin
    rcases h with ⟨h, g⟩ | ⟨h, g⟩
    · rw [last_is s _ h, if_pos rfl]
      exact g
    · rw [last_not s _ "open" h (by decide +kernel), last_is s _ h, if_neg Bool.false_ne_true, Bool.true_and]
      rcases g with g | g <;> rw [g]
      · rfl
      · exact Bool.or_true _
  rw [nb, cb, Bool.false_and, if_neg Bool.false_ne_true]
  exact if_pos rfl
theorem word_codes {z : Str} (h : wordB z = true) : ∃ c r, z = str (c :: r) ∧ (∀ x ∈ c :: r, isL x = true) ∧ (c :: r).length ≤ 8 := by
  unfold wordB at h
  rw [Bool.and_eq_true, Bool.and_eq_true] at h
  obtain ⟨⟨h1, h2⟩, h3⟩ := h
  have l1 := of_decide_eq_true h1
  have l2 := of_decide_eq_true h2
  rw [List.all_eq_true] at h3
  have ln : z.cps.toList.length = z.length := Array.length_toList
  cases e : z.cps.toList with
  | nil =>
    rw [e] at ln
    rw [← ln] at l1
    cases l1
  | cons c r =>
    refine ⟨c, r, ?_, fun x hx => ?_, ?_⟩
    · rw [← e, str_tl]
    · rw [← e] at hx
      exact decide_eq_true (List.contains_iff_mem.mp (h3 x hx))
    · rw [← e, ln]
      exact l2
theorem run_word0 (s : RS) (z : Str) (hz : wordB z = true) (h : s.last = "open" ∨ s.last = "blank") : runR s z.cps.toList = some { s with begun := z, last := "begun" } := by
  obtain ⟨c, r, rfl, hl, hn⟩ := word_codes hz
  rw [str_cps]
  have hc := hl c List.mem_cons_self
  have e : takeR s c = some { s with begun := one c, last := "begun" } := take_begin s c (by
    rcases h with h | h
    · exact .inl ⟨h, hc⟩
    · exact .inr ⟨h, .inl hc⟩)
  simp only [runR, e]
  rw [run_word r [c] { s with begun := one c, last := "begun" } rfl rfl ⟨c, [], rfl, hc⟩ (fun x hx => hl x (List.mem_cons_of_mem _ hx)) (by rw [List.length_cons] at hn; show 1 + r.length ≤ 8; omega)]
  rfl
theorem num_zero : TL.numL 0 = [48] := TL.numL_lt (by decide)
theorem num_head (n : Nat) : headF (str (TL.numL n)) = true := by
  cases e : TL.numL n with
  | nil => exact absurd e (TL.numL_ne n)
  | cons c r =>
    rw [head_word]
    have d := TL.numL_digits n c (by rw [e]; exact List.mem_cons_self)
    obtain ⟨k, rfl⟩ : ∃ k, c = 48 + k := ⟨c - 48, by omega⟩
    exact isF_dig k (by omega)
theorem zero_is : ("0" : Str) = str [48] := by decide +kernel
theorem str_inj {a b : List Nat} (h : str a = str b) : a = b := by
  have e := congrArg (fun z : Str => z.cps.toList) h
  simp only [str_cps] at e
  exact e
theorem run_num (s : RS) (h : s.last = "blank") (k : Nat) (hk : k ≤ 60) : ∀ n : Nat, n < 10 ^ k → runR s (TL.numL n) = some { s with begun := str (TL.numL n), last := "begun" } := by
  induction k with
  | zero =>
    intro n hn
    have e : n = 0 := by simpa using hn
    rw [e, num_zero]
    have e : takeR s 48 = some { s with begun := one 48, last := "begun" } := take_begin s 48 (.inr ⟨h, .inr (isF_dig 0 (by decide))⟩)
    simp only [runR, e]
    rfl
  | succ k ih =>
    intro n hn
    by_cases lt : n < 10
    · rw [TL.numL_lt lt]
      have e : takeR s (48 + n) = some { s with begun := one (48 + n), last := "begun" } := take_begin s _ (.inr ⟨h, .inr (isF_dig n lt)⟩)
      simp only [runR, e]
      rfl
    · have hq : n / 10 < 10 ^ k := by
        rw [Nat.pow_succ] at hn
        omega
      have e1 := ih (by omega) (n / 10) hq
      rw [TL.numL_step (by omega)]
      have hk0 : 0 < k := by
        rcases Nat.eq_zero_or_pos k with z | z
        · rw [z] at hq
          have : n / 10 = 0 := by simpa using hq
          omega
        · exact z
      refine run_two e1 ?_
      have dg : isF (48 + n % 10) = true := isF_dig _ (Nat.mod_lt _ (by decide))
      have ln := TL.numL_len hk0 hq
      have n0 : str (TL.numL (n / 10)) ≠ "0" := fun z => by
        rw [zero_is, ← num_zero] at z
        have := TL.numL_inj (str_inj z)
        omega
      have g : goesOn (str (TL.numL (n / 10))) (48 + n % 10) = true := by
        unfold goesOn
        rw [num_head, if_pos rfl, dg, decide_eq_true n0, str_len]
        exact decide_eq_true (show ((TL.numL (n / 10)).length : Int) < 60 by omega)
      have e2 : takeR { s with begun := str (TL.numL (n / 10)), last := "begun" } (48 + n % 10) = some { s with begun := str (TL.numL (n / 10)) ++ one (48 + n % 10), last := "begun" } := by
        rw [take_sign _ _ (by omega), last_is _ _ rfl]
        show (if (true && goesOn (str (TL.numL (n / 10))) (48 + n % 10)) = true then _ else _) = _
        rw [g]
        exact if_pos rfl
      simp only [runR, e2]
      rw [← str_app]
      rfl
theorem datum_num (n : Nat) (h : n < 10 ^ 60) : datum (str (TL.numL n)) = .int (n : Int) := by
  unfold datum
  have ln := TL.numL_len (by decide : 0 < 60) h
  have e := TL.int_num (n := n) (by omega)
  have e2 : Str.ofString (toString ((n : Nat) : Int)) = str (TL.numL n) := by
    rw [← TL.tl_num n]
    exact (str_tl _).symm
  rw [e2] at e
  rw [num_head, if_pos rfl, e]
  rfl
theorem word_head {z : Str} (h : wordB z = true) : headF z = false := by
  obtain ⟨c, r, rfl, hl, _⟩ := word_codes h
  rw [head_word]
  exact isL_notF (hl c List.mem_cons_self)
theorem datum_word (z : Str) (h : wordB z = true) : datum z = .str z := by
  unfold datum
  rw [word_head h, if_neg Bool.false_ne_true]
/-! ### a tree is read -/
def cs (d : PyData) : List Nat := (txt d).cps.toList
def pc : List PyData → List Nat
  | [] => []
  | p :: ps => 32 :: (cs p ++ pc ps)
theorem one_tl (c : Nat) : (one c).cps.toList = [c] := rfl
theorem glue_pc : ∀ ps : List PyData, tws ps = true → (glue (ps.map itx)).cps.toList = pc ps
  | [], _ => by decide +kernel
  | p :: ps, h => by
    have h2 : (tw p && tws ps) = true := h
    rw [Bool.and_eq_true] at h2
    show (itx p ++ glue (ps.map itx)).cps.toList = 32 :: (cs p ++ pc ps)
    rw [itx_tw h2.1, add_tl, add_tl, glue_pc ps h2.2, sp_is, one_tl]
    rfl
theorem cs_tuple (w : Str) (ps : List PyData) (h : tws ps = true) : cs (.tuple (.str w :: ps)) = 40 :: (w.cps.toList ++ (pc ps ++ [41])) := by
  show ("(" ++ Txt.join " " (w :: txts ps) ++ ")").cps.toList = _
  rw [join_rest w ps h, add_tl, add_tl, add_tl, glue_pc ps h, op_is, cl_is, one_tl, one_tl]
  simp
/-- what a state stands for, once what is begun is put in -/
structure Stands (s : RS) (ts : List (List PyData)) (wh : Option PyData) : Prop where
  can : canPart s = true
  trees : (endB s).trees = ts
  whole : (endB s).whole = wh
theorem endB_begun (s : RS) (h : s.last = "begun") : endB s = { s with trees := pushL s.trees (datum s.begun) } := if_pos (last_is s _ h)
theorem endB_not (s : RS) (z : Str) (h : s.last = z) (n : z ≠ "begun") : endB s = s := by
  unfold endB
  rw [last_not s z _ h n]
  exact if_neg Bool.false_ne_true
theorem stands_begun (s : RS) (ts : List (List PyData)) (ds : List PyData) (z : Str) (d : PyData) (ht : s.trees = ts ++ [ds]) (hd : datum z = d) : Stands { s with begun := z, last := "begun" } (ts ++ [ds ++ [d]]) s.whole := by
  refine ⟨?_, ?_, ?_⟩
  · unfold canPart
    rw [last_is _ _ rfl]
    rfl
  · rw [endB_begun _ rfl]
    show pushL s.trees (datum z) = _
    rw [ht, pushL_app, hd]
  · rw [endB_begun _ rfl]
theorem close_whole (s : RS) (x : List PyData) (wh : Option PyData) (h : Stands s [x] wh) : (closeR s).whole = some (.tuple x) := by
  unfold closeR
  rw [h.trees]
  rfl
theorem close_in (s : RS) (ts : List (List PyData)) (ds x : List PyData) (wh : Option PyData) (h : Stands s (ts ++ [ds] ++ [x]) wh) : Stands (closeR s) (ts ++ [ds ++ [.tuple x]]) wh := by
  have e : closeT (ts ++ [ds] ++ [x]).reverse = some (ts ++ [ds ++ [.tuple x]], none) := by
    rw [List.reverse_append, List.reverse_append]
    show closeT (x :: (ds :: ts.reverse)) = _
    show some (pushL (ds :: ts.reverse).reverse (.tuple x), none) = _
    rw [List.reverse_cons, List.reverse_reverse, pushL_app]
  have e2 : closeR s = { endB s with trees := ts ++ [ds ++ [.tuple x]], last := "closed" } := by
    unfold closeR
    rw [h.trees, e]
  have e3 : endB { endB s with trees := ts ++ [ds ++ [.tuple x]], last := "closed" } = { endB s with trees := ts ++ [ds ++ [.tuple x]], last := "closed" } := endB_not _ "closed" rfl (by decide +kernel)
  rw [e2]
  refine ⟨?_, by rw [e3], by rw [e3]; exact h.whole⟩
  unfold canPart
  rw [last_is _ "closed" rfl]
  show (_ || (true && decide (((ts ++ [ds ++ [PyData.tuple x]]).length : Int) > 0))) = true
  rw [decide_eq_true (by rw [List.length_append]; show ((ts.length + 1 : Nat) : Int) > 0; omega)]
  simp
theorem run_open (s : RS) (w : Str) (ps : List PyData) (hw : wordB w = true) (h : canOpen s = true)
    (P : ∀ s1 : RS, Stands s1 (s.trees ++ [[.str w]]) s.whole → ∃ s2, runR s1 (pc ps) = some s2 ∧ Stands s2 (s.trees ++ [.str w :: ps]) s.whole) :
    ∃ s2, runR s (40 :: (w.cps.toList ++ pc ps)) = some s2 ∧ Stands s2 (s.trees ++ [.str w :: ps]) s.whole := by
  have e1 := take_open s h
  have e2 := run_word0 { s with trees := s.trees ++ [[]], last := "open" } w hw (.inl rfl)
  have st := stands_begun { s with trees := s.trees ++ [[]], last := "open" } s.trees [] w (.str w) rfl (datum_word w hw)
  obtain ⟨s2, r2, st2⟩ := P _ st
  refine ⟨s2, ?_, st2⟩
  simp only [runR, e1]
  exact run_two e2 r2
mutual
theorem run_part : ∀ (d : PyData), tw d = true → ∀ (s : RS) (ts : List (List PyData)) (ds : List PyData), s.last = "blank" → s.trees = ts ++ [ds] → ts.length + 1 + d.depth ≤ 300 → ∃ s', runR s (cs d) = some s' ∧ Stands s' (ts ++ [ds ++ [d]]) s.whole
  | .str z, h, s, ts, ds, hl, ht, _ => ⟨_, run_word0 s z h (.inr hl), stands_begun s ts ds z (.str z) ht (datum_word z h)⟩
  | .int i, h, s, ts, ds, hl, ht, _ => by
    have h2 : (decide (0 ≤ i) && decide (i < 10 ^ 60)) = true := h
    rw [Bool.and_eq_true] at h2
    obtain ⟨n, rfl⟩ := Int.eq_ofNat_of_zero_le (of_decide_eq_true h2.1)
    have hn : n < 10 ^ 60 := by
      have := of_decide_eq_true h2.2
      omega
    have e : cs (.int (n : Int)) = TL.numL n := TL.tl_num n
    rw [e]
    exact ⟨_, run_num s hl 60 (Nat.le_refl _) n hn, stands_begun s ts ds _ (.int (n : Int)) ht (datum_num n hn)⟩
  | .tuple (.str w :: ps), h, s, ts, ds, hl, ht, hd => by
    have h2 : (wordB w && tws ps) = true := h
    rw [Bool.and_eq_true] at h2
    have dd : (PyData.tuple (.str w :: ps)).depth = max 0 (PyData.depthAll ps) + 1 := rfl
    rw [dd] at hd
    have co : canOpen s = true := by
      unfold canOpen
      rw [last_not s _ "start" hl (by decide +kernel), last_is s _ hl, ht, List.length_append]
      show (false || (true && decide (((ts.length + 1 : Nat) : Int) < 300))) = true
      rw [decide_eq_true (by omega)]
      rfl
    obtain ⟨s2, r2, st2⟩ := run_open s w ps h2.1 co fun s1 st1 => run_parts ps h2.2 s1 s.trees [.str w] s.whole st1 (by rw [ht, List.length_append]; show ts.length + 1 + 1 + PyData.depthAll ps ≤ 300; omega)
    rw [ht] at st2
    have tk := take_close s2 st2.can
    refine ⟨closeR s2, ?_, close_in s2 ts ds _ _ st2⟩
    rw [cs_tuple w ps h2.2, ← List.append_assoc, ← List.cons_append]
    refine run_two r2 ?_
    simp only [runR, tk]
  | .tuple (.int _ :: _), h, _, _, _, _, _, _ => (Bool.false_ne_true h).elim
  | .tuple (.tuple _ :: _), h, _, _, _, _, _, _ => (Bool.false_ne_true h).elim
  | .tuple (.list _ :: _), h, _, _, _, _, _, _ => (Bool.false_ne_true h).elim
  | .tuple (.none :: _), h, _, _, _, _, _, _ => (Bool.false_ne_true h).elim
  | .tuple (.bool _ :: _), h, _, _, _, _, _, _ => (Bool.false_ne_true h).elim
  | .tuple (.dict _ :: _), h, _, _, _, _, _, _ => (Bool.false_ne_true h).elim
  | .tuple [], h, _, _, _, _, _, _ => (Bool.false_ne_true h).elim
  | .list _, h, _, _, _, _, _, _ => (Bool.false_ne_true h).elim
  | .none, h, _, _, _, _, _, _ => (Bool.false_ne_true h).elim
  | .bool _, h, _, _, _, _, _, _ => (Bool.false_ne_true h).elim
  | .dict _, h, _, _, _, _, _, _ => (Bool.false_ne_true h).elim
theorem run_parts : ∀ (ps : List PyData), tws ps = true → ∀ (s : RS) (ts : List (List PyData)) (ds : List PyData) (wh : Option PyData), Stands s (ts ++ [ds]) wh → ts.length + 1 + PyData.depthAll ps ≤ 300 → ∃ s', runR s (pc ps) = some s' ∧ Stands s' (ts ++ [ds ++ ps]) wh
  | [], _, s, ts, ds, wh, st, _ => ⟨s, rfl, by rw [List.append_nil]; exact st⟩
  | p :: ps, h, s, ts, ds, wh, st, hd => by
    have h2 : (tw p && tws ps) = true := h
    rw [Bool.and_eq_true] at h2
    have dd : PyData.depthAll (p :: ps) = max p.depth (PyData.depthAll ps) := rfl
    rw [dd] at hd
    have tk := take_blank s st.can
    obtain ⟨s2, r2, st2⟩ := run_part p h2.1 { endB s with last := "blank" } ts ds rfl st.trees (by omega)
    have st2' : Stands s2 (ts ++ [ds ++ [p]]) wh := by
      have e : ({ endB s with last := "blank" } : RS).whole = wh := st.whole
      rw [e] at st2
      exact st2
    obtain ⟨s3, r3, st3⟩ := run_parts ps h2.2 s2 ts (ds ++ [p]) wh st2' (by omega)
    rw [List.append_assoc] at st3
    refine ⟨s3, ?_, st3⟩
    show runR s (32 :: (cs p ++ pc ps)) = some s3
    simp only [runR, tk]
    exact run_two r2 r3
end
/-- nothing is read -/
def rs0 : RS := ⟨[], "", "start", none⟩
theorem run_tree (w : Str) (ps : List PyData) (h : tw (.tuple (.str w :: ps)) = true) (hd : (PyData.tuple (.str w :: ps)).depth ≤ 300) : ∃ s', runR rs0 (cs (.tuple (.str w :: ps))) = some s' ∧ s'.whole = some (.tuple (.str w :: ps)) := by
  have h2 : (wordB w && tws ps) = true := h
  rw [Bool.and_eq_true] at h2
  have dd : (PyData.tuple (.str w :: ps)).depth = max 0 (PyData.depthAll ps) + 1 := rfl
  rw [dd] at hd
  have co : canOpen rs0 = true := by
    unfold canOpen
    rw [last_is rs0 "start" rfl]
    rfl
  obtain ⟨s2, r2, st2⟩ := run_open rs0 w ps h2.1 co fun s1 st1 => run_parts ps h2.2 s1 [] [.str w] none st1 (by show 0 + 1 + PyData.depthAll ps ≤ 300; omega)
  have tk := take_close s2 st2.can
  refine ⟨closeR s2, ?_, close_whole s2 _ _ st2⟩
  rw [cs_tuple w ps h2.2, ← List.append_assoc, ← List.cons_append]
  refine run_two r2 ?_
  simp only [runR, tk]
end Kf
set_option Elab.async false
set_option linter.all false
set_option maxRecDepth 100000
set_option maxHeartbeats 4000000
set_option pp.maxSteps 600
/-! How great what is read becomes. -/
namespace Kf
open PySem PySem.Spec PyProof.Rows L2 Sx
def mass (ts : List (List PyData)) : Nat := (ts.map List.length).sum + ts.length
theorem mass_app (a b : List (List PyData)) : mass (a ++ b) = mass a + mass b := by
  unfold mass
  rw [List.map_append, List.sum_append, List.length_append]
  omega
theorem mass_one (x : List PyData) : mass [x] = x.length + 1 := by
  show x.length + 0 + 1 = _
  omega
/-- what is begun: a number or a word -/
def Begun (b : Str) : Prop := (∃ k, b = str (TL.numL k) ∧ (TL.numL k).length ≤ 60) ∨ ∃ c r, b = str (c :: r) ∧ (∀ x ∈ c :: r, isL x = true) ∧ (c :: r).length ≤ 8
structure Wf (s : RS) (n : Nat) : Prop where
  mass : mass s.trees ≤ n
  beg : s.last = "begun" → s.trees ≠ [] ∧ Begun s.begun
  blk : s.last = "blank" ∨ s.last = "open" → s.trees ≠ []
theorem pushL_ne {ts : List (List PyData)} (d : PyData) (h : ts ≠ []) : ∃ a x, ts = a ++ [x] ∧ pushL ts d = a ++ [x ++ [d]] := by
  rcases List.eq_nil_or_concat ts with e | ⟨a, x, e⟩
  · exact absurd e h
  · rw [List.concat_eq_append] at e
    exact ⟨a, x, e, by rw [e, pushL_app]⟩
theorem pushL_mass {ts : List (List PyData)} (d : PyData) (h : ts ≠ []) : mass (pushL ts d) = mass ts + 1 ∧ pushL ts d ≠ [] := by
  obtain ⟨a, x, e, e2⟩ := pushL_ne d h
  rw [e2, e, mass_app, mass_app, mass_one, mass_one, List.length_append]
  exact ⟨by show mass a + (x.length + 1 + 1) = _; omega, by simp⟩
theorem endB_mass {s : RS} {n : Nat} (w : Wf s n) : mass (endB s).trees ≤ n + 1 ∧ (s.trees ≠ [] → (endB s).trees ≠ []) := by
  by_cases h : s.last = "begun"
  · obtain ⟨ne, _⟩ := w.beg h
    obtain ⟨m, q⟩ := pushL_mass (datum s.begun) ne
    rw [endB_begun s h]
    exact ⟨by show mass (pushL s.trees (datum s.begun)) ≤ _; have := w.mass; omega, fun _ => q⟩
  · rw [endB_not s _ rfl h]
    exact ⟨Nat.le_succ_of_le w.mass, fun z => z⟩
theorem canPart_ne {s : RS} {n : Nat} (w : Wf s n) (h : canPart s = true) : s.trees ≠ [] := by
  unfold canPart at h
  rw [Bool.or_eq_true, Bool.and_eq_true] at h
  rcases h with h | ⟨_, h⟩
  · exact (w.beg (of_decide_eq_true h)).1
  · intro e
    have z := of_decide_eq_true h
    rw [e] at z
    exact absurd z (by decide)
theorem num_more {k d : Nat} (hd : d < 10) (k0 : k ≠ 0) : TL.numL k ++ [48 + d] = TL.numL (10 * k + d) := by
  have e := TL.numL_step (n := 10 * k + d) (by omega)
  rw [show (10 * k + d) / 10 = k by omega, show (10 * k + d) % 10 = d by omega] at e
  exact e.symm
theorem goes_begun {b : Str} {c : Nat} (h : Begun b) (g : goesOn b c = true) : Begun (b ++ one c) := by
  unfold goesOn at g
  rcases h with ⟨k, rfl, hk⟩ | ⟨x, r, rfl, hl, hn⟩
  · rw [num_head, if_pos rfl, Bool.and_eq_true, Bool.and_eq_true] at g
    obtain ⟨g1, g2, g3⟩ := g
    have n0 := of_decide_eq_true g2
    have n60 := of_decide_eq_true g3
    rw [str_len] at n60
    have cd := isF_of g1
    obtain ⟨d, rfl⟩ : ∃ d, c = 48 + d := ⟨c - 48, by omega⟩
    have k0 : k ≠ 0 := fun z => n0 (by rw [z, num_zero, zero_is])
    refine .inl ⟨10 * k + d, ?_, ?_⟩
    · rw [← num_more (by omega) k0, ← str_app]
      rfl
    · rw [← num_more (by omega) k0, List.length_append]
      show (TL.numL k).length + 1 ≤ 60
      omega
  · have hx := hl x List.mem_cons_self
    rw [head_word, isL_notF hx, if_neg Bool.false_ne_true, Bool.and_eq_true] at g
    have n8 := of_decide_eq_true g.2
    rw [str_len] at n8
    refine .inr ⟨x, r ++ [c], ?_, ?_, ?_⟩
    · show str (x :: r) ++ str [c] = _
      rw [str_app]
      rfl
    · intro y hy
      rw [← List.cons_append] at hy
      rcases List.mem_append.mp hy with hy | hy
      · exact hl y hy
      · rw [List.mem_singleton.mp hy]
        exact g.1
    · rw [← List.cons_append, List.length_append]
      show (x :: r).length + 1 ≤ 8
      omega
theorem begin_begun {c : Nat} (h : isL c = true ∨ isF c = true) : Begun (one c) := by
  rcases h with h | h
  · exact .inr ⟨c, [], rfl, fun x hx => by rw [List.mem_singleton.mp hx]; exact h, by show 1 ≤ 8; decide⟩
  · have cd := isF_of h
    obtain ⟨d, rfl⟩ : ∃ d, c = 48 + d := ⟨c - 48, by omega⟩
    refine .inl ⟨d, ?_, ?_⟩
    · rw [TL.numL_lt (by omega)]
      rfl
    · rw [TL.numL_lt (by omega)]
      show 1 ≤ 60
      decide
theorem closeR_eq {s : RS} {n : Nat} (w : Wf s n) (h : canPart s = true) : ∃ a x, (endB s).trees = a ++ [x] ∧
    closeR s = (if a = [] then { endB s with trees := [], whole := some (.tuple x), last := "closed" } else { endB s with trees := pushL a (.tuple x), last := "closed" }) := by
  have ne := (endB_mass w).2 (canPart_ne w h)
  rcases List.eq_nil_or_concat (endB s).trees with e | ⟨a, x, e⟩
  · exact absurd e ne
  rw [List.concat_eq_append] at e
  refine ⟨a, x, e, ?_⟩
  unfold closeR
  rw [e, List.reverse_append]
  show (match closeT (x :: a.reverse) with | none => s | some (ts, some t) => _ | some (ts, none) => _) = _
  cases er : a.reverse with
  | nil =>
    have ea : a = [] := List.reverse_eq_nil_iff.mp er
    rw [if_pos ea]
    rfl
  | cons y r =>
    have ea : a ≠ [] := fun z => by
      rw [z] at er
      cases er
    rw [if_neg ea]
    show ({ endB s with trees := pushL (y :: r).reverse (.tuple x), last := "closed" } : RS) = _
    rw [← er, List.reverse_reverse]
theorem opNb : ¬ ("open" : Str) = "begun" := by decide +kernel
theorem clNb : ¬ ("closed" : Str) = "begun" := by decide +kernel
theorem blNb : ¬ ("blank" : Str) = "begun" := by decide +kernel
theorem clN : ¬ (("closed" : Str) = "blank" ∨ ("closed" : Str) = "open") := by decide +kernel
theorem bgN : ¬ (("begun" : Str) = "blank" ∨ ("begun" : Str) = "open") := by decide +kernel
theorem wf_take {s s' : RS} {c n : Nat} (w : Wf s n) (h : takeR s c = some s') : Wf s' (n + 1) := by
  unfold takeR at h
  have eb := endB_mass w
  split at h
  · rename_i g
    cases h
    refine ⟨?_, fun z => (opNb z).elim, fun _ => by simp⟩
    rw [mass_app]
    show mass s.trees + 1 ≤ n + 1
    have := w.mass
    omega
  split at h
  · rename_i g
    cases h
    rw [Bool.and_eq_true] at g
    obtain ⟨a, x, e, e2⟩ := closeR_eq w g.2
    rw [e2]
    have m := eb.1
    rw [e, mass_app, mass_one] at m
    split
    · exact ⟨Nat.zero_le _, fun z => (clNb z).elim, fun z => (clN z).elim⟩
    · rename_i ne
      refine ⟨?_, fun z => (clNb z).elim, fun z => (clN z).elim⟩
      show mass (pushL a (.tuple x)) ≤ n + 1
      rw [(pushL_mass (.tuple x) ne).1]
      omega
  split at h
  · rename_i g
    cases h
    rw [Bool.and_eq_true] at g
    exact ⟨eb.1, fun z => (blNb z).elim, fun _ => eb.2 (canPart_ne w g.2)⟩
  split at h
  · rename_i g
    cases h
    rw [Bool.and_eq_true] at g
    have lb := of_decide_eq_true g.1
    obtain ⟨ne, b⟩ := w.beg lb
    refine ⟨Nat.le_succ_of_le w.mass, fun _ => ⟨ne, goes_begun b g.2⟩, fun z => ?_⟩
    have z' : s.last = "blank" ∨ s.last = "open" := z
    rw [lb] at z'
    exact (bgN z').elim
  split at h
  · rename_i g
    cases h
    unfold canBegin at g
    have cl : (s.last = "blank" ∨ s.last = "open") ∧ (isL c = true ∨ isF c = true) := by
      split at g
      · rename_i q
        exact ⟨.inr (of_decide_eq_true q), .inl g⟩
      · rw [Bool.and_eq_true, Bool.or_eq_true] at g
        exact ⟨.inl (of_decide_eq_true g.1), g.2⟩
    exact ⟨Nat.le_succ_of_le w.mass, fun _ => ⟨w.blk cl.1, begin_begun cl.2⟩, fun z => (bgN z).elim⟩
  · cases h
theorem wf_0 : Wf rs0 0 := ⟨Nat.le_refl _, fun z => absurd z (by decide +kernel), fun z => absurd z (by decide +kernel)⟩
theorem wf_run : ∀ (l : List Nat) {s s' : RS} {n : Nat}, Wf s n → runR s l = some s' → Wf s' (n + l.length)
  | [], s, s', n, w, h => by
    cases h
    exact w
  | c :: l, s, s', n, w, h => by
    simp only [runR] at h
    cases e : takeR s c with
    | none =>
      rw [e] at h
      cases h
    | some s1 =>
      rw [e] at h
      have z := wf_run l (wf_take w e) h
      rw [List.length_cons, show n + (l.length + 1) = n + 1 + l.length by omega]
      exact z
/-- what int tells of a number begun -/
theorem begun_int {b : Str} (h : Begun b) (f : headF b = true) : ∃ n : Int, intText? b = some n ∧ datum b = .int n ∧ b.length ≤ 60 := by
  rcases h with ⟨k, rfl, hk⟩ | ⟨x, r, rfl, hl, _⟩
  · have e := TL.int_num (n := k) (by omega)
    have e2 : Str.ofString (toString ((k : Nat) : Int)) = str (TL.numL k) := by
      rw [← TL.tl_num k]
      exact (str_tl _).symm
    rw [e2] at e
    refine ⟨_, e, ?_, by rw [str_len]; exact hk⟩
    unfold datum
    rw [f, if_pos rfl, e]
    rfl
  · rw [head_word, isL_notF (hl x List.mem_cons_self)] at f
    cases f
theorem begun_ne {b : Str} (h : Begun b) : ∃ c r, b = str (c :: r) ∧ headF b = isF c ∧ b.length ≤ 60 := by
  rcases h with ⟨k, rfl, hk⟩ | ⟨x, r, rfl, hl, hn⟩
  · cases e : TL.numL k with
    | nil => exact absurd e (TL.numL_ne k)
    | cons c r => exact ⟨c, r, rfl, head_word c r, by rw [str_len, ← e]; exact hk⟩
  · exact ⟨x, r, rfl, head_word x r, by rw [str_len]; omega⟩
end Kf
set_option Elab.async false
set_option linter.all false
set_option maxRecDepth 100000
set_option maxHeartbeats 8000000
set_option pp.maxSteps 500
/-! The reader's methods. -/
namespace Kf
open PySem PySem.Spec PyProof.Rows L2 Sx
abbrev sGoes : Stmt := top 11
abbrev goesN : List Str := ["begun", "sign"]
theorem scGoes : FnScope goesN ["begun", "sign"] (defScope sGoes) := ⟨rfl, rfl, rfl, by decide +kernel, rfl, by decide +kernel, by decide +kernel⟩
abbrev sInit : Stmt := inClass (top 12) 0
abbrev initN : List Str := ["self"]
theorem scInit : FnScope initN ["self"] (defScope sInit) := ⟨rfl, rfl, rfl, by decide +kernel, rfl, by decide +kernel, by decide +kernel⟩
abbrev sCanOpen : Stmt := inClass (top 12) 1
abbrev canOpenN : List Str := ["self"]
theorem scCanOpen : FnScope canOpenN ["self"] (defScope sCanOpen) := ⟨rfl, rfl, rfl, by decide +kernel, rfl, by decide +kernel, by decide +kernel⟩
abbrev sCanBegin : Stmt := inClass (top 12) 2
abbrev canBeginN : List Str := ["self", "sign"]
theorem scCanBegin : FnScope canBeginN ["self", "sign"] (defScope sCanBegin) := ⟨rfl, rfl, rfl, by decide +kernel, rfl, by decide +kernel, by decide +kernel⟩
abbrev sCanPart : Stmt := inClass (top 12) 3
abbrev canPartN : List Str := ["self"]
theorem scCanPart : FnScope canPartN ["self"] (defScope sCanPart) := ⟨rfl, rfl, rfl, by decide +kernel, rfl, by decide +kernel, by decide +kernel⟩
abbrev sEndBegun : Stmt := inClass (top 12) 4
abbrev endBegunN : List Str := ["self"]
theorem scEndBegun : FnScope endBegunN ["self"] (defScope sEndBegun) := ⟨rfl, rfl, rfl, by decide +kernel, rfl, by decide +kernel, by decide +kernel⟩
abbrev sClose : Stmt := inClass (top 12) 5
abbrev closeN : List Str := ["self", "tree"]
theorem scClose : FnScope closeN ["self"] (defScope sClose) := ⟨rfl, rfl, rfl, by decide +kernel, rfl, by decide +kernel, by decide +kernel⟩
abbrev sTake : Stmt := inClass (top 12) 6
abbrev takeN : List Str := ["self", "sign"]
theorem scTake : FnScope takeN ["self", "sign"] (defScope sTake) := ⟨rfl, rfl, rfl, by decide +kernel, rfl, by decide +kernel, by decide +kernel⟩
/-! ### fields -/
def rf (l : Addr) (b ls : Str) (v : V) : List (Str × V) := [("trees", .ref l), ("begun", .str b), ("last", .str ls), ("whole", v)]
theorem n_bt : (("begun" : Str) == "trees") = false := by decide +kernel
theorem n_lt : (("last" : Str) == "trees") = false := by decide +kernel
theorem n_lb : (("last" : Str) == "begun") = false := by decide +kernel
theorem n_wt : (("whole" : Str) == "trees") = false := by decide +kernel
theorem n_wb : (("whole" : Str) == "begun") = false := by decide +kernel
theorem n_wl : (("whole" : Str) == "last") = false := by decide +kernel
theorem rf_T (l : Addr) (b ls : Str) (v : V) : (rf l b ls v).lookup ("trees" : Str) = some (.ref l) := by
  unfold rf
  rw [List.lookup_cons, beq_self_eq_true]
theorem rf_B (l : Addr) (b ls : Str) (v : V) : (rf l b ls v).lookup ("begun" : Str) = some (.str b) := by
  unfold rf
  rw [List.lookup_cons, n_bt, List.lookup_cons, beq_self_eq_true]
theorem rf_L (l : Addr) (b ls : Str) (v : V) : (rf l b ls v).lookup ("last" : Str) = some (.str ls) := by
  unfold rf
  rw [List.lookup_cons, n_lt, List.lookup_cons, n_lb, List.lookup_cons, beq_self_eq_true]
theorem rf_W (l : Addr) (b ls : Str) (v : V) : (rf l b ls v).lookup ("whole" : Str) = some v := by
  unfold rf
  rw [List.lookup_cons, n_wt, List.lookup_cons, n_wb, List.lookup_cons, n_wl, List.lookup_cons, beq_self_eq_true]
theorem rf_no (l : Addr) (b ls : Str) (v : V) (m : Str) (h : [("trees" : Str), "begun", "last", "whole"].contains m = false) : (rf l b ls v).lookup m = none := by
  have ne : ∀ x ∈ [("trees" : Str), "begun", "last", "whole"], (m == x) = false := fun x hx => by
    cases e : m == x with
    | false => rfl
    | true =>
      rw [List.contains_iff_mem.mpr (by rw [eq_of_beq e]; exact hx)] at h
      cases h
  unfold rf
  rw [List.lookup_cons, ne _ (by simp), List.lookup_cons, ne _ (by simp), List.lookup_cons, ne _ (by simp), List.lookup_cons, ne _ (by simp)]
  rfl
theorem ne_of_beq {a b : Str} (h : (a == b) = false) : ¬ b = a := fun e => by
  rw [e, beq_self_eq_true] at h
  cases h
theorem put_B (l : Addr) (b ls : Str) (v : V) (c : Str) : putF "begun" (.str c) (rf l b ls v) = rf l c ls v := by
  show (if ("trees" : Str) = "begun" then _ else (("trees" : Str), V.ref l) :: (if ("begun" : Str) = "begun" then _ else _)) = _
  rw [if_neg (ne_of_beq n_bt), if_pos rfl]
  rfl
theorem put_L (l : Addr) (b ls : Str) (v : V) (c : Str) : putF "last" (.str c) (rf l b ls v) = rf l b c v := by
  show (if ("trees" : Str) = "last" then _ else (("trees" : Str), V.ref l) :: (if ("begun" : Str) = "last" then _ else (("begun" : Str), V.str b) :: (if ("last" : Str) = "last" then _ else _))) = _
  rw [if_neg (ne_of_beq n_lt), if_neg (ne_of_beq n_lb), if_pos rfl]
  rfl
theorem put_W (l : Addr) (b ls : Str) (v : V) (c : V) : putF "whole" c (rf l b ls v) = rf l b ls c := by
  show (if ("trees" : Str) = "whole" then _ else (("trees" : Str), V.ref l) :: (if ("begun" : Str) = "whole" then _ else (("begun" : Str), V.str b) :: (if ("last" : Str) = "whole" then _ else (("last" : Str), V.str ls) :: (if ("whole" : Str) = "whole" then _ else _)))) = _
  rw [if_neg (ne_of_beq n_wt), if_neg (ne_of_beq n_wb), if_neg (ne_of_beq n_wl), if_pos rfl]
  rfl
theorem rf_few (l : Addr) (b ls : Str) (v : V) : (rf l b ls v).length < 1000 := by show 4 < 1000; decide
/-! ### what stands in the heap -/
/-- the tuples alone -/
def tups (H : Hp) : Hp := fun a => match H a with
  | some (.tup xs) => some (.tup xs)
  | _ => none
theorem tups_is {H : Hp} {a : Addr} {o : HO} (h : tups H a = some o) : ∃ xs, o = .tup xs ∧ H a = some (.tup xs) := by
  unfold tups at h
  split at h
  · rename_i xs e
    cases h
    exact ⟨xs, rfl, e⟩
  · cases h
theorem tups_of {H : Hp} {a : Addr} {xs : List V} (h : H a = some (.tup xs)) : tups H a = some (.tup xs) := by
  unfold tups
  rw [h]
theorem tups_le {H H' : Hp} (k : Tups H H') : Same (tups H) (tups H') := fun a o e => by
  obtain ⟨xs, rfl, h⟩ := tups_is e
  exact tups_of (k _ _ h)
theorem tups_in {H : Hp} : Same (tups H) H := fun a o e => by
  obtain ⟨xs, rfl, h⟩ := tups_is e
  exact h
/-- an open tree: a list -/
def OpenL (K : PySem.W.Frag) (H : Hp) (r : Addr) (ds : List PyData) : Prop := ∃ vs, H r = some (.lst vs) ∧ DpAll K (tups H) vs ds
def WholeAt (K : PySem.W.Frag) (H : Hp) (v : V) (w : Option PyData) : Prop := (v = .non ∧ w = none) ∨ ∃ ds, w = some (.tuple ds) ∧ Dp K (tups H) v (.tuple ds)
structure RdIn (K : PySem.W.Frag) (C : Addr) (H0 H : Hp) (p dx l : Addr) (rs : List Addr) (v : V) (s : RS) : Prop where
  same : Same H0 H
  ho : H p = some (.ins C dx (rf l s.begun s.last v))
  hl : H l = some (.lst (rs.map V.ref))
  op : All2 (OpenL K H) rs s.trees
  wh : WholeAt K H v s.whole
  nl : l ∉ rs
  nd : rs.Nodup
  p0 : H0 p = none
  l0 : H0 l = none
  r0 : ∀ r ∈ rs, H0 r = none
def RdAt (K : PySem.W.Frag) (C : Addr) (H0 H : Hp) (p : Addr) (s : RS) : Prop := ∃ dx l rs v, RdIn K C H0 H p dx l rs v s
section
variable {K : PySem.W.Frag} {C : Addr} {H0 H : Hp} {p dx l : Addr} {rs : List Addr} {v : V} {s : RS}
theorem OpenL.keep {H' : Hp} {r : Addr} {ds : List PyData} (k : Tups H H') (n : ∀ xs, H r = some (.lst xs) → H' r = some (.lst xs)) (h : OpenL K H r ds) : OpenL K H' r ds := by
  obtain ⟨vs, e, a⟩ := h
  exact ⟨vs, n _ e, dps_up (tups_le k) _ _ a⟩
theorem WholeAt.keep {H' : Hp} {w : Option PyData} (k : Tups H H') (h : WholeAt K H v w) : WholeAt K H' v w := by
  rcases h with h | ⟨ds, e, a⟩
  · exact .inl h
  · exact .inr ⟨ds, e, dp_up (tups_le k) _ _ a⟩
theorem tups_lst {q : Addr} {xs : List V} {o : HO} (h : H q = some (.lst xs)) : Tups H (upd H q o) := tups_put fun ys e => by
  rw [h] at e
  cases e
theorem tups_ins {q C dx : Addr} {fs : List (Str × V)} {o : HO} (h : H q = some (.ins C dx fs)) : Tups H (upd H q o) := tups_put fun ys e => by
  rw [h] at e
  cases e
theorem all2_mono2 {α β : Type} {F G : α → β → Prop} : ∀ {xs : List α} {ys : List β}, (∀ a ∈ xs, ∀ b, F a b → G a b) → All2 F xs ys → All2 G xs ys
  | _, _, _, .nil => .nil
  | _, _, h, .cons r t => .cons (h _ List.mem_cons_self _ r) (all2_mono2 (fun a ha => h a (List.mem_cons_of_mem _ ha)) t)
theorem RdIn.pl (R : RdIn K C H0 H p dx l rs v s) : p ≠ l := ne_of R.ho R.hl (by intro z; cases z)
theorem all2_mem {α β : Type} {F : α → β → Prop} : ∀ {xs : List α} {ys : List β} {a : α}, All2 F xs ys → a ∈ xs → ∃ b, F a b
  | _, _, _, .nil, h => nomatch h
  | _, _, _, .cons r t, h => by
    rcases List.mem_cons.mp h with rfl | h
    · exact ⟨_, r⟩
    · exact all2_mem t h
theorem RdIn.lst (R : RdIn K C H0 H p dx l rs v s) {r : Addr} (h : r ∈ rs) : ∃ vs, H r = some (.lst vs) := by
  obtain ⟨ds, vs, e, _⟩ := all2_mem R.op h
  exact ⟨vs, e⟩
theorem RdIn.pr (R : RdIn K C H0 H p dx l rs v s) {r : Addr} (h : r ∈ rs) : p ≠ r := by
  obtain ⟨vs, e⟩ := R.lst h
  exact ne_of R.ho e (by intro z; cases z)
/-- other fields -/
theorem RdIn.fields (R : RdIn K C H0 H p dx l rs v s) (b ls : Str) (v2 : V) (w2 : Option PyData) (h : WholeAt K H v2 w2) : RdIn K C H0 (upd H p (.ins C dx (rf l b ls v2))) p dx l rs v2 { s with begun := b, last := ls, whole := w2 } := by
  have k : Tups H (upd H p (.ins C dx (rf l b ls v2))) := tups_ins R.ho
  refine ⟨same_own R.same R.p0, upd_same, ?_, ?_, h.keep k, R.nl, R.nd, R.p0, R.l0, R.r0⟩
  · rw [upd_ne R.pl.symm]
    exact R.hl
  · exact all2_mono2 (fun a ha ds ho => ho.keep k fun xs e => by rw [upd_ne (R.pr ha).symm]; exact e) R.op
/-- a thing more in the innermost tree -/
theorem RdIn.push {rs0 : List Addr} {r : Addr} {vs : List V} {x : V} {d : PyData} (R : RdIn K C H0 H p dx l (rs0 ++ [r]) v s) (e : H r = some (.lst vs)) (hx : Dp K (tups H) x d) : RdIn K C H0 (upd H r (.lst (vs ++ [x]))) p dx l (rs0 ++ [r]) v { s with trees := pushL s.trees d } := by
  have k : Tups H (upd H r (.lst (vs ++ [x]))) := tups_lst e
  have mr : r ∈ rs0 ++ [r] := List.mem_append.mpr (.inr (List.mem_singleton.mpr rfl))
  have nlr : l ≠ r := fun z => R.nl (by rw [z]; exact mr)
  obtain ⟨n1, n2, n3⟩ := List.nodup_append.mp R.nd
  have nr : ∀ a ∈ rs0, a ≠ r := fun a ha => n3 a ha r (List.mem_singleton.mpr rfl)
  refine ⟨same_own R.same (R.r0 r mr), ?_, ?_, ?_, R.wh.keep k, R.nl, R.nd, R.p0, R.l0, R.r0⟩
  · rw [upd_ne (R.pr mr)]
    exact R.ho
  · rw [upd_ne nlr]
    exact R.hl
  · have op := R.op
    rcases List.eq_nil_or_concat s.trees with z | ⟨a, y, z⟩
    · rw [z] at op
      have ln := op.len
      rw [List.length_append] at ln
      cases ln
    · rw [List.concat_eq_append] at z
      rw [z] at op
      obtain ⟨k0, x0, e0, op0, ⟨vs2, e2, a2⟩⟩ := op.last
      have e3 := List.append_inj' e0 rfl
      obtain ⟨rfl, e4⟩ := e3
      injection e4 with e5
      subst e5
      rw [e] at e2
      cases e2
      show All2 _ _ (pushL s.trees d)
      rw [z, pushL_app]
      refine (all2_mono2 (fun a ha ds ho => ho.keep k fun xs e => ?_) op0).app (.one ⟨_, upd_same, dps_app (dps_up (tups_le k) _ _ a2) (.cons (dp_up (tups_le k) _ _ hx) .nil)⟩)
      rw [upd_ne (nr a ha)]
      exact e
/-- a tree more -/
theorem RdIn.opn {r : Addr} (R : RdIn K C H0 H p dx l rs v s) (nr : H r = none) : RdIn K C H0 (upd (upd H r (.lst [])) l (.lst (rs.map V.ref ++ [.ref r]))) p dx l (rs ++ [r]) v { s with trees := s.trees ++ [[]] } := by
  have s1 := same_new (o := .lst []) nr
  have nlr : l ≠ r := ne_of_none R.hl nr
  have npr : p ≠ r := ne_of_none R.ho nr
  have hl1 := s1 _ _ R.hl
  have k : Tups H (upd (upd H r (.lst [])) l (.lst (rs.map V.ref ++ [.ref r]))) := (tups_same s1).trans (tups_lst hl1)
  have nin : r ∉ rs := fun z => by
    obtain ⟨vs, e⟩ := R.lst z
    rw [nr] at e
    cases e
  have nr0 : H0 r = none := R.same.free nr
  refine ⟨same_own (same_own R.same nr0) R.l0, ?_, ?_, ?_, R.wh.keep k, ?_, ?_, R.p0, R.l0, ?_⟩
  · rw [upd_ne R.pl, upd_ne npr]
    exact R.ho
  · rw [upd_same, List.map_append]
    rfl
  · refine (all2_mono2 (fun a ha ds ho => ho.keep k fun xs e => ?_) R.op).app (.one ⟨[], by rw [upd_ne nlr.symm, upd_same], .nil⟩)
    rw [upd_ne (fun z => R.nl (by rw [← z]; exact ha)), upd_ne (fun z => nin (by rw [← z]; exact ha))]
    exact e
  · intro z
    rcases List.mem_append.mp z with z | z
    · exact R.nl z
    · exact nlr (List.mem_singleton.mp z)
  · exact List.nodup_append.mpr ⟨R.nd, List.nodup_cons.mpr ⟨List.not_mem_nil, List.nodup_nil⟩, fun a ha b hb => fun z => nin (by rw [← List.mem_singleton.mp hb, ← z]; exact ha)⟩
  · intro a ha
    rcases List.mem_append.mp ha with ha | ha
    · exact R.r0 a ha
    · rw [List.mem_singleton.mp ha]
      exact nr0
/-- the innermost tree is taken out -/
theorem RdIn.pop {rs0 : List Addr} {r : Addr} {a : List (List PyData)} {x : List PyData} (R : RdIn K C H0 H p dx l (rs0 ++ [r]) v s) (e : s.trees = a ++ [x]) : RdIn K C H0 (upd H l (.lst (rs0.map V.ref))) p dx l rs0 v { s with trees := a } ∧ ∃ vs, H r = some (.lst vs) ∧ DpAll K (tups H) vs x := by
  have k : Tups H (upd H l (.lst (rs0.map V.ref))) := tups_lst R.hl
  have op := R.op
  rw [e] at op
  obtain ⟨k0, x0, e0, op0, hx⟩ := op.last
  obtain ⟨rfl, e4⟩ := List.append_inj' e0 rfl
  injection e4 with e5
  subst e5
  obtain ⟨n1, n2, n3⟩ := List.nodup_append.mp R.nd
  refine ⟨⟨same_own R.same R.l0, ?_, upd_same, ?_, R.wh.keep k, fun z => R.nl (List.mem_append.mpr (.inl z)), n1, R.p0, R.l0, fun a ha => R.r0 a (List.mem_append.mpr (.inl ha))⟩, hx⟩
  · rw [upd_ne R.pl]
    exact R.ho
  · refine all2_mono2 (fun b hb ds ho => ho.keep k fun xs e => ?_) op0
    rw [upd_ne (fun z => R.nl (by rw [← z]; exact List.mem_append.mpr (.inl hb)))]
    exact e
/-- a new thing beside it -/
theorem RdIn.new {q : Addr} {o : HO} (R : RdIn K C H0 H p dx l rs v s) (nq : H q = none) : RdIn K C H0 (upd H q o) p dx l rs v s := by
  have s1 := same_new (o := o) nq
  have k := tups_same s1
  exact ⟨R.same.trans s1, s1 _ _ R.ho, s1 _ _ R.hl, all2_mono2 (fun a ha ds ho => ho.keep k fun xs e => s1 _ _ e) R.op, R.wh.keep k, R.nl, R.nd, R.p0, R.l0, R.r0⟩
end
/-! ### the methods -/
structure TR (K : PySem.W.Frag) (mg : Str → Option Value) (C : Addr) (t1 t2 t3 t4 t5 : Tok) : Prop where
  cl : Cls K C
  nT : NoAttr K C "trees"
  nB : NoAttr K C "begun"
  nL : NoAttr K C "last"
  nW : NoAttr K C "whole"
  mC : mg "Reader" = some (.ref C)
  mFi : mg "FIGURES" = some (.str figs t1)
  mLe : mg "LETTERS" = some (.str abc t2)
  mMF : mg "MOST_FIGURES" = some (.int 60 t3)
  mML : mg "MOST_LETTERS" = some (.int 8 t4)
  mMO : mg "MOST_OPEN" = some (.int 300 t5)
  zLen : mg "len" = none
  zInt : mg "int" = none
  zTuple : mg "tuple" = none
  zEnumerate : mg "enumerate" = none
theorem eqS {a b : Str} {A B : Prop} (t : a = b → A) (f : a ≠ b → B) : if decide (V.str a = V.str b) = true then A else B := by
  by_cases e : a = b
  · rw [if_pos (by rw [e]; exact decide_eq_true rfl)]
    exact t e
  · rw [if_neg (fun z => e (by injection of_decide_eq_true z))]
    exact f e
theorem V_str (a b : Str) : decide (V.str a = V.str b) = decide (a = b) := by
  by_cases e : a = b
  · rw [e, decide_eq_true rfl, decide_eq_true rfl]
  · rw [decide_eq_false e, decide_eq_false fun z => e (by injection z)]
section
variable {P : Program} {w : World} {K : PySem.W.Frag} {mg : Str → Option Value} {base : Heap} {C : Addr} {t1 t2 t3 t4 t5 : Tok}
def spGoes : Sp := fun vs H Q _ => ∃ (b : Str) (c : Nat), vs = [.str b, .str (one c)] ∧ Begun b ∧ Q (.bl (goesOn b c)) H
theorem ok_goes {f : Addr} {fd : FuncData} (F : Fun K "goes_on" "goes_on" sGoes f fd) (T : TR K mg C t1 t2 t3 t4 t5) : FnOk P w K mg base CX0 1 f fd ["begun", "sign"] spGoes := by
  refine F.ok scGoes (fun vs H Q E h => ?_) (fun cdv A outer s H vs Q E hr h => ?_)
  · obtain ⟨b, c, rfl, _⟩ := h
    rfl
  obtain ⟨b, c, rfl, hb, q⟩ := h
  obtain ⟨x, r, eb, hh, hl⟩ := begun_ne hb
  have line : b.length ≤ sizeLine := Nat.le_trans hl (by decide)
  have at0 : atI b.cps.toList 0 = some x := by
    rw [eb, str_cps]
    exact atI_nat (j := 0) rfl
  refine ⟨_, (pss_cons (ps_if (pt_cmpR op_in_sign (pe_ix ix_str (pv 0) pe_int (fun _ _ => rfl)) (pe_glob (v := .str figs) (by rfl) T.mFi ⟨_, rfl⟩) (by rfl)) (pss_one (ps_ret (pe_and (pe_cmpR op_in_sign (pv 1) (pe_glob (v := .str figs) (by rfl) T.mFi ⟨_, rfl⟩) (by rfl)) (pe_and (pe_cmpR op_ne (pv 0) pe_str (nomark _)) (pe_one (pe_cmpR op_lt (pe_callB call_len_str (by rfl) T.zLen PySem.boot_len (pa_cons (pv 0) pa_nil)) (pe_glob (v := .int 60) (by rfl) T.mMF ⟨_, rfl⟩) (nomark _))))))) pss_nil)
    (pss_one (ps_ret (pe_and (pe_cmpR op_in_sign (pv 1) (pe_glob (v := .str abc) (by rfl) T.mLe ⟨_, rfl⟩) (by rfl)) (pe_one (pe_cmpR op_lt (pe_callB call_len_str (by rfl) T.zLen PySem.boot_len (pa_cons (pv 0) pa_nil)) (pe_glob (v := .int 8) (by rfl) T.mML ⟨_, rfl⟩) (nomark _))))))), ?_⟩
  refine ⟨_, rfl, b, 0, x, rfl, rfl, line, at0, x, figs, rfl, rfl, _, rfl, ?_⟩
  show if isF x = true then _ else _
  rw [← hh]
  unfold goesOn at q
  cases hF : headF b with
  | true =>
    rw [hF, if_pos rfl] at q
    refine iteT ⟨_, rfl, c, figs, rfl, rfl, _, rfl, ?_⟩
    show if isF c = true then _ else _
    cases hc : isF c with
    | false =>
      rw [hc] at q
      exact iteF q
    | true =>
      rw [hc, Bool.true_and] at q
      refine iteT ⟨_, rfl, rfl, _, rfl, ?_⟩
      rw [V_str]
      show if (!decide (b = "0")) = true then _ else _
      rw [show decide (b ≠ "0") = !decide (b = "0") from decide_not] at q
      cases h0 : decide (b = "0") with
      | true =>
        rw [h0] at q
        exact iteF q
      | false =>
        rw [h0, show (!false) = true from rfl, Bool.true_and] at q
        exact iteT ⟨_, rfl, _, rfl, line, _, _, rfl, rfl, q⟩
  | false =>
    rw [hF, if_neg Bool.false_ne_true] at q
    refine iteF ⟨_, rfl, c, abc, rfl, rfl, _, rfl, ?_⟩
    show if isL c = true then _ else _
    cases hc : isL c with
    | false =>
      rw [hc] at q
      exact iteF q
    | true =>
      rw [hc, Bool.true_and] at q
      exact iteT ⟨_, rfl, _, rfl, line, _, _, rfl, rfl, q⟩
def spCan (K : PySem.W.Frag) (C : Addr) (g : RS → Bool) : Sp := fun vs H Q _ => ∃ (H0 : Hp) (p : Addr) (s : RS), vs = [.ref p] ∧ RdAt K C H0 H p s ∧ s.trees.length ≤ 1000000 ∧ Q (.bl (g s)) H
theorem ok_can_open {f : Addr} {fd : FuncData} (F : Fun K "can_open" "Reader.can_open" sCanOpen f fd) (T : TR K mg C t1 t2 t3 t4 t5) : FnOk P w K mg base CX0 1 f fd ["self"] (spCan K C canOpen) := by
  refine F.ok scCanOpen (fun vs H Q E h => ?_) (fun cdv A outer s H vs Q E hr h => ?_)
  · obtain ⟨H0, p, s, rfl, _⟩ := h
    rfl
  obtain ⟨H0, p, s, rfl, ⟨dx, l, rs, v, R⟩, few, q⟩ := h
  refine ⟨_, (pss_one (ps_ret (pe_or (pe_cmpR op_eq (pe_fld (pv 0) rfl) pe_str (nomark _)) (pe_one (pe_and (pe_cmpR op_eq (pe_fld (pv 0) rfl) pe_str (nomark _)) (pe_one (pe_cmpR op_lt (pe_callB call_len_seq (by rfl) T.zLen PySem.boot_len (pa_cons (pe_fld (pv 0) rfl) pa_nil)) (pe_glob (v := .int 300) (by rfl) T.mMO ⟨_, rfl⟩) (nomark _)))))))), ?_⟩
  unfold canOpen isLast at q
  refine ⟨_, rfl, p, C, dx, _, _, rfl, R.ho, T.cl, T.nL, rf_L _ _ _ _, rfl, _, rfl, eqS (fun e => ?_) (fun n => ?_)⟩
  · rw [decide_eq_true e] at q
    exact q
  rw [decide_eq_false n, Bool.false_or] at q
  refine ⟨_, rfl, p, C, dx, _, _, rfl, R.ho, T.cl, T.nL, rf_L _ _ _ _, rfl, _, rfl, eqS (fun e => ?_) (fun n => ?_)⟩
  · rw [decide_eq_true e, Bool.true_and] at q
    refine ⟨_, rfl, p, C, dx, _, _, rfl, R.ho, T.cl, T.nT, rf_T _ _ _ _, l, _, rfl, .inl (.inl (.inl R.hl)), _, _, rfl, rfl, ?_⟩
    rw [List.length_map, R.op.len]
    exact q
  · rw [decide_eq_false n] at q
    exact q
theorem ok_can_part {f : Addr} {fd : FuncData} (F : Fun K "can_part" "Reader.can_part" sCanPart f fd) (T : TR K mg C t1 t2 t3 t4 t5) : FnOk P w K mg base CX0 1 f fd ["self"] (spCan K C canPart) := by
  refine F.ok scCanPart (fun vs H Q E h => ?_) (fun cdv A outer s H vs Q E hr h => ?_)
  · obtain ⟨H0, p, s, rfl, _⟩ := h
    rfl
  obtain ⟨H0, p, s, rfl, ⟨dx, l, rs, v, R⟩, few, q⟩ := h
  refine ⟨_, (pss_one (ps_ret (pe_or (pe_cmpR op_eq (pe_fld (pv 0) rfl) pe_str (nomark _)) (pe_one (pe_and (pe_cmpR op_eq (pe_fld (pv 0) rfl) pe_str (nomark _)) (pe_one (pe_cmpR op_gt (pe_callB call_len_seq (by rfl) T.zLen PySem.boot_len (pa_cons (pe_fld (pv 0) rfl) pa_nil)) pe_int (nomark _)))))))), ?_⟩
  unfold canPart isLast at q
  refine ⟨_, rfl, p, C, dx, _, _, rfl, R.ho, T.cl, T.nL, rf_L _ _ _ _, rfl, _, rfl, eqS (fun e => ?_) (fun n => ?_)⟩
  · rw [decide_eq_true e] at q
    exact q
  rw [decide_eq_false n, Bool.false_or] at q
  refine ⟨_, rfl, p, C, dx, _, _, rfl, R.ho, T.cl, T.nL, rf_L _ _ _ _, rfl, _, rfl, eqS (fun e => ?_) (fun n => ?_)⟩
  · rw [decide_eq_true e, Bool.true_and] at q
    refine ⟨_, rfl, p, C, dx, _, _, rfl, R.ho, T.cl, T.nT, rf_T _ _ _ _, l, _, rfl, .inl (.inl (.inl R.hl)), _, _, rfl, rfl, ?_⟩
    rw [List.length_map, R.op.len]
    exact q
  · rw [decide_eq_false n] at q
    exact q
def spCanBegin (K : PySem.W.Frag) (C : Addr) : Sp := fun vs H Q _ => ∃ (H0 : Hp) (p : Addr) (s : RS) (c : Nat), vs = [.ref p, .str (one c)] ∧ RdAt K C H0 H p s ∧ Q (.bl (canBegin s c)) H
theorem ok_can_begin {f : Addr} {fd : FuncData} (F : Fun K "can_begin" "Reader.can_begin" sCanBegin f fd) (T : TR K mg C t1 t2 t3 t4 t5) : FnOk P w K mg base CX0 1 f fd ["self", "sign"] (spCanBegin K C) := by
  refine F.ok scCanBegin (fun vs H Q E h => ?_) (fun cdv A outer s H vs Q E hr h => ?_)
  · obtain ⟨H0, p, s, c, rfl, _⟩ := h
    rfl
  obtain ⟨H0, p, s, c, rfl, ⟨dx, l, rs, v, R⟩, q⟩ := h
  refine ⟨_, (pss_cons (ps_if (pt_cmpR op_eq (pe_fld (pv 0) rfl) pe_str (nomark _)) (pss_one (ps_ret (pe_cmpR op_in_sign (pv 1) (pe_glob (v := .str abc) (by rfl) T.mLe ⟨_, rfl⟩) (by rfl)))) pss_nil)
    (pss_one (ps_ret (pe_and (pe_cmpR op_eq (pe_fld (pv 0) rfl) pe_str (nomark _)) (pe_one (pe_or (pe_cmpR op_in_sign (pv 1) (pe_glob (v := .str abc) (by rfl) T.mLe ⟨_, rfl⟩) (by rfl)) (pe_one (pe_cmpR op_in_sign (pv 1) (pe_glob (v := .str figs) (by rfl) T.mFi ⟨_, rfl⟩) (by rfl))))))))), ?_⟩
  unfold canBegin isLast at q
  refine ⟨_, rfl, p, C, dx, _, _, rfl, R.ho, T.cl, T.nL, rf_L _ _ _ _, rfl, _, rfl, eqS (fun e => ?_) (fun n => ?_)⟩
  · rw [decide_eq_true e, if_pos rfl] at q
    exact ⟨_, rfl, c, abc, rfl, rfl, q⟩
  rw [decide_eq_false n, if_neg Bool.false_ne_true] at q
  refine ⟨_, rfl, p, C, dx, _, _, rfl, R.ho, T.cl, T.nL, rf_L _ _ _ _, rfl, _, rfl, eqS (fun e => ?_) (fun n => ?_)⟩
  · rw [decide_eq_true e, Bool.true_and] at q
    refine ⟨_, rfl, c, abc, rfl, rfl, _, rfl, ?_⟩
    show if isL c = true then _ else _
    cases hc : isL c with
    | true =>
      rw [hc] at q
      exact iteT q
    | false =>
      rw [hc, Bool.false_or] at q
      exact iteF ⟨_, rfl, c, figs, rfl, rfl, q⟩
  · rw [decide_eq_false n] at q
    exact q
def spEndB (K : PySem.W.Frag) (C : Addr) : Sp := fun vs H Q _ => ∃ (H0 : Hp) (p : Addr) (s : RS) (n : Nat), vs = [.ref p] ∧ RdAt K C H0 H p s ∧ Wf s n ∧ n ≤ 1000000 ∧ ∀ H', RdAt K C H0 H' p (endB s) → Q .non H'
theorem mass_le {ts : List (List PyData)} {n : Nat} (h : mass ts ≤ n) : ts.length ≤ n ∧ ∀ x ∈ ts, x.length ≤ n := by
  unfold mass at h
  refine ⟨by omega, fun x hx => ?_⟩
  have z : x.length ≤ (ts.map List.length).sum := by
    clear h
    induction ts with
    | nil => cases hx
    | cons y ys ih =>
      rw [List.map_cons, List.sum_cons]
      rcases List.mem_cons.mp hx with rfl | hx
      · omega
      · have := ih hx
        omega
  omega
theorem ok_end_begun {f : Addr} {fd : FuncData} (F : Fun K "end_begun" "Reader.end_begun" sEndBegun f fd) (T : TR K mg C t1 t2 t3 t4 t5) : FnOk P w K mg base CX0 1 f fd ["self"] (spEndB K C) := by
  refine F.ok scEndBegun (fun vs H Q E h => ?_) (fun cdv A outer s H vs Q E hr h => ?_)
  · obtain ⟨H0, p, s, n, rfl, _⟩ := h
    rfl
  obtain ⟨H0, p, s, n, rfl, ⟨dx, l, rs, v, R⟩, W, nb, q⟩ := h
  refine ⟨_, (pss_one (ps_if (pt_cmpR op_eq (pe_fld (pv 0) rfl) pe_str (nomark _)) (pss_one (ps_expr (pe_bm PySem.F.plainAttrs_list PySem.F.slot_list_append PySem.F.type_list_append mt_append (pe_ix ix_list (pe_fld (pv 0) rfl) (pe_un un_neg pe_int) (fun _ _ => rfl)) (pa_cons (pe_ifExp (pt_cmpR op_in_sign (pe_ix ix_str (pe_fld (pv 0) rfl) pe_int (fun _ _ => rfl)) (pe_glob (v := .str figs) (by rfl) T.mFi ⟨_, rfl⟩) (by rfl)) (pe_callTy call_int_str (by rfl) T.zInt (by decide +kernel) (pa_cons (pe_fld (pv 0) rfl) pa_nil)) (pe_fld (pv 0) rfl)) pa_nil)))) pss_nil)), ?_⟩
  refine ⟨_, rfl, p, C, dx, _, _, rfl, R.ho, T.cl, T.nL, rf_L _ _ _ _, rfl, _, rfl, eqS (fun e => ?_) (fun n => ?_)⟩
  · obtain ⟨ne, hb⟩ := W.beg e
    rw [endB_begun s e] at q
    rcases List.eq_nil_or_concat s.trees with z | ⟨a, x, z⟩
    · exact absurd z ne
    rw [List.concat_eq_append] at z
    have op := R.op
    rw [z] at op
    obtain ⟨rs0, r, rfl, _, ⟨vs, er, hvs⟩⟩ := op.last
    have few : vs.length < sizeLine := by
      rw [dps_len hvs]
      have m := (mass_le W.mass).2 x (by rw [z]; exact List.mem_append.mpr (.inr (List.mem_singleton.mpr rfl)))
      exact Nat.lt_of_le_of_lt (Nat.le_trans m nb) (by decide)
    obtain ⟨c, r0, eb, hh, hl⟩ := begun_ne hb
    have line : s.begun.length ≤ sizeLine := Nat.le_trans hl (by decide)
    have at0 : atI s.begun.cps.toList 0 = some c := by
      rw [eb, str_cps]
      exact atI_nat (j := 0) rfl
    refine ⟨_, rfl, p, C, dx, _, _, rfl, R.ho, T.cl, T.nT, rf_T _ _ _ _, 1, rfl, l, _, -1, .ref r, rfl, rfl, .inl (.inl R.hl), (by rw [List.map_append]; exact atI_last _ _), .inl ⟨rfl, _, .inl (.inl er)⟩, ?_⟩
    refine ⟨_, rfl, p, C, dx, _, _, rfl, R.ho, T.cl, T.nB, rf_B _ _ _ _, _, 0, c, rfl, rfl, line, at0, c, figs, rfl, rfl, _, rfl, ?_⟩
    show if isF c = true then _ else _
    rw [← hh]
    cases hF : headF s.begun with
    | true =>
      obtain ⟨k, ek, dk, lk⟩ := begun_int hb hF
      rw [dk] at q
      refine iteT ⟨_, rfl, p, C, dx, _, _, rfl, R.ho, T.cl, T.nB, rf_B _ _ _ _, _, k, rfl, ek, Nat.le_trans lk (by decide), r, _, _, rfl, rfl, er, few, ?_⟩
      exact q _ ⟨dx, l, _, v, R.push er (.int k)⟩
    | false =>
      have dk : datum s.begun = .str s.begun := by
        unfold datum
        rw [hF, if_neg Bool.false_ne_true]
      rw [dk] at q
      refine iteF ⟨_, rfl, p, C, dx, _, _, rfl, R.ho, T.cl, T.nB, rf_B _ _ _ _, r, _, _, rfl, rfl, er, few, ?_⟩
      exact q _ ⟨dx, l, _, v, R.push er (.str _)⟩
  · rw [endB_not s _ rfl n] at q
    exact q _ ⟨dx, l, rs, v, R⟩

theorem one_len (c : Nat) : (one c).length = 1 := rfl
/-- the methods, as they are called -/
structure MR (P : Program) (w : World) (K : PySem.W.Frag) (mg : Str → Option Value) (base : Heap) (C fG fO fB fP fE : Addr) (dG dO dB dP dE : FuncData) : Prop where
  goes : FnOk P w K mg base CX0 1 fG dG ["begun", "sign"] spGoes
  b_goes : Binds K dG ["begun", "sign"] []
  k_goes : PySem.W.keepIn K (.ref fG) = true
  m_goes : mg "goes_on" = some (.ref fG)
  can_open : FnOk P w K mg base CX0 1 fO dO ["self"] (spCan K C canOpen)
  b_can_open : Binds K dO ["self"] []
  m_can_open : Meth K C "can_open" fO
  can_begin : FnOk P w K mg base CX0 1 fB dB ["self", "sign"] (spCanBegin K C)
  b_can_begin : Binds K dB ["self", "sign"] []
  m_can_begin : Meth K C "can_begin" fB
  can_part : FnOk P w K mg base CX0 1 fP dP ["self"] (spCan K C canPart)
  b_can_part : Binds K dP ["self"] []
  m_can_part : Meth K C "can_part" fP
  end_begun : FnOk P w K mg base CX0 1 fE dE ["self"] (spEndB K C)
  b_end_begun : Binds K dE ["self"] []
  m_end_begun : Meth K C "end_begun" fE
theorem no_co : [("trees" : Str), "begun", "last", "whole"].contains "can_open" = false := by decide +kernel
theorem no_cb : [("trees" : Str), "begun", "last", "whole"].contains "can_begin" = false := by decide +kernel
theorem no_cp : [("trees" : Str), "begun", "last", "whole"].contains "can_part" = false := by decide +kernel
theorem no_eb : [("trees" : Str), "begun", "last", "whole"].contains "end_begun" = false := by decide +kernel
theorem no_cl : [("trees" : Str), "begun", "last", "whole"].contains "close" = false := by decide +kernel
theorem no_tk : [("trees" : Str), "begun", "last", "whole"].contains "take" = false := by decide +kernel
def spClose (K : PySem.W.Frag) (C : Addr) : Sp := fun vs H Q _ => ∃ (H0 : Hp) (p : Addr) (s : RS) (n : Nat), vs = [.ref p] ∧ RdAt K C H0 H p s ∧ Wf s n ∧ n ≤ 900000 ∧ canPart s = true ∧ ∀ H', RdAt K C H0 H' p (closeR s) → Q .non H'
theorem ok_close {f fG fO fB fP fE : Addr} {fd dG dO dB dP dE : FuncData} (F : Fun K "close" "Reader.close" sClose f fd) (T : TR K mg C t1 t2 t3 t4 t5) (M : MR P w K mg base C fG fO fB fP fE dG dO dB dP dE) : FnOk P w K mg base CX0 2 f fd ["self"] (spClose K C) := by
  refine F.ok scClose (fun vs H Q E h => ?_) (fun cdv A outer s H vs Q E hr h => ?_)
  · obtain ⟨H0, p, s, n, rfl, _⟩ := h
    rfl
  obtain ⟨H0, p, s, n, rfl, ⟨dx, l, rs, v, R⟩, W, nb, cp, q⟩ := h
  have h1 : Room 1 _ := hr.mono (by decide)
  refine ⟨_, (pss_cons (ps_expr (pe_meth0 (pv 0) T.cl M.m_end_begun M.end_begun h1 M.b_end_begun .nil pass0))
    (pss_cons (ps_set (i := 1) scClose.nd rfl (.inl rfl) (pe_tupleOf (by rfl) T.zTuple (pe_bm0 PySem.F.plainAttrs_list PySem.F.slot_list_pop PySem.F.type_list_pop mt_pop (pe_fld (pv 0) rfl))))
    (pss_cons (ps_if (pt_cmpR op_gt (pe_callB call_len_seq (by rfl) T.zLen PySem.boot_len (pa_cons (pe_fld (pv 0) rfl) pa_nil)) pe_int (nomark _)) (pss_one (ps_expr (pe_bm PySem.F.plainAttrs_list PySem.F.slot_list_append PySem.F.type_list_append mt_append (pe_ix ix_list (pe_fld (pv 0) rfl) (pe_un un_neg pe_int) (fun _ _ => rfl)) (pa_cons (pv 1) pa_nil)))) (pss_one (ps_fld (pv 0) (pv 1) rfl)))
    (pss_one (ps_fld (pv 0) pe_str rfl))))), ?_⟩
  refine ⟨_, rfl, p, dx, _, rfl, R.ho, rf_no _ _ _ _ _ no_eb, H0, p, s, n, rfl, ⟨dx, l, rs, v, R⟩, W, Nat.le_trans nb (by decide), fun H1 hR1 => ?_⟩
  obtain ⟨dx, l, rs, v, R⟩ := hR1
  obtain ⟨a, x, ea, ec⟩ := closeR_eq W cp
  have ms := (endB_mass W).1
  have op := R.op
  rw [ea] at op
  obtain ⟨rs0, r, rfl, _, _⟩ := op.last
  obtain ⟨R2, vs, er, hvs⟩ := R.pop ea
  have lr : (upd H1 l (.lst (rs0.map V.ref))) r = some (.lst vs) := by
    rw [upd_ne (fun z => R.nl (List.mem_append.mpr (.inr (List.mem_singleton.mpr z.symm))))]
    exact er
  refine ⟨_, rfl, p, C, dx, _, _, rfl, R.ho, T.cl, T.nT, rf_T _ _ _ _, .inl ⟨rfl, _, .inl (.inl R.hl)⟩, l, _, .ref r, rfl, rfl, R.hl, (by simp), ?_⟩
  rw [show ((rs0 ++ [r]).map V.ref).dropLast = rs0.map V.ref by rw [List.map_append]; exact List.dropLast_concat]
  have kT : Tups H1 (upd H1 l (.lst (rs0.map V.ref))) := tups_lst R.hl
  have hvs2 := dps_up (tups_le kT) _ _ hvs
  generalize upd H1 l (.lst (rs0.map V.ref)) = H2 at R2 lr kT hvs2
  refine .inl ⟨r, vs, rfl, .inl (.inl lr), fun q0 nq => ?_⟩
  have R3 := R2.new (o := .tup vs) nq
  have s3 := same_new (o := .tup vs) nq
  have hx : Dp K (tups (upd H2 q0 (.tup vs))) (.ref q0) (.tuple x) := .tup (.inl (.inl (tups_of upd_same))) (dps_up (tups_le (tups_same s3)) _ _ hvs2)
  generalize upd H2 q0 (.tup vs) = H3 at R3 s3 hx
  refine ⟨_, rfl, p, C, dx, _, _, rfl, R3.ho, T.cl, T.nT, rf_T _ _ _ _, l, _, rfl, .inl (.inl (.inl R3.hl)), _, _, rfl, rfl, _, rfl, ?_⟩
  rw [List.length_map, R3.op.len]
  show if decide ((a.length : Int) > 0) = true then _ else _
  by_cases a0 : a = []
  · subst a0
    rw [if_pos rfl] at ec
    have fin := fun b => (R3.fields b "closed" (.ref q0) (some (.tuple x)) (.inr ⟨x, rfl, hx⟩))
    refine iteF ⟨_, rfl, _, rfl, p, C, dx, _, rfl, R3.ho, T.cl, T.nW, rf_few _ _ _ _, ?_⟩
    rw [put_W]
    refine ⟨_, rfl, p, C, dx, _, rfl, upd_same, T.cl, T.nL, rf_few _ _ _ _, ?_⟩
    rw [put_L]
    have R4 := (R3.fields (endB s).begun (endB s).last (.ref q0) (some (.tuple x)) (.inr ⟨x, rfl, hx⟩))
    have R5 := R4.fields (endB s).begun "closed" (.ref q0) (some (.tuple x)) R4.wh
    rw [ec] at q
    exact q _ ⟨dx, l, _, _, R5⟩
  · rw [if_neg a0] at ec
    have ap : decide ((a.length : Int) > 0) = true := decide_eq_true (by
      have := List.length_pos_iff.mpr a0
      omega)
    rw [ap]
    rcases List.eq_nil_or_concat a with z | ⟨a1, x1, z⟩
    · exact absurd z a0
    rw [List.concat_eq_append] at z
    subst z
    have op3 := R3.op
    obtain ⟨rs1, r1, rfl, _, ⟨vs1, e1, hvs1⟩⟩ := All2.last (m := a1) (y := x1) op3
    have few : vs1.length < sizeLine := by
      rw [dps_len hvs1]
      rw [ea] at ms
      have m := (mass_le ms).2 x1 (by simp)
      exact Nat.lt_of_le_of_lt (Nat.le_trans m (Nat.succ_le_succ nb)) (by decide)
    have R4 := R3.push e1 hx
    refine iteT ⟨_, rfl, p, C, dx, _, _, rfl, R3.ho, T.cl, T.nT, rf_T _ _ _ _, 1, rfl, l, _, -1, .ref r1, rfl, rfl, .inl (.inl R3.hl), (by rw [List.map_append]; exact atI_last _ _), .inl ⟨rfl, _, .inl (.inl e1)⟩, _, rfl, r1, _, _, rfl, rfl, e1, few, ?_⟩
    refine ⟨_, rfl, p, C, dx, _, rfl, R4.ho, T.cl, T.nL, rf_few _ _ _ _, ?_⟩
    rw [put_L]
    have R5 := R4.fields (endB s).begun "closed" v (endB s).whole R4.wh
    rw [ec] at q
    exact q _ ⟨dx, l, _, _, R5⟩
theorem andWays {c1 : Bool} {M : Prop} (c2 : Bool) {B R : Prop} (m : c1 = true → (if c2 = true then B else R) → M) (t : (c1 && c2) = true → B) (f : ¬ (c1 && c2) = true → R) : if c1 = true then M else (if false = true then B else R) := by
  cases c1 with
  | false =>
    rw [if_neg Bool.false_ne_true, if_neg Bool.false_ne_true]
    exact f Bool.false_ne_true
  | true =>
    rw [if_pos rfl]
    refine m rfl ?_
    cases c2 with
    | true => exact iteT (t rfl)
    | false => exact iteF (f Bool.false_ne_true)
def spTake (K : PySem.W.Frag) (C : Addr) : Sp := fun vs H Q _ => ∃ (H0 : Hp) (p : Addr) (s : RS) (n c : Nat), vs = [.ref p, .str (one c)] ∧ RdAt K C H0 H p s ∧ Wf s n ∧ n ≤ 800000 ∧
  (takeR s c = none → Q (.bl false) H) ∧ ∀ s' H', takeR s c = some s' → RdAt K C H0 H' p s' → Q (.bl true) H'
theorem ok_take {f fG fO fB fP fE fC : Addr} {fd dG dO dB dP dE dC : FuncData} (F : Fun K "take" "Reader.take" sTake f fd) (T : TR K mg C t1 t2 t3 t4 t5) (M : MR P w K mg base C fG fO fB fP fE dG dO dB dP dE)
    (MC : FnOk P w K mg base CX0 2 fC dC ["self"] (spClose K C)) (bC : Binds K dC ["self"] []) (mC : Meth K C "close" fC) : FnOk P w K mg base CX0 3 f fd ["self", "sign"] (spTake K C) := by
  refine F.ok scTake (fun vs H Q E h => ?_) (fun cdv A outer s H vs Q E hr h => ?_)
  · obtain ⟨H0, p, s, n, c, rfl, _⟩ := h
    rfl
  obtain ⟨H0, p, s, n, c, rfl, hR, W, nb, qn, qs⟩ := h
  obtain ⟨dx, l, rs, v, R⟩ := id hR
  have h1 : Room 1 _ := hr.mono (by decide)
  have h2 : Room 2 _ := hr.mono (by decide)
  have few := (mass_le W.mass).1
  have few6 : s.trees.length ≤ 1000000 := Nat.le_trans few (Nat.le_trans nb (by decide))
  refine ⟨_, (pss_cons (ps_if (PW.pt (pw_and (pt_cmpR op_eq (pv 1) pe_str (nomark _)) (pw_and1 (pt_val (pe_meth0 (pv 0) T.cl M.m_can_open M.can_open h1 M.b_can_open .nil pass0))))) (pss_cons (ps_expr (pe_bm PySem.F.plainAttrs_list PySem.F.slot_list_append PySem.F.type_list_append mt_append (pe_fld (pv 0) rfl) (pa_cons (pe_lst pa_nil) pa_nil)))
    (pss_one (ps_fld (pv 0) pe_str rfl))) (pss_one (ps_if (PW.pt (pw_and (pt_cmpR op_eq (pv 1) pe_str (nomark _)) (pw_and1 (pt_val (pe_meth0 (pv 0) T.cl M.m_can_part M.can_part h1 M.b_can_part .nil pass0))))) (pss_one (ps_expr (pe_meth0 (pv 0) T.cl mC MC h2 bC .nil pass0))) (pss_one (ps_if (PW.pt (pw_and (pt_cmpR op_eq (pv 1) pe_str (nomark _)) (pw_and1 (pt_val (pe_meth0 (pv 0) T.cl M.m_can_part M.can_part h1 M.b_can_part .nil pass0))))) (pss_cons (ps_expr (pe_meth0 (pv 0) T.cl M.m_end_begun M.end_begun h1 M.b_end_begun .nil pass0))
    (pss_one (ps_fld (pv 0) pe_str rfl))) (pss_one (ps_if (PW.pt (pw_and (pt_cmpR op_eq (pe_fld (pv 0) rfl) pe_str (nomark _)) (pw_and1 (pt_val (pe_call M.goes h1 (by rfl) M.m_goes M.k_goes M.b_goes .nil pass0 (pa_cons (pe_fld (pv 0) rfl) (pa_cons (pv 1) pa_nil))))))) (pss_one (ps_fldaug (pv 0) (pv 1) in_addS)) (pss_one (ps_if (pt_val (pe_meth (pv 0) T.cl M.m_can_begin M.can_begin h1 M.b_can_begin .nil pass0 (pa_cons (pv 1) pa_nil))) (pss_cons (ps_fld (pv 0) (pv 1) rfl)
    (pss_one (ps_fld (pv 0) pe_str rfl))) (pss_one (ps_ret pe_bl)))))))))))
    (pss_one (ps_ret pe_bl))), ?_⟩
  refine ⟨_, rfl, rfl, _, rfl, andWays (canOpen s) (fun _ w => ⟨_, rfl, p, dx, _, rfl, R.ho, rf_no _ _ _ _ _ no_co, H0, p, s, rfl, hR, few6, _, rfl, w⟩) (fun g1 => ?_) (fun g1 => ?_)⟩
  · rw [V_str] at g1
    have tk : takeR s c = some { s with trees := s.trees ++ [[]], last := "open" } := if_pos g1
    refine ⟨_, rfl, p, C, dx, _, _, rfl, R.ho, T.cl, T.nT, rf_T _ _ _ _, .inl ⟨rfl, _, .inl (.inl R.hl)⟩, Nat.zero_le _, fun r nr => ?_⟩
    have R2 := R.opn nr
    refine ⟨l, _, _, rfl, rfl, same_new nr _ _ R.hl, ?_, ?_⟩
    · rw [List.length_map, R.op.len]
      exact Nat.lt_of_le_of_lt few6 (by decide)
    refine ⟨_, rfl, p, C, dx, _, rfl, R2.ho, T.cl, T.nL, rf_few _ _ _ _, ?_⟩
    rw [put_L]
    exact qs _ _ tk ⟨dx, l, _, _, R2.fields s.begun "open" v s.whole R2.wh⟩
  rw [V_str] at g1
  refine ⟨_, rfl, rfl, _, rfl, andWays (canPart s) (fun _ w => ⟨_, rfl, p, dx, _, rfl, R.ho, rf_no _ _ _ _ _ no_cp, H0, p, s, rfl, hR, few6, _, rfl, w⟩) (fun g2 => ?_) (fun g2 => ?_)⟩
  · rw [V_str] at g2
    have tk : takeR s c = some (closeR s) := (if_neg g1).trans (if_pos g2)
    rw [Bool.and_eq_true] at g2
    refine ⟨_, rfl, p, dx, _, rfl, R.ho, rf_no _ _ _ _ _ no_cl, H0, p, s, n, rfl, hR, W, Nat.le_trans nb (by decide), g2.2, fun H1 hR1 => ?_⟩
    exact qs _ _ tk hR1
  rw [V_str] at g2
  refine ⟨_, rfl, rfl, _, rfl, andWays (canPart s) (fun _ w => ⟨_, rfl, p, dx, _, rfl, R.ho, rf_no _ _ _ _ _ no_cp, H0, p, s, rfl, hR, few6, _, rfl, w⟩) (fun g3 => ?_) (fun g3 => ?_)⟩
  · rw [V_str] at g3
    have tk : takeR s c = some { endB s with last := "blank" } := (if_neg g1).trans ((if_neg g2).trans (if_pos g3))
    refine ⟨_, rfl, p, dx, _, rfl, R.ho, rf_no _ _ _ _ _ no_eb, H0, p, s, n, rfl, hR, W, Nat.le_trans nb (by decide), fun H1 hR1 => ?_⟩
    obtain ⟨dx, l, rs, v, R1⟩ := hR1
    refine ⟨_, rfl, p, C, dx, _, rfl, R1.ho, T.cl, T.nL, rf_few _ _ _ _, ?_⟩
    rw [put_L]
    exact qs _ _ tk ⟨dx, l, _, _, R1.fields (endB s).begun "blank" v (endB s).whole R1.wh⟩
  rw [V_str] at g3
  have mk : isLast s "begun" = true → Begun s.begun := fun z => (W.beg (of_decide_eq_true z)).2
  refine ⟨_, rfl, p, C, dx, _, _, rfl, R.ho, T.cl, T.nL, rf_L _ _ _ _, rfl, _, rfl, andWays (goesOn s.begun c) (fun z w => ⟨_, rfl, p, C, dx, _, _, rfl, R.ho, T.cl, T.nB, rf_B _ _ _ _, _, rfl, s.begun, c, rfl, mk (by rw [V_str] at z; exact z), _, rfl, w⟩) (fun g4 => ?_) (fun g4 => ?_)⟩
  · rw [V_str] at g4
    have tk : takeR s c = some { s with begun := s.begun ++ one c } := (if_neg g1).trans ((if_neg g2).trans ((if_neg g3).trans (if_pos g4)))
    rw [Bool.and_eq_true] at g4
    obtain ⟨_, _, _, _, hl⟩ := begun_ne (mk g4.1)
    refine ⟨_, rfl, p, C, dx, _, _, rfl, R.ho, T.cl, T.nB, rf_B _ _ _ _, _, rfl, s.begun, one c, rfl, rfl, ?_, dx, _, R.ho, rf_few _ _ _ _, ?_⟩
    · rw [one_len]
      exact Nat.le_trans (m := 100) (by omega) (by decide)
    rw [put_B]
    exact qs _ _ tk ⟨dx, l, _, _, R.fields (s.begun ++ one c) s.last v s.whole R.wh⟩
  rw [V_str] at g4
  refine ⟨_, rfl, p, dx, _, rfl, R.ho, rf_no _ _ _ _ _ no_cb, _, rfl, H0, p, s, c, rfl, hR, _, rfl, ?_⟩
  cases g5 : canBegin s c with
  | true =>
    have tk : takeR s c = some { s with begun := one c, last := "begun" } := (if_neg g1).trans ((if_neg g2).trans ((if_neg g3).trans ((if_neg g4).trans (if_pos g5))))
    refine iteT ⟨_, rfl, _, rfl, p, C, dx, _, rfl, R.ho, T.cl, T.nB, rf_few _ _ _ _, ?_⟩
    rw [put_B]
    have R2 := R.fields (one c) s.last v s.whole R.wh
    refine ⟨_, rfl, p, C, dx, _, rfl, R2.ho, T.cl, T.nL, rf_few _ _ _ _, ?_⟩
    rw [put_L]
    exact qs _ _ tk ⟨dx, l, _, _, R2.fields (one c) "begun" v s.whole R2.wh⟩
  | false =>
    have tk : takeR s c = none := (if_neg g1).trans ((if_neg g2).trans ((if_neg g3).trans ((if_neg g4).trans (if_neg (by rw [g5]; exact Bool.false_ne_true)))))
    exact iteF (qn tk)
def spInit (K : PySem.W.Frag) (C : Addr) : Sp := fun vs H Q _ => ∃ (H0 : Hp) (p dx : Addr), vs = [.ref p] ∧ Same H0 H ∧ H0 p = none ∧ H p = some (.ins C dx []) ∧ ∀ H', RdAt K C H0 H' p rs0 → Q .non H'
theorem ok_init {f : Addr} {fd : FuncData} (F : Fun K "__init__" "Reader.__init__" sInit f fd) (T : TR K mg C t1 t2 t3 t4 t5) : FnOk P w K mg base CX0 1 f fd ["self"] (spInit K C) := by
  refine F.ok scInit (fun vs H Q E h => ?_) (fun cdv A outer s H vs Q E hr h => ?_)
  · obtain ⟨H0, p, dx, rfl, _⟩ := h
    rfl
  obtain ⟨H0, p, dx, rfl, s0, p0, hp, q⟩ := h
  refine ⟨_, (pss_cons (ps_fld (pv 0) (pe_lst pa_nil) rfl)
    (pss_cons (ps_fld (pv 0) pe_str rfl)
    (pss_cons (ps_fld (pv 0) pe_str rfl)
    (pss_one (ps_fld (pv 0) pe_non rfl))))), ?_⟩
  refine ⟨Nat.zero_le _, fun l nl => ?_⟩
  have npl : p ≠ l := ne_of_none hp nl
  have l0 : H0 l = none := s0.free nl
  refine ⟨_, rfl, p, C, dx, [], rfl, (by rw [upd_ne npl]; exact hp), T.cl, T.nT, (by show 0 < 1000; decide), ?_⟩
  refine ⟨_, rfl, p, C, dx, _, rfl, upd_same, T.cl, T.nB, (by show 1 < 1000; decide), ?_⟩
  refine ⟨_, rfl, p, C, dx, _, rfl, upd_same, T.cl, T.nL, (by show 2 < 1000; decide), ?_⟩
  refine ⟨_, rfl, p, C, dx, _, rfl, upd_same, T.cl, T.nW, (by show 3 < 1000; decide), ?_⟩
  have e1 : putF "begun" (V.str "") (putF "trees" (V.ref l) []) = [(("trees" : Str), V.ref l), ("begun", V.str "")] := by
    show (if ("trees" : Str) = "begun" then _ else (("trees" : Str), V.ref l) :: [(("begun" : Str), V.str "")]) = _
    rw [if_neg (ne_of_beq n_bt)]
  have e2 : putF "last" (V.str "start") [(("trees" : Str), V.ref l), ("begun", V.str "")] = [(("trees" : Str), V.ref l), ("begun", V.str ""), ("last", V.str "start")] := by
    show (if ("trees" : Str) = "last" then _ else (("trees" : Str), V.ref l) :: (if ("begun" : Str) = "last" then _ else (("begun" : Str), V.str "") :: [(("last" : Str), V.str "start")])) = _
    rw [if_neg (ne_of_beq n_lt), if_neg (ne_of_beq n_lb)]
  have e3 : putF "whole" V.non [(("trees" : Str), V.ref l), ("begun", V.str ""), ("last", V.str "start")] = rf l "" "start" .non := by
    show (if ("trees" : Str) = "whole" then _ else (("trees" : Str), V.ref l) :: (if ("begun" : Str) = "whole" then _ else (("begun" : Str), V.str "") :: (if ("last" : Str) = "whole" then _ else (("last" : Str), V.str "start") :: [(("whole" : Str), V.non)]))) = _
    rw [if_neg (ne_of_beq n_wt), if_neg (ne_of_beq n_wb), if_neg (ne_of_beq n_wl)]
    rfl
  rw [e1, e2, e3]
  refine q _ ⟨dx, l, [], .non, ⟨?_, upd_same, ?_, .nil, .inl ⟨rfl, rfl⟩, List.not_mem_nil, List.nodup_nil, p0, l0, fun r hr => (List.not_mem_nil hr).elim⟩⟩
  · exact same_own (same_own (same_own (same_own (same_put s0 nl) p0) p0) p0) p0
  · rw [upd_ne npl.symm, upd_ne npl.symm, upd_ne npl.symm, upd_ne npl.symm, upd_same]
    rfl
end
end Kf
set_option Elab.async false
set_option linter.all false
set_option maxRecDepth 100000
set_option maxHeartbeats 4000000
set_option pp.maxSteps 600
/-! What stands in a reader's state, sign by sign; the law's own machine. -/
namespace Kf
open PySem PySem.Spec PyProof.Rows L2 Sx
/-- parts, written one behind the other -/
def jc : List PyData → List Nat
  | [] => []
  | d :: ds => cs d ++ pc ds
theorem pc_app : ∀ a b : List PyData, pc (a ++ b) = pc a ++ pc b
  | [], b => rfl
  | p :: ps, b => by
    show 32 :: (cs p ++ pc (ps ++ b)) = 32 :: (cs p ++ pc ps) ++ pc b
    rw [pc_app ps b, List.cons_append, List.append_assoc]
theorem jc_push : ∀ (ds : List PyData) (x : PyData), ds ≠ [] → jc (ds ++ [x]) = jc ds ++ 32 :: cs x
  | [], _, h => absurd rfl h
  | d :: ds, x, _ => by
    show cs d ++ pc (ds ++ [x]) = cs d ++ pc ds ++ 32 :: cs x
    rw [pc_app, List.append_assoc]
    show cs d ++ (pc ds ++ 32 :: (cs x ++ [])) = _
    rw [List.append_nil]
theorem jc_one (x : PyData) : jc [x] = cs x := by
  show cs x ++ [] = cs x
  rw [List.append_nil]
def prT : List (List PyData) → List Nat
  | [] => []
  | [d] => 40 :: jc d
  | d :: e :: r => 40 :: (jc d ++ 32 :: prT (e :: r))
def prB (ts : List (List PyData)) : List Nat := if ts = [] then [] else prT ts ++ [32]
theorem pre_app : ∀ (ts : List (List PyData)) (x : List PyData), prT (ts ++ [x]) = prB ts ++ 40 :: jc x
  | [], x => rfl
  | [d], x => by
    show 40 :: (jc d ++ 32 :: (40 :: jc x)) = (40 :: jc d ++ [32]) ++ 40 :: jc x
    simp
  | d :: e :: r, x => by
    have ih := pre_app (e :: r) x
    show 40 :: (jc d ++ 32 :: prT (e :: r ++ [x])) = (40 :: (jc d ++ 32 :: prT (e :: r)) ++ [32]) ++ 40 :: jc x
    rw [ih]
    show 40 :: (jc d ++ 32 :: ((prT (e :: r) ++ [32]) ++ 40 :: jc x)) = _
    simp
/-- a row of parts of a tree -/
def Rw (ds : List PyData) : Prop := (headW ds && tws ds) = true
theorem Rw.ne {ds : List PyData} (h : Rw ds) : ds ≠ [] := fun z => by
  rw [z] at h
  cases h
theorem Rw.push {ds : List PyData} {x : PyData} (h : Rw ds) (hx : tw x = true) : Rw (ds ++ [x]) := by
  unfold Rw at *
  rw [Bool.and_eq_true] at *
  refine ⟨headW_app h.1, ?_⟩
  rw [tws_app, h.2]
  show (true && (tw x && true)) = true
  rw [hx]
  rfl
theorem cs_row {ds : List PyData} (h : Rw ds) : cs (.tuple ds) = 40 :: (jc ds ++ [41]) := by
  unfold Rw at h
  rw [Bool.and_eq_true] at h
  cases ds with
  | nil => exact (Bool.false_ne_true h.1).elim
  | cons d ps =>
    cases d with
    | str w =>
      have h2 : (tw (.str w) && tws ps) = true := h.2
      rw [Bool.and_eq_true] at h2
      rw [cs_tuple w ps h2.2]
      show _ = 40 :: (cs (.str w) ++ pc ps ++ [41])
      rw [List.append_assoc]
      rfl
    | _ => exact (Bool.false_ne_true h.1).elim
/-- open trees, each with a part at least -/
def Full (ts : List (List PyData)) : Prop := ∀ i ds, ts[i]? = some ds → Rw ds ∧ PyData.depthAll ds + (i + 1) ≤ 300
theorem Full.app {ts : List (List PyData)} {x : List PyData} (h : Full ts) (r : Rw x) (d : PyData.depthAll x + (ts.length + 1) ≤ 300) : Full (ts ++ [x]) := fun i ds e => by
  by_cases lt : i < ts.length
  · rw [List.getElem?_append_left lt] at e
    exact h i ds e
  · by_cases eq : i = ts.length
    · subst eq
      rw [List.getElem?_append_right (Nat.le_refl _), Nat.sub_self] at e
      have e2 : x = ds := by simpa using e
      subst e2
      exact ⟨r, d⟩
    · have : (ts ++ [x])[i]? = none := List.getElem?_eq_none (by rw [List.length_append]; show ts.length + 1 ≤ i; omega)
      rw [this] at e
      cases e
theorem Full.init {ts : List (List PyData)} {x : List PyData} (h : Full (ts ++ [x])) : Full ts := fun i ds e => by
  have lt := (List.getElem?_eq_some_iff.mp e).1
  exact h i ds (by rw [List.getElem?_append_left lt]; exact e)
theorem Full.last {ts : List (List PyData)} {x : List PyData} (h : Full (ts ++ [x])) : Rw x ∧ PyData.depthAll x + (ts.length + 1) ≤ 300 := h ts.length x (by rw [List.getElem?_append_right (Nat.le_refl _), Nat.sub_self]; rfl)
theorem Full.nil : Full [] := fun i ds e => by simp at e
theorem dep_app (a b : List PyData) : PyData.depthAll (a ++ b) = max (PyData.depthAll a) (PyData.depthAll b) := by
  induction a with
  | nil => exact (Nat.zero_max _).symm
  | cons x xs ih =>
    show max x.depth (PyData.depthAll (xs ++ b)) = max (max x.depth (PyData.depthAll xs)) (PyData.depthAll b)
    rw [ih, Nat.max_assoc]
/-- what is begun, as data -/
theorem begun_data {b : Str} (h : Begun b) : tw (datum b) = true ∧ (datum b).depth = 0 ∧ cs (datum b) = b.cps.toList ∧ (headF b = false → ∃ w, datum b = .str w) := by
  rcases h with ⟨k, rfl, hk⟩ | ⟨c, r, rfl, hl, hn⟩
  · have k60 : k < 10 ^ 60 := by
      rcases Nat.lt_or_ge k (10 ^ 60) with h | h
      · exact h
      · exfalso
        have grow : ∀ m n : Nat, 10 ^ m ≤ n → m + 1 ≤ (TL.numL n).length := by
          intro m
          induction m with
          | zero =>
            intro n _
            exact List.length_pos_iff.mpr (TL.numL_ne n)
          | succ m ih =>
            intro n h
            rw [Nat.pow_succ] at h
            have p : 1 ≤ 10 ^ m := Nat.one_le_pow _ _ (by decide)
            rw [TL.numL_step (by omega), List.length_append]
            have := ih (n / 10) (by omega)
            show m + 1 + 1 ≤ (TL.numL (n / 10)).length + 1
            omega
        have := grow 60 k h
        omega
    rw [datum_num k k60]
    refine ⟨?_, rfl, ?_, fun f => ?_⟩
    · have a : (0 : Int) ≤ (k : Int) := by omega
      have b : (k : Int) < 10 ^ 60 := by omega
      rw [tw, decide_eq_true a, decide_eq_true b]
      rfl
    · rw [str_cps]
      exact TL.tl_num k
    · rw [num_head] at f
      cases f
  · have hF : headF (str (c :: r)) = false := by
      rw [head_word]
      exact isL_notF (hl c List.mem_cons_self)
    have e : datum (str (c :: r)) = .str (str (c :: r)) := by
      unfold datum
      rw [hF, if_neg Bool.false_ne_true]
    rw [e]
    refine ⟨?_, rfl, rfl, fun _ => ⟨_, rfl⟩⟩
    show wordB (str (c :: r)) = true
    unfold wordB
    rw [str_len, str_cps, decide_eq_true (by rw [List.length_cons]; omega), decide_eq_true hn, Bool.true_and, Bool.true_and, List.all_eq_true]
    intro x hx
    exact List.contains_iff_mem.mpr (of_decide_eq_true (hl x hx))
/-- what stands in the state behind the signs z -/
inductive Ph : RS → List Nat → Prop
  | start (b : Str) : Ph ⟨[], b, "start", none⟩ []
  | opn (ts : List (List PyData)) (b : Str) (h : Full ts) (n : ts.length < 300) : Ph ⟨ts ++ [[]], b, "open", none⟩ (prB ts ++ [40])
  | blk (ts : List (List PyData)) (x : List PyData) (b : Str) (h : Full (ts ++ [x])) : Ph ⟨ts ++ [x], b, "blank", none⟩ (prT (ts ++ [x]) ++ [32])
  | beg (ts : List (List PyData)) (x : List PyData) (b : Str) (hb : Begun b) (h : Full (ts ++ [x ++ [datum b]])) (hx : x = [] → headF b = false) : Ph ⟨ts ++ [x], b, "begun", none⟩ (prT (ts ++ [x ++ [datum b]]))
  | cls (ts : List (List PyData)) (x : List PyData) (b : Str) (h : Full (ts ++ [x])) : Ph ⟨ts ++ [x], b, "closed", none⟩ (prT (ts ++ [x]))
  | done (ds : List PyData) (b : Str) (h : Rw ds) (d : PyData.depthAll ds + 1 ≤ 300) : Ph ⟨[], b, "closed", some (.tuple ds)⟩ (cs (.tuple ds))
/-! ### takeR, state by state -/
theorem sb : ¬ ("start" : Str) = "blank" := by decide +kernel
theorem sg : ¬ ("start" : Str) = "begun" := by decide +kernel
theorem sc : ¬ ("start" : Str) = "closed" := by decide +kernel
theorem so : ¬ ("start" : Str) = "open" := by decide +kernel
theorem os : ¬ ("open" : Str) = "start" := by decide +kernel
theorem ob : ¬ ("open" : Str) = "blank" := by decide +kernel
theorem oc : ¬ ("open" : Str) = "closed" := by decide +kernel
theorem bs : ¬ ("blank" : Str) = "start" := by decide +kernel
theorem bo : ¬ ("blank" : Str) = "open" := by decide +kernel
theorem bc : ¬ ("blank" : Str) = "closed" := by decide +kernel
theorem gs : ¬ ("begun" : Str) = "start" := by decide +kernel
theorem gb : ¬ ("begun" : Str) = "blank" := by decide +kernel
theorem go_ : ¬ ("begun" : Str) = "open" := by decide +kernel
theorem cs_ : ¬ ("closed" : Str) = "start" := by decide +kernel
theorem cb : ¬ ("closed" : Str) = "blank" := by decide +kernel
theorem co : ¬ ("closed" : Str) = "open" := by decide +kernel
theorem cg : ¬ ("closed" : Str) = "begun" := by decide +kernel
theorem og : ¬ ("open" : Str) = "begun" := by decide +kernel
theorem bg : ¬ ("blank" : Str) = "begun" := by decide +kernel
theorem L40 : isL 40 = false := by decide +kernel
theorem F40 : isF 40 = false := by decide +kernel
theorem L41 : isL 41 = false := by decide +kernel
theorem L32 : isL 32 = false := by decide +kernel
theorem F41 : isF 41 = false := by decide +kernel
theorem F32 : isF 32 = false := by decide +kernel
theorem bit (c d : Nat) : decide (one c = one d) = decide (c = d) := one_is c (one d) d rfl
theorem take_eq (s : RS) (c : Nat) : takeR s c =
    if (decide (c = 40) && canOpen s) = true then some { s with trees := s.trees ++ [[]], last := "open" }
    else if (decide (c = 41) && canPart s) = true then some (closeR s)
    else if (decide (c = 32) && canPart s) = true then some { endB s with last := "blank" }
    else if (isLast s "begun" && goesOn s.begun c) = true then some { s with begun := s.begun ++ one c }
    else if canBegin s c = true then some { s with begun := one c, last := "begun" }
    else none := by
  unfold takeR
  rw [one_is c "(" 40 op_is, one_is c ")" 41 cl_is, one_is c " " 32 sp_is]
theorem t_start (b : Str) (c : Nat) : takeR ⟨[], b, "start", none⟩ c = if c = 40 then some ⟨[[]], b, "open", none⟩ else none := by
  rw [take_eq]
  simp only [canOpen, canPart, canBegin, isLast, sb, sg, sc, so, decide_true, decide_false, Bool.true_or, Bool.and_true, Bool.false_and, Bool.false_or, Bool.and_false, Bool.false_eq_true, if_false, decide_eq_true_eq, List.nil_append]
theorem t_open (ts : List (List PyData)) (b : Str) (c : Nat) : takeR ⟨ts ++ [[]], b, "open", none⟩ c = if isL c = true then some ⟨ts ++ [[]], one c, "begun", none⟩ else none := by
  rw [take_eq]
  simp only [canOpen, canPart, canBegin, isLast, os, ob, oc, og, decide_true, decide_false, Bool.true_or, Bool.and_true, Bool.false_and, Bool.false_or, Bool.and_false, Bool.false_eq_true, if_false, if_true]
theorem t_blank (ts : List (List PyData)) (b : Str) (c : Nat) : takeR ⟨ts, b, "blank", none⟩ c = if c = 40 then (if ts.length < 300 then some ⟨ts ++ [[]], b, "open", none⟩ else none) else if (isL c || isF c) = true then some ⟨ts, one c, "begun", none⟩ else none := by
  rw [take_eq]
  simp only [canOpen, canPart, canBegin, isLast, bs, bo, bc, bg, decide_true, decide_false, Bool.true_or, Bool.and_true, Bool.true_and, Bool.false_and, Bool.false_or, Bool.and_false, Bool.false_eq_true, if_false, Bool.and_eq_true, decide_eq_true_eq]
  by_cases h : c = 40
  · subst h
    rw [L40, F40]
    by_cases h2 : ts.length < 300
    · rw [if_pos ⟨rfl, by omega⟩, if_pos rfl, if_pos h2]
    · rw [if_neg (fun z => h2 (by omega)), if_pos rfl, if_neg h2]
      rfl
  · rw [if_neg (fun z => h z.1), if_neg h]
theorem t_begun (ts : List (List PyData)) (b : Str) (hb : Begun b) (c : Nat) : takeR ⟨ts, b, "begun", none⟩ c =
    if c = 41 then some (closeR ⟨ts, b, "begun", none⟩) else if c = 32 then some { endB ⟨ts, b, "begun", none⟩ with last := "blank" } else if goesOn b c = true then some ⟨ts, b ++ one c, "begun", none⟩ else none := by
  rw [take_eq]
  simp only [canOpen, canPart, canBegin, isLast, gs, gb, go_, decide_true, decide_false, Bool.true_or, Bool.and_true, Bool.true_and, Bool.false_and, Bool.false_or, Bool.and_false, Bool.false_eq_true, if_false, decide_eq_true_eq]
theorem t_closed (ts : List (List PyData)) (x : List PyData) (b : Str) (c : Nat) : takeR ⟨ts ++ [x], b, "closed", none⟩ c =
    if c = 41 then some (closeR ⟨ts ++ [x], b, "closed", none⟩) else if c = 32 then some ⟨ts ++ [x], b, "blank", none⟩ else none := by
  have e : endB ⟨ts ++ [x], b, "closed", none⟩ = ⟨ts ++ [x], b, "closed", none⟩ := endB_not _ "closed" rfl cg
  have l : decide (((ts ++ [x]).length : Int) > 0) = true := decide_eq_true (by rw [List.length_append]; show ((ts.length + 1 : Nat) : Int) > 0; omega)
  rw [take_eq, e]
  simp only [canOpen, canPart, canBegin, isLast, cs_, cb, co, cg, l, decide_true, decide_false, Bool.true_or, Bool.and_true, Bool.true_and, Bool.false_and, Bool.false_or, Bool.and_false, Bool.false_eq_true, if_false, decide_eq_true_eq]
theorem t_done (b : Str) (w : Option PyData) (c : Nat) : takeR ⟨[], b, "closed", w⟩ c = none := by
  rw [take_eq]
  have l : decide ((([] : List (List PyData)).length : Int) > 0) = false := by decide
  simp only [canOpen, canPart, canBegin, isLast, cs_, cb, co, cg, l, decide_true, decide_false, Bool.true_or, Bool.and_true, Bool.true_and, Bool.false_and, Bool.false_or, Bool.and_false, Bool.or_false, Bool.false_eq_true, if_false]
end Kf
set_option Elab.async false
set_option linter.all false
set_option maxRecDepth 100000
set_option maxHeartbeats 4000000
set_option pp.maxSteps 600
/-! The law's machine goes as the reader goes. -/
namespace Kf
open PySem PySem.Spec PyProof.Rows L2 Sx
structure LSt where
  what : Str
  many : Nat
  left : Nat
  first : Str
def nextL (l : LSt) (c : Nat) : Option LSt :=
  if l.what = "done" then none
  else if l.what = "begin" ∨ (l.what = "part" ∧ c = 40) then (if c = 40 ∧ l.left < 300 then some ⟨"word", 0, l.left + 1, ""⟩ else none)
  else if l.what = "part" then (if isL c = true then some ⟨"letters", 1, l.left, one c⟩ else if isF c = true then some ⟨"figures", 1, l.left, one c⟩ else none)
  else if l.what = "word" then (if isL c = true then some ⟨"letters", 1, l.left, one c⟩ else none)
  else if l.what = "letters" ∧ isL c = true then (if l.many < 8 then some ⟨"letters", l.many + 1, l.left, l.first⟩ else none)
  else if l.what = "figures" ∧ isF c = true then (if l.many < 60 ∧ l.first ≠ "0" then some ⟨"figures", l.many + 1, l.left, l.first⟩ else none)
  else if c = 32 then some ⟨"part", 0, l.left, ""⟩
  else if c = 41 then some (if l.left > 1 then ⟨"closed", 0, l.left - 1, ""⟩ else ⟨"done", 0, 0, ""⟩)
  else none
def firstOf (b : Str) : Str := match b.cps.toList with
  | c :: _ => one c
  | [] => ""
def absL (s : RS) : LSt :=
  if s.last = "start" then ⟨"begin", 0, 0, ""⟩
  else if s.last = "open" then ⟨"word", 0, s.trees.length, ""⟩
  else if s.last = "blank" then ⟨"part", 0, s.trees.length, ""⟩
  else if s.last = "begun" then (if headF s.begun = true then ⟨"figures", s.begun.length, s.trees.length, firstOf s.begun⟩ else ⟨"letters", s.begun.length, s.trees.length, firstOf s.begun⟩)
  else if s.trees = [] then ⟨"done", 0, 0, ""⟩ else ⟨"closed", 0, s.trees.length, ""⟩
theorem a_start (ts : List (List PyData)) (b : Str) (w : Option PyData) : absL ⟨ts, b, "start", w⟩ = ⟨"begin", 0, 0, ""⟩ := if_pos rfl
theorem a_open (ts : List (List PyData)) (b : Str) (w : Option PyData) : absL ⟨ts, b, "open", w⟩ = ⟨"word", 0, ts.length, ""⟩ := (if_neg os).trans (if_pos rfl)
theorem a_blank (ts : List (List PyData)) (b : Str) (w : Option PyData) : absL ⟨ts, b, "blank", w⟩ = ⟨"part", 0, ts.length, ""⟩ := (if_neg bs).trans ((if_neg bo).trans (if_pos rfl))
theorem a_begun (ts : List (List PyData)) (b : Str) (w : Option PyData) : absL ⟨ts, b, "begun", w⟩ = (if headF b = true then ⟨"figures", b.length, ts.length, firstOf b⟩ else ⟨"letters", b.length, ts.length, firstOf b⟩) := (if_neg gs).trans ((if_neg go_).trans ((if_neg gb).trans (if_pos rfl)))
theorem a_closed (ts : List (List PyData)) (b : Str) (w : Option PyData) : absL ⟨ts, b, "closed", w⟩ = (if ts = [] then ⟨"done", 0, 0, ""⟩ else ⟨"closed", 0, ts.length, ""⟩) := (if_neg cs_).trans ((if_neg co).trans ((if_neg cb).trans (if_neg cg)))
/-- words that are other ones -/
theorem w1 : ¬ ("begin" : Str) = "done" := by decide +kernel
theorem w2 : ¬ ("part" : Str) = "done" := by decide +kernel
theorem w3 : ¬ ("word" : Str) = "done" := by decide +kernel
theorem w4 : ¬ ("letters" : Str) = "done" := by decide +kernel
theorem w5 : ¬ ("figures" : Str) = "done" := by decide +kernel
theorem w6 : ¬ ("closed" : Str) = "done" := by decide +kernel
theorem w7 : ¬ ("part" : Str) = "begin" := by decide +kernel
theorem w8 : ¬ ("word" : Str) = "begin" := by decide +kernel
theorem w9 : ¬ ("letters" : Str) = "begin" := by decide +kernel
theorem w10 : ¬ ("figures" : Str) = "begin" := by decide +kernel
theorem w11 : ¬ ("closed" : Str) = "begin" := by decide +kernel
theorem w12 : ¬ ("word" : Str) = "part" := by decide +kernel
theorem w13 : ¬ ("letters" : Str) = "part" := by decide +kernel
theorem w14 : ¬ ("figures" : Str) = "part" := by decide +kernel
theorem w15 : ¬ ("closed" : Str) = "part" := by decide +kernel
theorem w16 : ¬ ("letters" : Str) = "word" := by decide +kernel
theorem w17 : ¬ ("figures" : Str) = "word" := by decide +kernel
theorem w18 : ¬ ("closed" : Str) = "word" := by decide +kernel
theorem w19 : ¬ ("figures" : Str) = "letters" := by decide +kernel
theorem w20 : ¬ ("closed" : Str) = "letters" := by decide +kernel
theorem w21 : ¬ ("closed" : Str) = "figures" := by decide +kernel
theorem w22 : ¬ ("letters" : Str) = "figures" := by decide +kernel
theorem n_begin (m k : Nat) (f : Str) (c : Nat) : nextL ⟨"begin", m, k, f⟩ c = if c = 40 ∧ k < 300 then some ⟨"word", 0, k + 1, ""⟩ else none := (if_neg w1).trans (if_pos (.inl rfl))
theorem n_word (m k : Nat) (f : Str) (c : Nat) : nextL ⟨"word", m, k, f⟩ c = if isL c = true then some ⟨"letters", 1, k, one c⟩ else none := (if_neg w3).trans ((if_neg (fun z => z.elim w8 (fun q => w12 q.1))).trans ((if_neg w12).trans (if_pos rfl)))
theorem n_part (m k : Nat) (f : Str) (c : Nat) : nextL ⟨"part", m, k, f⟩ c = if c = 40 then (if k < 300 then some ⟨"word", 0, k + 1, ""⟩ else none) else (if isL c = true then some ⟨"letters", 1, k, one c⟩ else if isF c = true then some ⟨"figures", 1, k, one c⟩ else none) := by
  by_cases h : c = 40
  · rw [if_pos h]
    refine (if_neg w2).trans ((if_pos (.inr ⟨rfl, h⟩)).trans ?_)
    by_cases h2 : k < 300
    · rw [if_pos h2]
      exact if_pos ⟨h, h2⟩
    · rw [if_neg h2]
      exact if_neg fun z => h2 z.2
  · rw [if_neg h]
    exact (if_neg w2).trans ((if_neg (fun z => z.elim w7 (fun q => h q.2))).trans (if_pos rfl))
theorem n_end (l : LSt) (c : Nat) (h1 : l.what ≠ "done") (h2 : l.what ≠ "begin") (h3 : l.what ≠ "part") (h4 : l.what ≠ "word") (h5 : ¬ (l.what = "letters" ∧ isL c = true)) (h6 : ¬ (l.what = "figures" ∧ isF c = true)) :
    nextL l c = if c = 32 then some ⟨"part", 0, l.left, ""⟩ else if c = 41 then some (if l.left > 1 then ⟨"closed", 0, l.left - 1, ""⟩ else ⟨"done", 0, 0, ""⟩) else none :=
  (if_neg h1).trans ((if_neg (fun z => z.elim h2 (fun q => h3 q.1))).trans ((if_neg h3).trans ((if_neg h4).trans ((if_neg h5).trans (if_neg h6)))))
theorem n_letter (m k : Nat) (f : Str) (c : Nat) (h : isL c = true) : nextL ⟨"letters", m, k, f⟩ c = if m < 8 then some ⟨"letters", m + 1, k, f⟩ else none :=
  (if_neg w4).trans ((if_neg (fun z => z.elim w9 (fun q => w13 q.1))).trans ((if_neg w13).trans ((if_neg w16).trans (if_pos ⟨rfl, h⟩))))
theorem n_figure (m k : Nat) (f : Str) (c : Nat) (h : isF c = true) : nextL ⟨"figures", m, k, f⟩ c = if m < 60 ∧ f ≠ "0" then some ⟨"figures", m + 1, k, f⟩ else none :=
  (if_neg w5).trans ((if_neg (fun z => z.elim w10 (fun q => w14 q.1))).trans ((if_neg w14).trans ((if_neg w17).trans ((if_neg (fun z => w19 z.1)).trans (if_pos ⟨rfl, h⟩)))))
theorem n_done (m k : Nat) (f : Str) (c : Nat) : nextL ⟨"done", m, k, f⟩ c = none := if_pos rfl
/-! ### a tree is closed -/
theorem close_ph (s : RS) (ts : List (List PyData)) (y : List PyData) (b l : Str) (e : endB s = ⟨ts ++ [y], b, l, none⟩) (h : Full (ts ++ [y])) :
    Ph (closeR s) (prT (ts ++ [y]) ++ [41]) ∧ absL (closeR s) = if ts.length + 1 > 1 then ⟨"closed", 0, ts.length, ""⟩ else ⟨"done", 0, 0, ""⟩ := by
  obtain ⟨ry, dy⟩ := h.last
  rcases List.eq_nil_or_concat ts with z | ⟨a, u, z⟩
  · subst z
    have ec : closeR s = ⟨[], b, "closed", some (.tuple y)⟩ := by
      unfold closeR
      rw [e]
      rfl
    rw [ec, a_closed, if_pos rfl]
    refine ⟨?_, rfl⟩
    have ez : prT ([] ++ [y]) ++ [41] = cs (.tuple y) := (cs_row ry).symm
    rw [ez]
    exact .done y b ry dy
  · rw [List.concat_eq_append] at z
    subst z
    have ec : closeR s = ⟨a ++ [u ++ [.tuple y]], b, "closed", none⟩ := by
      have e2 : closeT (a ++ [u] ++ [y]).reverse = some (a ++ [u ++ [.tuple y]], none) := by
        rw [List.reverse_append, List.reverse_append]
        show some (pushL (u :: a.reverse).reverse (.tuple y), none) = _
        rw [List.reverse_cons, List.reverse_reverse, pushL_app]
      unfold closeR
      rw [e]
      dsimp only
      rw [e2]
    obtain ⟨ru, du⟩ := h.init.last
    have ty : tw (.tuple y) = true := ry
    have ln : (a ++ [u]).length = a.length + 1 := by rw [List.length_append]; rfl
    rw [ln] at dy
    have F : Full (a ++ [u ++ [.tuple y]]) := h.init.init.app (ru.push ty) (by
      rw [dep_app]
      show max (PyData.depthAll u) (max (PyData.depthAll y + 1) 0) + (a.length + 1) ≤ 300
      omega)
    rw [ec, a_closed]
    refine ⟨?_, ?_⟩
    · have ez : prT (a ++ [u] ++ [y]) ++ [41] = prT (a ++ [u ++ [.tuple y]]) := by
        rw [pre_app, pre_app, jc_push u _ ru.ne, cs_row ry]
        unfold prB
        rw [if_neg (by simp), pre_app]
        unfold prB
        simp
      rw [ez]
      exact .cls a _ b F
    · rw [if_neg (by simp), if_pos (by rw [ln]; omega), ln, List.length_append]
      rfl
theorem row_one {b : Str} (hb : Begun b) (f : headF b = false) : Rw [datum b] := by
  obtain ⟨t, _, _, g⟩ := begun_data hb
  obtain ⟨w, ew⟩ := g f
  unfold Rw
  rw [ew] at t ⊢
  show (true && (tw (.str w) && true)) = true
  rw [t]
  rfl
theorem Rw.tail {x : List PyData} {d : PyData} (h : Rw (x ++ [d])) (ne : x ≠ []) : Rw x := by
  unfold Rw at *
  rw [Bool.and_eq_true] at *
  obtain ⟨h1, h2⟩ := h
  rw [tws_app, Bool.and_eq_true] at h2
  refine ⟨?_, h2.1⟩
  cases x with
  | nil => exact absurd rfl ne
  | cons a r =>
    cases a with
    | str w => rfl
    | _ => exact (Bool.false_ne_true h1).elim
theorem head_more {b : Str} (hb : Begun b) (c : Nat) : headF (b ++ one c) = headF b ∧ firstOf (b ++ one c) = firstOf b ∧ (b ++ one c).length = b.length + 1 := by
  obtain ⟨x, r, e, _, _⟩ := begun_ne hb
  have e2 : b ++ one c = str (x :: (r ++ [c])) := by
    rw [e]
    show str (x :: r) ++ str [c] = _
    rw [str_app]
    rfl
  refine ⟨?_, ?_, add_len⟩
  · rw [e2, e, head_word, head_word]
  · rw [e2, e]
    unfold firstOf
    rw [str_cps, str_cps]
theorem zero_first {b : Str} (hb : Begun b) (f : headF b = true) : firstOf b = "0" ↔ b = "0" := by
  rcases hb with ⟨k, rfl, hk⟩ | ⟨x, r, rfl, hl, _⟩
  · constructor
    · intro h
      unfold firstOf at h
      rw [str_cps] at h
      -- a number that begins with 0 is 0
      have lead : ∀ n : Nat, ∀ r, TL.numL n = 48 :: r → n = 0 := by
        intro n
        induction n using Nat.strongRecOn with
        | _ n ih =>
          intro r e
          by_cases lt : n < 10
          · rw [TL.numL_lt lt] at e
            injection e with e
            omega
          · rw [TL.numL_step (by omega)] at e
            cases e2 : TL.numL (n / 10) with
            | nil => exact absurd e2 (TL.numL_ne _)
            | cons y ys =>
              rw [e2] at e
              injection e with e
              subst e
              have := ih (n / 10) (by omega) ys e2
              omega
      cases e : TL.numL k with
      | nil => exact absurd e (TL.numL_ne k)
      | cons y ys =>
        rw [e] at h
        have h2 : one y = one 48 := h.trans (by decide +kernel)
        have y48 := one_inj h2
        subst y48
        rw [← e, lead k ys e, num_zero, zero_is]
    · intro h
      rw [h]
      decide +kernel
  · rw [head_word, isL_notF (hl x List.mem_cons_self)] at f
    cases f
/-! ### one sign more -/
theorem ph_take {s : RS} {z : List Nat} (h : Ph s z) (c : Nat) : (∀ s', takeR s c = some s' → Ph s' (z ++ [c])) ∧ nextL (absL s) c = (takeR s c).map absL := by
  cases h with
  | start b =>
    rw [t_start, a_start, n_begin]
    by_cases h : c = 40
    · rw [if_pos h, if_pos ⟨h, by decide⟩]
      refine ⟨fun s' e => ?_, rfl⟩
      injection e with e
      rw [← e, h]
      exact .opn [] b Full.nil (by decide)
    · rw [if_neg h, if_neg (fun q => h q.1)]
      exact ⟨fun s' e => (by cases e), rfl⟩
  | opn ts b hF n =>
    rw [t_open, a_open, n_word]
    cases hc : isL c with
    | true =>
      rw [if_pos rfl, if_pos rfl]
      have hb : Begun (one c) := begin_begun (.inl hc)
      have hf : headF (one c) = false := (head_word c []).trans (isL_notF hc)
      refine ⟨fun s' e => ?_, ?_⟩
      · injection e with e
        rw [← e]
        have F : Full (ts ++ [[] ++ [datum (one c)]]) := hF.app (row_one hb hf) (by
          show max (datum (one c)).depth 0 + (ts.length + 1) ≤ 300
          rw [(begun_data hb).2.1]
          omega)
        have ez : prB ts ++ [40] ++ [c] = prT (ts ++ [[] ++ [datum (one c)]]) := by
          rw [pre_app, List.nil_append, jc_one, (begun_data hb).2.2.1]
          show _ = prB ts ++ 40 :: [c]
          simp
        rw [ez]
        exact .beg ts [] (one c) hb F (fun _ => hf)
      · show _ = some (absL ⟨ts ++ [[]], one c, "begun", none⟩)
        rw [a_begun, hf, if_neg Bool.false_ne_true]
        rfl
    | false =>
      rw [if_neg Bool.false_ne_true, if_neg Bool.false_ne_true]
      exact ⟨fun s' e => (by cases e), rfl⟩
  | blk ts x b hF =>
    rw [t_blank, a_blank, n_part]
    by_cases h : c = 40
    · rw [if_pos h, if_pos h]
      by_cases h2 : (ts ++ [x]).length < 300
      · rw [if_pos h2, if_pos h2]
        refine ⟨fun s' e => ?_, ?_⟩
        · injection e with e
          rw [← e, h]
          have ez : prT (ts ++ [x]) ++ [32] = prB (ts ++ [x]) := (if_neg (by simp)).symm
          rw [ez]
          exact .opn _ b hF h2
        · show _ = some (absL ⟨ts ++ [x] ++ [[]], b, "open", none⟩)
          rw [a_open, List.length_append (as := ts ++ [x])]
          rfl
      · rw [if_neg h2, if_neg h2]
        exact ⟨fun s' e => (by cases e), rfl⟩
    · rw [if_neg h, if_neg h]
      cases hc : (isL c || isF c) with
      | false =>
        rw [Bool.or_eq_false_iff] at hc
        rw [hc.1, hc.2]
        exact ⟨fun s' e => (by cases e), rfl⟩
      | true =>
        rw [if_pos rfl]
        have hc2 : isL c = true ∨ isF c = true := by
          rw [Bool.or_eq_true] at hc
          exact hc
        have hb : Begun (one c) := begin_begun hc2
        obtain ⟨rx, dx⟩ := hF.last
        refine ⟨fun s' e => ?_, ?_⟩
        · injection e with e
          rw [← e]
          have F : Full (ts ++ [x ++ [datum (one c)]]) := hF.init.app (rx.push (begun_data hb).1) (by
            rw [dep_app]
            show max (PyData.depthAll x) (max (datum (one c)).depth 0) + (ts.length + 1) ≤ 300
            rw [(begun_data hb).2.1]
            omega)
          have ez : prT (ts ++ [x]) ++ [32] ++ [c] = prT (ts ++ [x ++ [datum (one c)]]) := by
            rw [pre_app, pre_app, jc_push x _ rx.ne, (begun_data hb).2.2.1]
            show _ = prB ts ++ 40 :: (jc x ++ 32 :: [c])
            simp
          rw [ez]
          exact .beg ts x (one c) hb F (fun z => absurd z rx.ne)
        · show _ = some (absL ⟨ts ++ [x], one c, "begun", none⟩)
          rw [a_begun, show headF (one c) = isF c from head_word c []]
          cases hl : isL c with
          | true =>
            rw [isL_notF hl, if_pos rfl, if_neg Bool.false_ne_true]
            rfl
          | false =>
            rw [hl] at hc2
            have hf : isF c = true := hc2.resolve_left Bool.false_ne_true
            rw [if_neg Bool.false_ne_true, hf, if_pos rfl, if_pos rfl]
            rfl
  | beg ts x b hb hF hx =>
    have eB : endB ⟨ts ++ [x], b, "begun", none⟩ = ⟨ts ++ [x ++ [datum b]], b, "begun", none⟩ := by
      rw [endB_begun _ rfl]
      show ({ trees := pushL (ts ++ [x]) (datum b), begun := b, last := "begun", whole := none } : RS) = _
      rw [pushL_app]
    have cl := close_ph _ ts (x ++ [datum b]) b "begun" eB hF
    have ln : (ts ++ [x]).length = ts.length + 1 := by rw [List.length_append]; rfl
    rw [t_begun _ _ hb, a_begun, eB, ln]
    -- the other signs
    have rest : ∀ l : LSt, l.left = ts.length + 1 → nextL l c = (if c = 32 then some ⟨"part", 0, l.left, ""⟩ else if c = 41 then some (if l.left > 1 then ⟨"closed", 0, l.left - 1, ""⟩ else ⟨"done", 0, 0, ""⟩) else none) → goesOn b c = false →
        (∀ s', (if c = 41 then some (closeR ⟨ts ++ [x], b, "begun", none⟩) else if c = 32 then some ⟨ts ++ [x ++ [datum b]], b, "blank", none⟩ else if goesOn b c = true then some ⟨ts ++ [x], b ++ one c, "begun", none⟩ else none) = some s' → Ph s' (prT (ts ++ [x ++ [datum b]]) ++ [c])) ∧
        nextL l c = (if c = 41 then some (closeR ⟨ts ++ [x], b, "begun", none⟩) else if c = 32 then some ⟨ts ++ [x ++ [datum b]], b, "blank", none⟩ else if goesOn b c = true then some ⟨ts ++ [x], b ++ one c, "begun", none⟩ else none).map absL := fun l el en g => by
      rw [en, g, el]
      by_cases h41 : c = 41
      · rw [if_pos h41, if_neg (by omega), if_pos h41]
        refine ⟨fun s' e => ?_, ?_⟩
        · injection e with e
          rw [← e, h41]
          exact cl.1
        · show _ = some (absL (closeR _))
          rw [cl.2]
          rfl
      · rw [if_neg h41]
        by_cases h32 : c = 32
        · rw [if_pos h32, if_pos h32]
          refine ⟨fun s' e => ?_, ?_⟩
          · injection e with e
            rw [← e, h32]
            exact .blk ts _ b hF
          · show _ = some (absL ⟨ts ++ [x ++ [datum b]], b, "blank", none⟩)
            rw [a_blank, List.length_append]
            rfl
        · rw [if_neg h32, if_neg h32, if_neg h41, if_neg Bool.false_ne_true]
          exact ⟨fun s' e => (by cases e), rfl⟩
    obtain ⟨m1, m2, m3⟩ := head_more hb c
    -- it goes on
    have more : 48 ≤ c → goesOn b c = true → ∀ s', (if c = 41 then some (closeR ⟨ts ++ [x], b, "begun", none⟩) else if c = 32 then some ⟨ts ++ [x ++ [datum b]], b, "blank", none⟩ else if goesOn b c = true then some ⟨ts ++ [x], b ++ one c, "begun", none⟩ else none) = some s' → Ph s' (prT (ts ++ [x ++ [datum b]]) ++ [c]) := fun c48 g s' e => by
      rw [if_neg (by omega), if_neg (by omega), if_pos g] at e
      injection e with e
      rw [← e]
      have hb2 := goes_begun hb g
      obtain ⟨rxd, dxd⟩ := hF.last
      have rx2 : Rw (x ++ [datum (b ++ one c)]) := by
        by_cases ne : x = []
        · subst ne
          exact row_one hb2 (by rw [m1]; exact hx rfl)
        · exact (rxd.tail ne).push (begun_data hb2).1
      have F : Full (ts ++ [x ++ [datum (b ++ one c)]]) := hF.init.app rx2 (by
        rw [dep_app] at dxd ⊢
        show max (PyData.depthAll x) (max (datum (b ++ one c)).depth 0) + (ts.length + 1) ≤ 300
        rw [(begun_data hb2).2.1]
        omega)
      have ez : prT (ts ++ [x ++ [datum b]]) ++ [c] = prT (ts ++ [x ++ [datum (b ++ one c)]]) := by
        rw [pre_app, pre_app]
        by_cases ne : x = []
        · subst ne
          rw [List.nil_append, List.nil_append, jc_one, jc_one, (begun_data hb).2.2.1, (begun_data hb2).2.2.1, add_tl]
          show prB ts ++ 40 :: b.cps.toList ++ [c] = prB ts ++ 40 :: (b.cps.toList ++ [c])
          simp
        · rw [jc_push x _ ne, jc_push x _ ne, (begun_data hb).2.2.1, (begun_data hb2).2.2.1, add_tl]
          show prB ts ++ 40 :: (jc x ++ 32 :: b.cps.toList) ++ [c] = prB ts ++ 40 :: (jc x ++ 32 :: (b.cps.toList ++ [c]))
          simp
      rw [ez]
      exact .beg ts x _ hb2 F (fun z => by rw [m1]; exact hx z)
    have mapB : (48 ≤ c) → goesOn b c = true → (if c = 41 then some (closeR ⟨ts ++ [x], b, "begun", none⟩) else if c = 32 then some ⟨ts ++ [x ++ [datum b]], b, "blank", none⟩ else if goesOn b c = true then some ⟨ts ++ [x], b ++ one c, "begun", none⟩ else none).map absL = some (if headF b = true then ⟨"figures", b.length + 1, ts.length + 1, firstOf b⟩ else ⟨"letters", b.length + 1, ts.length + 1, firstOf b⟩) := fun c48 g => by
      rw [if_neg (by omega), if_neg (by omega), if_pos g]
      show some (absL ⟨ts ++ [x], b ++ one c, "begun", none⟩) = _
      rw [a_begun, m1, m2, m3, ln]
    have stop : 48 ≤ c → goesOn b c = false → (if c = 41 then some (closeR ⟨ts ++ [x], b, "begun", none⟩) else if c = 32 then some ⟨ts ++ [x ++ [datum b]], b, "blank", none⟩ else if goesOn b c = true then some ⟨ts ++ [x], b ++ one c, "begun", none⟩ else none) = none := fun c48 g => by
      rw [if_neg (by omega), if_neg (by omega), g]
      rfl
    cases hF2 : headF b with
    | true =>
      rw [if_pos rfl]
      cases hc : isF c with
      | true =>
        have c48 := (isF_of hc).1
        rw [n_figure _ _ _ _ hc]
        have zf := zero_first hb hF2
        have gE : goesOn b c = true ↔ (b.length < 60 ∧ firstOf b ≠ "0") := by
          unfold goesOn
          rw [hF2, if_pos rfl, hc, Bool.true_and, Bool.and_eq_true, decide_eq_true_eq, decide_eq_true_eq]
          constructor
          · rintro ⟨a1, a2⟩
            exact ⟨by omega, fun z => a1 (zf.mp z)⟩
          · rintro ⟨a1, a2⟩
            exact ⟨fun z => a2 (zf.mpr z), by omega⟩
        by_cases g : goesOn b c = true
        · refine ⟨more c48 g, ?_⟩
          rw [mapB c48 g, if_pos (gE.mp g), hF2, if_pos rfl]
        · have g2 : goesOn b c = false := by
            cases e : goesOn b c with
            | true => exact absurd e g
            | false => rfl
          rw [stop c48 g2, if_neg (fun q => g (gE.mpr q))]
          exact ⟨fun s' e => (by cases e), rfl⟩
      | false =>
        have g : goesOn b c = false := by
          unfold goesOn
          rw [hF2, if_pos rfl, hc]
          rfl
        exact rest _ rfl (n_end _ c w5 w10 w14 w17 (fun q => w19 q.1) (fun q => by rw [hc] at q; exact Bool.false_ne_true q.2)) g
    | false =>
      rw [if_neg Bool.false_ne_true]
      cases hc : isL c with
      | true =>
        have c48 : 48 ≤ c := by have := (isL_of hc).1; omega
        rw [n_letter _ _ _ _ hc]
        have gE : goesOn b c = true ↔ b.length < 8 := by
          unfold goesOn
          rw [hF2, if_neg Bool.false_ne_true, hc, Bool.true_and, decide_eq_true_eq]
          omega
        by_cases g : goesOn b c = true
        · refine ⟨more c48 g, ?_⟩
          rw [mapB c48 g, if_pos (gE.mp g), hF2, if_neg Bool.false_ne_true]
        · have g2 : goesOn b c = false := by
            cases e : goesOn b c with
            | true => exact absurd e g
            | false => rfl
          rw [stop c48 g2, if_neg (fun q => g (gE.mpr q))]
          exact ⟨fun s' e => (by cases e), rfl⟩
      | false =>
        have g : goesOn b c = false := by
          unfold goesOn
          rw [hF2, if_neg Bool.false_ne_true, hc]
          rfl
        exact rest _ rfl (n_end _ c w4 w9 w13 w16 (fun q => by rw [hc] at q; exact Bool.false_ne_true q.2) (fun q => w22 q.1)) g
  | cls ts x b hF =>
    have eB : endB ⟨ts ++ [x], b, "closed", none⟩ = ⟨ts ++ [x], b, "closed", none⟩ := endB_not _ "closed" rfl cg
    have cl := close_ph _ ts x b "closed" eB hF
    have ln : (ts ++ [x]).length = ts.length + 1 := by rw [List.length_append]; rfl
    rw [t_closed, a_closed, if_neg (show ¬ ts ++ [x] = [] by simp), ln, n_end _ c w6 w11 w15 w18 (fun q => w20 q.1) (fun q => w21 q.1)]
    by_cases h41 : c = 41
    · rw [if_pos h41, if_neg (by omega), if_pos h41]
      refine ⟨fun s' e => ?_, ?_⟩
      · injection e with e
        rw [← e, h41]
        exact cl.1
      · show _ = some (absL (closeR _))
        rw [cl.2]
        rfl
    · rw [if_neg h41]
      by_cases h32 : c = 32
      · rw [if_pos h32, if_pos h32]
        refine ⟨fun s' e => ?_, ?_⟩
        · injection e with e
          rw [← e, h32]
          exact .blk ts x b hF
        · show _ = some (absL ⟨ts ++ [x], b, "blank", none⟩)
          rw [a_blank, ln]
      · rw [if_neg h32, if_neg h32, if_neg h41]
        exact ⟨fun s' e => (by cases e), rfl⟩
  | done ds b hr hd =>
    rw [t_done, a_closed, if_pos rfl, n_done]
    exact ⟨fun s' e => (by cases e), rfl⟩
end Kf
set_option Elab.async false
set_option linter.all false
set_option maxRecDepth 100000
set_option maxHeartbeats 8000000
set_option pp.maxSteps 500
/-! The law's own reading. -/
namespace Kf
open PySem PySem.Spec PyProof.Rows L2 Sx
abbrev sNext : Stmt := top 20
abbrev nextN : List Str := ["state", "sign", "what", "many", "left", "first", "letter"]
theorem scNext : FnScope nextN ["state", "sign"] (defScope sNext) := ⟨rfl, rfl, rfl, by decide +kernel, rfl, by decide +kernel, by decide +kernel⟩
abbrev sWrong : Stmt := top 21
abbrev wrongN : List Str := ["text", "state", "at", "sign"]
theorem scWrong : FnScope wrongN ["text"] (defScope sWrong) := ⟨rfl, rfl, rfl, by decide +kernel, rfl, by decide +kernel, by decide +kernel⟩
theorem ways2 {C1 C2 G1 G2 M : Prop} (main : (C1 → G1) → (C2 → G2) → M) (b : C1 → G1) (r : C2 → G2) : M := main b r
theorem eqC {c d : Nat} {z : Str} {A B : Prop} (hz : z = one d) (t : c = d → A) (f : c ≠ d → B) : if decide (V.str (one c) = V.str z) = true then A else B :=
  eqS (fun e => t (one_inj (e.trans hz))) (fun n => f (fun e => n (by rw [e, hz])))
def lv (l : LSt) : List V := [.str l.what, .int (l.many : Int), .int (l.left : Int), .str l.first]
def OutL (H : Hp) (r : V) : Option LSt → Prop
  | none => r = .non
  | some l => ∃ p, r = .ref p ∧ H p = some (.lst (lv l))
section
variable {P : Program} {w : World} {K : PySem.W.Frag} {mg : Str → Option Value} {base : Heap}
def spNext : Sp := fun vs H Q _ => ∃ (p : Addr) (l : LSt) (c : Nat), vs = [.ref p, .str (one c)] ∧ H p = some (.lst (lv l)) ∧ ∀ r H', Same H H' → OutL H' r (nextL l c) → Q r H'
theorem ok_next {f : Addr} {fd : FuncData} (F : Fun K "_law_next" "_law_next" sNext f fd) : FnOk P w K mg base CX0 1 f fd ["state", "sign"] spNext := by
  refine F.ok scNext (fun vs H Q E h => ?_) (fun cdv A outer s H vs Q E hr h => ?_)
  · obtain ⟨p, l, c, rfl, _⟩ := h
    rfl
  obtain ⟨p, l, c, rfl, hp, q⟩ := h
  refine ⟨_, (pss_cons (ps_asg (pv 0) (pg_unl (by rfl) (pgs_cons (pg_name (i := 2) scNext.nd rfl (.inl rfl)) (pgs_cons (pg_name (i := 3) scNext.nd rfl (.inl rfl)) (pgs_cons (pg_name (i := 4) scNext.nd rfl (.inl rfl)) (pgs_cons (pg_name (i := 5) scNext.nd rfl (.inl rfl)) pgs_nil))))))
    (pss_cons (ps_set (i := 6) scNext.nd rfl (.inl rfl) (pe_cmpR op_in_sign (pv 1) pe_str (by rfl)))
    (pss_cons (ps_if (pt_cmpR op_eq (pv 2) pe_str (nomark _)) (pss_one (ps_ret pe_non)) pss_nil)
    (pss_cons (ps_if (PW.pt (pw_or (pt_cmpR op_eq (pv 2) pe_str (nomark _)) (pw_or1 (PW.pt (pw_and (pt_cmpR op_eq (pv 2) pe_str (nomark _)) (pw_and1 (pt_cmpR op_eq (pv 1) pe_str (nomark _)))))))) (pss_one (ps_ret (pe_ifExp (PW.pt (pw_and (pt_cmpR op_eq (pv 1) pe_str (nomark _)) (pw_and1 (pt_cmpR op_lt (pv 4) pe_int (nomark _))))) (pe_lst (pa_cons pe_str (pa_cons pe_int (pa_cons (pe_op op_add (pv 4) pe_int) (pa_cons pe_str pa_nil))))) pe_non))) pss_nil)
    (pss_cons (ps_if (pt_cmpR op_eq (pv 2) pe_str (nomark _)) (pss_cons (ps_if (pt_val (pv 6)) (pss_one (ps_ret (pe_lst (pa_cons pe_str (pa_cons pe_int (pa_cons (pv 4) (pa_cons (pv 1) pa_nil))))))) pss_nil)
    (pss_one (ps_ret (pe_ifExp (pt_cmpR op_in_sign (pv 1) pe_str (by rfl)) (pe_lst (pa_cons pe_str (pa_cons pe_int (pa_cons (pv 4) (pa_cons (pv 1) pa_nil))))) pe_non)))) pss_nil)
    (pss_cons (ps_if (pt_cmpR op_eq (pv 2) pe_str (nomark _)) (pss_one (ps_ret (pe_ifExp (pt_val (pv 6)) (pe_lst (pa_cons pe_str (pa_cons pe_int (pa_cons (pv 4) (pa_cons (pv 1) pa_nil))))) pe_non))) pss_nil)
    (pss_cons (ps_if (PW.pt (pw_and (pt_cmpR op_eq (pv 2) pe_str (nomark _)) (pw_and1 (pt_val (pv 6))))) (pss_one (ps_ret (pe_ifExp (pt_cmpR op_lt (pv 3) pe_int (nomark _)) (pe_lst (pa_cons pe_str (pa_cons (pe_op op_add (pv 3) pe_int) (pa_cons (pv 4) (pa_cons (pv 5) pa_nil))))) pe_non))) pss_nil)
    (pss_cons (ps_if (PW.pt (pw_and (pt_cmpR op_eq (pv 2) pe_str (nomark _)) (pw_and1 (pt_cmpR op_in_sign (pv 1) pe_str (by rfl))))) (pss_one (ps_ret (pe_ifExp (PW.pt (pw_and (pt_cmpR op_lt (pv 3) pe_int (nomark _)) (pw_and1 (pt_cmpR op_ne (pv 5) pe_str (nomark _))))) (pe_lst (pa_cons pe_str (pa_cons (pe_op op_add (pv 3) pe_int) (pa_cons (pv 4) (pa_cons (pv 5) pa_nil))))) pe_non))) pss_nil)
    (pss_cons (ps_if (pt_cmpR op_eq (pv 1) pe_str (nomark _)) (pss_one (ps_ret (pe_lst (pa_cons pe_str (pa_cons pe_int (pa_cons (pv 4) (pa_cons pe_str pa_nil))))))) pss_nil)
    (pss_cons (ps_if (pt_cmpR op_eq (pv 1) pe_str (nomark _)) (pss_one (ps_ret (pe_ifExp (pt_cmpR op_gt (pv 4) pe_int (nomark _)) (pe_lst (pa_cons pe_str (pa_cons pe_int (pa_cons (pe_op op_sub (pv 4) pe_int) (pa_cons pe_str pa_nil))))) (pe_lst (pa_cons pe_str (pa_cons pe_int (pa_cons pe_int (pa_cons pe_str pa_nil)))))))) pss_nil)
    (pss_one (ps_ret pe_non)))))))))))), ?_⟩
  refine ⟨_, rfl, p, lv l, rfl, .inl (.inl hp), rfl, _, _, rfl, _, _, rfl, _, _, rfl, _, _, rfl, rfl, ?_⟩
  have q0 : nextL l c = none → Q .non H := fun e => q .non H (Same.refl H) (by rw [e]; rfl)
  have qs : ∀ l', nextL l c = some l' → ∀ p2, H p2 = none → Q (.ref p2) (upd H p2 (.lst (lv l'))) := fun l' e p2 n2 => q _ _ (same_new n2) (by rw [e]; exact ⟨p2, rfl, upd_same⟩)
  have few : 4 ≤ sizeLine := by decide
  refine ⟨_, rfl, c, abc, rfl, rfl, ?_⟩
  show _
  refine ⟨_, rfl, rfl, _, rfl, eqS (fun e => q0 (if_pos e)) (fun n1 => ?_)⟩
  apply ways2 (C1 := l.what = "begin" ∨ (l.what = "part" ∧ c = 40)) (C2 := ¬ (l.what = "begin" ∨ (l.what = "part" ∧ c = 40)))
  · intro body rest
    refine ⟨_, rfl, rfl, _, rfl, eqS (fun e => iteT (body (.inl e))) (fun nb => ?_)⟩
    refine ⟨_, rfl, rfl, _, rfl, eqS (fun e => ?_) (fun np => iteF (rest (fun z => z.elim nb (fun q => np q.1))))⟩
    refine ⟨_, rfl, rfl, _, rfl, ?_⟩
    refine eqC op_is (fun e2 => ?_) (fun n => ?_)
    · exact body (.inr ⟨e, e2⟩)
    · exact rest (fun z => z.elim nb (fun q => n q.2))
  · intro c1
    have e0 : nextL l c = if c = 40 ∧ l.left < 300 then some ⟨"word", 0, l.left + 1, ""⟩ else none := (if_neg n1).trans (if_pos c1)
    apply ways2 (C1 := c = 40 ∧ l.left < 300) (C2 := ¬ (c = 40 ∧ l.left < 300))
    · intro body rest
      refine ⟨_, rfl, rfl, _, rfl, eqC op_is (fun e => ?_) (fun n => iteF (rest fun z => n z.1))⟩
      refine ⟨_, rfl, _, _, rfl, rfl, _, rfl, ?_⟩
      exact ite2 (fun lt => body ⟨e, by have := of_decide_eq_true lt; omega⟩) (fun nl => rest fun z => nl (decide_eq_true (by have := z.2; omega)))
    · intro c2
      rw [if_pos c2] at e0
      exact ⟨_, rfl, _, _, rfl, rfl, few, fun p2 n2 => qs _ e0 p2 n2⟩
    · intro n2
      rw [if_neg n2] at e0
      exact q0 e0
  intro n2
  refine ⟨_, rfl, rfl, _, rfl, eqS (fun e => ?_) (fun n3 => ?_)⟩
  · have e0 : nextL l c = if isL c = true then some ⟨"letters", 1, l.left, one c⟩ else if isF c = true then some ⟨"figures", 1, l.left, one c⟩ else none := (if_neg n1).trans ((if_neg n2).trans (if_pos e))
    refine ⟨_, rfl, _, rfl, ?_⟩
    show if isL c = true then _ else _
    cases hc : isL c with
    | true =>
      rw [hc, if_pos rfl] at e0
      exact iteT ⟨_, rfl, _, rfl, few, fun p2 n => qs _ e0 p2 n⟩
    | false =>
      rw [hc, if_neg Bool.false_ne_true] at e0
      refine iteF ⟨_, rfl, c, figs, rfl, rfl, _, rfl, ?_⟩
      show if isF c = true then _ else _
      cases hf : isF c with
      | true =>
        rw [hf, if_pos rfl] at e0
        exact iteT ⟨_, rfl, _, rfl, few, fun p2 n => qs _ e0 p2 n⟩
      | false =>
        rw [hf, if_neg Bool.false_ne_true] at e0
        exact iteF (q0 e0)
  refine ⟨_, rfl, rfl, _, rfl, eqS (fun e => ?_) (fun n4 => ?_)⟩
  · have e0 : nextL l c = if isL c = true then some ⟨"letters", 1, l.left, one c⟩ else none := (if_neg n1).trans ((if_neg n2).trans ((if_neg n3).trans (if_pos e)))
    refine ⟨_, rfl, _, rfl, ?_⟩
    show if isL c = true then _ else _
    cases hc : isL c with
    | true =>
      rw [hc, if_pos rfl] at e0
      exact iteT ⟨_, rfl, _, rfl, few, fun p2 n => qs _ e0 p2 n⟩
    | false =>
      rw [hc, if_neg Bool.false_ne_true] at e0
      exact iteF (q0 e0)
  apply ways2 (C1 := l.what = "letters" ∧ isL c = true) (C2 := ¬ (l.what = "letters" ∧ isL c = true))
  · intro body rest
    refine ⟨_, rfl, rfl, _, rfl, eqS (fun e => ?_) (fun n => iteF (rest fun z => n z.1))⟩
    refine ⟨_, rfl, _, rfl, ?_⟩
    show if isL c = true then _ else _
    cases hc : isL c with
    | true => exact iteT (body ⟨e, hc⟩)
    | false => exact iteF (rest fun z => by rw [hc] at z; exact Bool.false_ne_true z.2)
  · intro c5
    have e0 : nextL l c = if l.many < 8 then some ⟨"letters", l.many + 1, l.left, l.first⟩ else none := (if_neg n1).trans ((if_neg n2).trans ((if_neg n3).trans ((if_neg n4).trans (if_pos c5))))
    refine ⟨_, rfl, _, _, rfl, rfl, _, rfl, ?_⟩
    refine ite2 (fun lt => ?_) (fun nl => ?_)
    · rw [if_pos (by have := of_decide_eq_true lt; omega)] at e0
      exact ⟨_, rfl, _, _, rfl, rfl, _, rfl, _, rfl, few, fun p2 n => qs _ e0 p2 n⟩
    · rw [if_neg (fun z => nl (decide_eq_true (by omega)))] at e0
      exact q0 e0
  intro n5
  apply ways2 (C1 := l.what = "figures" ∧ isF c = true) (C2 := ¬ (l.what = "figures" ∧ isF c = true))
  · intro body rest
    refine ⟨_, rfl, rfl, _, rfl, eqS (fun e => ?_) (fun n => iteF (rest fun z => n z.1))⟩
    refine ⟨_, rfl, c, figs, rfl, rfl, _, rfl, ?_⟩
    show if isF c = true then _ else _
    cases hc : isF c with
    | true => exact iteT (body ⟨e, hc⟩)
    | false => exact iteF (rest fun z => by rw [hc] at z; exact Bool.false_ne_true z.2)
  · intro c6
    have e0 : nextL l c = if l.many < 60 ∧ l.first ≠ "0" then some ⟨"figures", l.many + 1, l.left, l.first⟩ else none := (if_neg n1).trans ((if_neg n2).trans ((if_neg n3).trans ((if_neg n4).trans ((if_neg n5).trans (if_pos c6)))))
    refine ⟨_, rfl, _, _, rfl, rfl, _, rfl, ?_⟩
    refine ite2 (fun lt => ?_) (fun nl => ?_)
    · refine ⟨_, rfl, rfl, _, rfl, ?_⟩
      rw [V_str]
      by_cases h0 : l.first = "0"
      · rw [if_neg (fun z => z.2 h0)] at e0
        rw [decide_eq_true h0]
        exact iteF (q0 e0)
      · rw [if_pos ⟨by have := of_decide_eq_true lt; omega, h0⟩] at e0
        rw [decide_eq_false h0]
        exact iteT ⟨_, rfl, _, _, rfl, rfl, _, rfl, _, rfl, few, fun p2 n => qs _ e0 p2 n⟩
    · rw [if_neg (fun z => nl (decide_eq_true (by have := z.1; omega)))] at e0
      exact iteF (q0 e0)
  intro n6
  have e0 : nextL l c = if c = 32 then some ⟨"part", 0, l.left, ""⟩ else if c = 41 then some (if l.left > 1 then ⟨"closed", 0, l.left - 1, ""⟩ else ⟨"done", 0, 0, ""⟩) else none := (if_neg n1).trans ((if_neg n2).trans ((if_neg n3).trans ((if_neg n4).trans ((if_neg n5).trans (if_neg n6)))))
  refine ⟨_, rfl, rfl, _, rfl, eqC sp_is (fun e => ?_) (fun n7 => ?_)⟩
  · rw [if_pos e] at e0
    exact ⟨_, rfl, few, fun p2 n => qs _ e0 p2 n⟩
  rw [if_neg n7] at e0
  refine ⟨_, rfl, rfl, _, rfl, eqC cl_is (fun e => ?_) (fun n8 => ?_)⟩
  · rw [if_pos e] at e0
    refine ⟨_, rfl, _, _, rfl, rfl, _, rfl, ?_⟩
    refine ite2 (fun lt => ?_) (fun nl => ?_)
    · have lt1 : l.left > 1 := by
        have := of_decide_eq_true lt
        omega
      rw [if_pos lt1] at e0
      refine ⟨_, rfl, _, _, rfl, rfl, few, fun p2 n => ?_⟩
      have z := qs _ e0 p2 n
      have ei : ((l.left - 1 : Nat) : Int) = (l.left : Int) - 1 := by omega
      unfold lv at z
      dsimp only at z
      rw [ei] at z
      exact z
    · rw [if_neg (fun z => nl (decide_eq_true (by omega)))] at e0
      exact ⟨few, fun p2 n => qs _ e0 p2 n⟩
  · rw [if_neg n8] at e0
    exact q0 e0
/-- where the law's machine stops: the number of the sign, or nothing -/
def wrongFrom (l : LSt) (i : Nat) : List Nat → Option Nat
  | [] => if l.what = "done" then none else some i
  | c :: r => match nextL l c with
    | none => some i
    | some l' => wrongFrom l' (i + 1) r
def wv : Option Nat → V
  | none => .non
  | some i => .int (i : Int)
def l0S : LSt := ⟨"begin", 0, 0, ""⟩
def spWrong : Sp := fun vs H Q _ => ∃ z : Str, vs = [.str z] ∧ z.length ≤ 1000000 ∧ ∀ H', Same H H' → Q (wv (wrongFrom l0S 0 z.cps.toList)) H'
theorem ok_wrong {f fN : Addr} {fd dN : FuncData} (F : Fun K "_law_wrong" "_law_wrong" sWrong f fd) (N : FnOk P w K mg base CX0 1 fN dN ["state", "sign"] spNext) (bN : Binds K dN ["state", "sign"] []) (kN : PySem.W.keepIn K (.ref fN) = true) (mN : mg "_law_next" = some (.ref fN)) (zEnumerate : mg "enumerate" = none) (zLen : mg "len" = none) :
    FnOk P w K mg base CX0 2 f fd ["text"] spWrong := by
  refine F.ok scWrong (fun vs H Q E h => ?_) (fun cdv A outer s H vs Q E hr h => ?_)
  · obtain ⟨z, rfl, _⟩ := h
    rfl
  obtain ⟨z, rfl, hz, q⟩ := h
  have line : z.length ≤ sizeLine := Nat.le_trans hz (by decide)
  refine ⟨_, (pss_cons (ps_set (i := 1) scWrong.nd rfl (.inl rfl) (pe_lst (pa_cons pe_str (pa_cons pe_int (pa_cons pe_int (pa_cons pe_str pa_nil))))))
    (pss_cons (ps_for PassesOwn.never rfl (pi_enumS (by rfl) zEnumerate (pa_cons (pv 0) pa_nil)) (pg_tup (by rfl) (pgs_cons (pg_name (i := 2) scWrong.nd rfl (.inl rfl)) (pgs_cons (pg_name (i := 3) scWrong.nd rfl (.inl rfl)) pgs_nil))) (pss_cons (ps_set (i := 1) scWrong.nd rfl (.inl rfl) (pe_call N hr (by rfl) mN kN bN .nil pass0 (pa_cons (pv 1) (pa_cons (pv 3) pa_nil))))
    (pss_one (ps_if (pt_cmpR op_isN (pv 1) pe_non (nomark _)) (pss_one (ps_ret (pv 2))) pss_nil))))
    (pss_one (ps_ret (pe_ifExp (pt_cmpR op_eq (pe_ix ix_list (pv 1) pe_int (fun _ _ => rfl)) pe_str (nomark _)) pe_non (pe_callB call_len_str (by rfl) zLen PySem.boot_len (pa_cons (pv 0) pa_nil))))))), ?_⟩
  refine ⟨(by show 4 ≤ sizeLine; decide), fun p0 np0 => ?_⟩
  have s0 := same_new (o := .lst (lv l0S)) np0
  refine ⟨_, rfl, _, rfl, for_enumS (fun i σ X => ∃ (p : Addr) (l : LSt) (y2 y3 : Option V), σ = [some (.str z), some (.ref p), y2, y3] ∧ X p = some (.lst (lv l)) ∧ Same H X ∧ wrongFrom l0S 0 z.cps.toList = wrongFrom l i (z.cps.toList.drop i))
    ⟨p0, l0S, none, none, rfl, upd_same, s0, rfl⟩ ?_ ?_⟩
  · rintro i c σ X T0 hc ⟨p, l, y2, y3, rfl, hp, sX, ew⟩ nT0
    have hc2 : z.cps.toList[i]? = some c := by
      rw [Array.getElem?_toList]
      exact hc
    obtain ⟨ilt, ic⟩ := List.getElem?_eq_some_iff.mp hc2
    have dr : z.cps.toList.drop i = c :: z.cps.toList.drop (i + 1) := by
      rw [← ic]
      exact List.drop_eq_getElem_cons ilt
    rw [dr] at ew
    have sT := same_new (o := .tup [.int (i : Nat), .str ⟨#[c]⟩]) nT0
    have hp2 := sT _ _ hp
    have eT : upd X T0 (.tup [.int (i : Nat), .str ⟨#[c]⟩]) T0 = _ := upd_same
    generalize upd X T0 (.tup [.int (i : Nat), .str ⟨#[c]⟩]) = X2 at sT hp2 eT
    refine ⟨T0, _, rfl, .inl (.inl eT), rfl, _, _, rfl, _, _, rfl, rfl, ?_⟩
    refine ⟨_, rfl, _, rfl, p, l, c, rfl, hp2, fun r H2 s2 ho => ?_⟩
    have sAll := sX.trans (sT.trans s2)
    cases en : nextL l c with
    | none =>
      rw [en] at ho
      have er : r = .non := ho
      subst er
      refine ⟨_, rfl, rfl, _, rfl, iteT ⟨_, rfl, ?_⟩⟩
      have e2 : wrongFrom l i (c :: z.cps.toList.drop (i + 1)) = some i := by
        simp only [wrongFrom, en]
      rw [e2] at ew
      have z2 := q H2 sAll
      rw [ew] at z2
      exact z2
    | some l' =>
      rw [en] at ho
      obtain ⟨p2, er, hp3⟩ := ho
      subst er
      refine ⟨_, rfl, rfl, _, rfl, ?_⟩
      rw [show decide (V.ref p2 = V.non) = false from decide_eq_false (fun z => by cases z)]
      refine iteF ?_
      refine ⟨p2, l', _, _, rfl, hp3, sAll, ?_⟩
      rw [ew]
      simp only [wrongFrom, en]
  · rintro σ X ⟨p, l, y2, y3, rfl, hp, sX, ew⟩
    have e1 : z.cps.size = z.cps.toList.length := Array.length_toList.symm
    rw [e1, List.drop_length] at ew
    have z2 := q X sX
    rw [ew] at z2
    refine ⟨_, rfl, p, _, 0, _, rfl, rfl, .inl (.inl hp), head_at _ _, rfl, _, rfl, eqS (fun e => ?_) (fun n => ?_)⟩
    · have e2 : wrongFrom l z.cps.toList.length [] = none := if_pos e
      rw [e2] at z2
      exact z2
    · have e2 : wrongFrom l z.cps.toList.length [] = some z.cps.toList.length := if_neg n
      rw [e2, Array.length_toList] at z2
      exact ⟨_, rfl, _, rfl, line, z2⟩
end
end Kf
set_option Elab.async false
set_option linter.all false
set_option maxRecDepth 100000
set_option maxHeartbeats 4000000
/-! An exception that its suite keeps under another name: it is tracked behind the suite. -/
namespace Xk
open PySem PySem.Spec PyProof.Rows L2
/-- an exception of the class c, with the own dict d, at a -/
def ExK (c : Value) (d : Option Addr) (a : Addr) : HO := .ext fun h => ∃ (ob : Obj) (us : Array Value), h.get? a = some ob ∧ Zc c d ob ∧ ob.data = .fields us
theorem exK_ok {P : Program} {w : World} {H : Hp} {h : Heap} {a : Addr} {c : Value} {d : Option Addr} {ob : Obj} {us : Array Value} (e : h.get? a = some ob) (z : Zc c d ob) (dat : ob.data = .fields us) : ObjOk P w H h a (ExK c d a) :=
  ⟨⟨ob, us, e, z, dat⟩, ⟨ob, e⟩, fun _ _ ⟨o2, u2, q1, q2⟩ keep => ⟨o2, u2, keep o2 q1, q2⟩⟩
section
variable {X : Cx} {pins : List (Addr × Obj)} {σ : L2.St} {H : Hp} {s : Shared}
/-- an object that no one speaks of comes to be tracked -/
theorem inv_track {a : Addr} {o : HO} (I : Inv X pins σ H s) (away : X.s_0.heap.get? a = none) (free : H a = none) (nL : a ≠ X.env.locals) (nC : ∀ x c, X.env.cells.lookup x = some c → c ≠ a) (nP : ∀ p ∈ X.pn ++ pins, p.1 ≠ a) (new : ObjOk X.prog X.w (upd H a o) s.heap a o) :
    Inv X pins σ (upd H a o) s := by
  have far : ∀ {b : Addr} {u : HO}, H b = some u → b ≠ a := fun e z => by
    rw [z, free] at e
    cases e
  have un : Un X.fs X.ex X.H_0 (upd H a o) X.s_0.heap s.heap := {
    keep := I.base.keep
    slot := I.base.slot
    free := fun b ob e n m => by
      rw [upd_ne (fun z => by rw [z, away] at e; cases e)]
      exact I.base.free b ob e n m
    there := I.base.there
    tups := fun b xs e => by
      have q := I.base.tups b xs e
      rw [upd_ne (far q)]
      exact q
    frzs := fun b ob u e => by
      have q := I.base.frzs b ob u e
      rw [upd_ne (far q)]
      exact q
    tbls := fun b ps e => by
      obtain ⟨more, q⟩ := I.base.tbls b ps e
      exact ⟨more, by rw [upd_ne (far q)]; exact q⟩ }
  refine ⟨I.ok, I.os, I.bare, un, I.loc, I.cell, ?_, fun x c e => ?_, fun p hp => ?_, I.hok.laidN (fun _ _ e => e) free new, I.len⟩
  · rw [upd_ne nL.symm]
    exact I.free
  · rw [upd_ne (nC x c e)]
    exact I.freeC x c e
  · obtain ⟨q1, q2, q3⟩ := I.pin p hp
    exact ⟨q1, by rw [upd_ne (nP p hp)]; exact q2, q3⟩
end
/-- what the clause wishes, where its suite falls through with the exception kept -/
def wHold (K : PySem.W.Frag) (c : Value) (i : Nat) (ts : Addr → Value → Option Addr → TS) (Wout : WX) (D : Ends) : WX := fun cls d σ H =>
  ∃ yes, PySem.W.exmOne K cls c = some yes ∧
    (yes = true → ∀ a, H a = none → ts a cls d { nx := fun τ G => G a = none → D.nx (τ.set i none) (upd G a (ExK cls d a)), rt := fun _ _ => False, bk := fun _ _ => False, ct := fun _ _ => False } (σ.set i (some (.ref a))) H) ∧ (yes = false → Wout cls d σ H)
section
variable {X : Cx} {x n : Str} {c : Value} {i : Nat} {body suite : List Stmt} {one : Stmt} {np pos pos' : Pos} {tb : WX → TS} {ts : Addr → Value → Option Addr → TS} {Wout : WX}
/-- try: body / except x as n: suite; behind the suite the exception's object is tracked -/
theorem ps_try_hold (stk : X.stack = X.env :: X.outer) (fr : X.env.frame = some X.env.locals) (nd : X.N.Nodup) (at_ : X.N[i]? = some n) (loc : X.env.kindOf n = some .local) (cls_ : Names X x c) (tk : Takes X Wout) (noEx : X.ex = [])
    (doBody : ∀ (W : WX) (pn : List (Addr × Obj)) (xe : Value → Shared → Prop), Takes (X.tr pn xe) W → PassesOwn (model X.prog X.w) X.A X.env xe → PSs (X.tr pn xe) body (tb W))
    (doSuite : ∀ (a : Addr) (ob : Obj) (cls : Value) (d : Option Addr) (pn : List (Addr × Obj)), Zc cls d ob → (∃ us, ob.data = .fields us) → PSs (X.suite a ((a, ob) :: pn)) (one :: suite) (ts a cls d)) :
    PS X (.Try body [.ExceptHandler (some (.Name x np)) (some n) (one :: suite) pos'] [] [] pos) (fun D σ H => tb (wHold X.K c i ts Wout D) D σ H) := by
  refine ⟨fun pins s σ H D I reading => wpAny_Try_except ?_⟩
  have good := I.ok
  have frames : X.A.frames = some (X.env :: X.outer) := good.frames.trans (congrArg some stk)
  have ran := (doBody (wHold X.K c i ts Wout D) (X.pn ++ pins)
    (fun e z1 => wpAny (model X.prog X.w) X.A (noteFrame e X.env)
      (fun _ z2 => wpAny (model X.prog X.w) X.A (setFlight e none)
        (fun _ z3 => wpAny (model X.prog X.w) X.A (handleBy e X.env [.ExceptHandler (some (.Name x np)) (some n) (one :: suite) pos']) (SP X pins D) X.xe z3) X.xe z2) X.xe z1)
    (fun u z thrown => ?caught) PassesOwn.looking).run [] s σ H D (I.toTry _) reading
  refine wpAny_mono ran (fun f z over => ?through) fun e z q => q
  case caught =>
    obtain ⟨a, ground, before, pins2, τ, G, cls, d, rfl, J0, kept, grown, sky, free, os, bare, yes, match_, onYes, onNo⟩ := thrown
    have J : Inv X pins τ G before := J0.ofTry good
    rw [stk] at sky
    show wpAny (model X.prog X.w) X.A (noteFrame (.ref a) X.env) _ _ _
    refine Sky.land Zc.steady frames fr sky fun h1 fly1 up1 => ?_
    have J1 : Inv X pins τ G { z with heap := h1 } := J.landed kept fly1.1 (grown.trans up1) os bare
    obtain ⟨ob1, us1, at1, z1, dat1⟩ := fly1.there
    have offFrames : a ∉ frs (X.env :: X.outer) := fun hm => by
      obtain ⟨_, o2, at2, not2⟩ := fly1.2.2.1.mem hm
      cases at1.symm.trans at2
      exact not2 _ dat1
    have nL : a ≠ X.env.locals := fun q => offFrames (List.mem_filterMap.mpr ⟨X.env, List.mem_cons_self, by rw [fr, q]⟩)
    have nF : a ∉ X.fs := fun hm => by
      obtain ⟨e, he, q⟩ := List.mem_filterMap.mp hm
      exact offFrames (List.mem_filterMap.mpr ⟨e, List.mem_cons_of_mem _ he, q⟩)
    -- it is new since the try began
    have newHere : before.heap.get? a = none := by
      cases q : before.heap.get? a with
      | none => rfl
      | some o =>
        have q2 := kept a o q (show a ∉ frs X.stack by rw [stk]; exact offFrames)
        rw [fly1.2.1] at q2
        cases q2
    have away : X.s_0.heap.get? a = none := by
      cases q : X.s_0.heap.get? a with
      | none => rfl
      | some o =>
        obtain ⟨o2, q2⟩ := J.base.there a o q (by rw [noEx]; exact List.not_mem_nil)
        rw [newHere] at q2
        cases q2
    have nC : ∀ y k, X.env.cells.lookup y = some k → k ≠ a := fun y k e q => by
      obtain ⟨v, o, ho, _⟩ := J.cell y k e
      rw [q, newHere] at ho
      cases ho
    have nP : ∀ p ∈ X.pn ++ pins, p.1 ≠ a := fun p hp q => by
      have e := (J.pin p hp).1
      rw [q, newHere] at e
      cases e
    have S1 := J1.suite at1 dat1 free nL nF
    refine wpAny_handleBy_cons (codeAny_handlers_test ?_) fun q => by cases q
    have typed : PySem.W.Looks (model X.prog X.w) h1 (typeOf (.ref a)) cls := fun A Q E s k q => wpAny_typeOf_ref (k _ _ at1) (by rw [z1.1]; exact q)
    have matched := PySem.W.exm_one (M := model X.prog X.w) J1.kIn typed match_
    have named : ∀ {Q : Value → Shared → Prop} {E : Value → Shared → Prop}, Q c { z with heap := h1 } → wpAny (model X.prog X.w) (X.A.mark (some (.ref a))) (eval (.Name x np) X.env) Q E { z with heap := h1 } := fun {Q E} q => by
      obtain ⟨gl, dbg, here | ⟨none_, boot, nm⟩⟩ := cls_
      · exact ld_glob (X := X.suite a ((a, ob1) :: (X.pn ++ pins))) S1 gl here q dbg
      · exact ld_blt (X := X.suite a ((a, ob1) :: (X.pn ++ pins))) S1 gl none_ boot q nm dbg
    refine named (matched.here ?_)
    cases yes with
    | true =>
      refine codeAny_handlers_suite_as (HandSPX.lands_againZ fly1 fun h2 fly2 up2 => ?_)
      have J2 : Inv X pins τ G { z with heap := h2 } := J.landed kept fly2.1 ((grown.trans up1).trans up2) os bare
      obtain ⟨ob2, us2, at2, z2, dat2⟩ := fly2.there
      have S2 := J2.suite at2 dat2 free nL nF
      refine store_ok (X := X.suite a ((a, ob2) :: (X.pn ++ pins))) (v := .ref a) S2 nd at_ (.inl loc) rfl (fun z5 S5 => ?_) (.inr loc)
      refine wpAny_mono ((doSuite a ob2 cls d (X.pn ++ pins) z2 ⟨_, dat2⟩).run [] z5 _ G _ S5 (onYes rfl a free)) (fun f z6 over => ?_) fun _ _ q => q.elim
      match f, over with
      | .next, ⟨τ6, G6, S6, q6⟩ =>
        obtain ⟨at6, free6, _⟩ := S6.pin (a, ob2) (List.mem_append.mpr (.inl List.mem_cons_self))
        have K6 := inv_track (o := ExK cls d a) (S6.unsuite good) away free6 nL nC nP (exK_ok at6 z2 dat2)
        exact gone_ok K6 nd at_ loc fun z7 J7 => ⟨_, _, J7, q6 free6⟩
      | .brk, ⟨_, _, _, q6⟩ => exact q6.elim
      | .cont, ⟨_, _, _, q6⟩ => exact q6.elim
      | .ret _, ⟨_, _, _, _, _, q6⟩ => exact q6.elim
    | false =>
      show wpAny _ X.A (handleBy (.ref a) X.env []) _ _ _
      refine wpAny_handleBy_nil ?_
      obtain ⟨w1, w2, w3, ob, us, tb_, oT, rows, hb, zb, db, f1, more⟩ := id fly1
      unfold PySem.passOn
      refine wpAny_bind (wpAny_field hb db f1 ?_)
      rw [if_neg (show ¬ ((Value.ref tb_ == Value.none) = true) from by simp)]
      have last : wpAny (model X.prog X.w) X.A (setFlight (.ref a) X.env.frame) (fun _ z4 => wpAny (model X.prog X.w) X.A (throw (.ref a) : Sem Flow) (SP X pins D) X.xe z4) X.xe { z with heap := h1 } := by
        rw [fr]
        refine HandSPX.setFlight_upZ fly1 fun h4 held4 up4 => wpAny_throw (tk _ _ ?_)
        exact ⟨a, ground, before, pins, τ, G, cls, d, rfl, J, kept, (grown.trans up1).trans up4, .inr (.inr (by rw [stk]; exact held4)), free, os, bare, onNo rfl⟩
      first
        | exact wpAny_bind (wpAny_pure (wpAny_bind last))
        | exact wpAny_bind last
  case through =>
    match f, over with
    | .next, ⟨τ, G, J, q⟩ => exact wpAny_execs_nil ⟨τ, G, J.ofTry good, q⟩
    | .brk, ⟨τ, G, J, q⟩ => exact ⟨τ, G, J.ofTry good, q⟩
    | .cont, ⟨τ, G, J, q⟩ => exact ⟨τ, G, J.ofTry good, q⟩
    | .ret _, ⟨v, τ, G, J, r, q⟩ => exact ⟨v, τ, G, J.ofTry good, r, q⟩
end
section
variable {X : Cx}
theorem inst_of {a D : Addr} {h : Heap} {ob : Obj} {us : Array Value} (e : h.get? a = some ob) (z : Zc (.ref D) none ob) (dat : ob.data = .fields us) : PySem.W.InstAt h a ob D none := by
  obtain ⟨oc, od, da, sl⟩ := ob
  obtain ⟨e1, e2⟩ := z
  dsimp only at e1 e2 dat
  subst e1 e2 dat
  exact ⟨e, rfl, rfl, trivial⟩
/-- isinstance(e, c), e a tracked exception of the class D, without a dict -/
def rIsH (K : PySem.W.Frag) : List V → Hp → VK → Prop := fun xs H Q => ∃ (a D : Addr) (c : V) (u : Value) (b : Bool), xs = [.ref a, c] ∧ H a = some (ExK (.ref D) none a) ∧ ExcC K D ∧ ClsV c u ∧ PySem.W.kitOne K (.ref D) u = some b ∧ Q (.bl b) H
theorem call_isH : CallR X (.builtin "isinstance") (rIsH X.K) := by
  intro pins s σ H xs us Q I r h
  obtain ⟨a, D, c, u, b, rfl, at_, C, k, e, q⟩ := h
  obtain ⟨u1, u2, rfl, r1, r2⟩ := vals2 r
  have e2 := k.eq r2
  subst e2
  cases (show u1 = Value.ref a from r1)
  obtain ⟨⟨ob, fs, o1, o2, o3⟩, _⟩ := I.hok a _ at_
  exact PySem.W.kia_one (PySem.W.handS_kitx_exc C.hg C.hk C.hs C.hd C.ha C.hn C.ht C.hm) I.kIn (inst_of o1 o2 o3) e (fun z => nomatch z) fun tk => ⟨.bl b, H, I.tok tk, rfl, q⟩
/-- isinstance(e, (c1, ..)) -/
def rIsHT (K : PySem.W.Frag) : List V → Hp → VK → Prop := fun xs H Q => ∃ (a D tp : Addr) (cs : List V) (us : List Value) (b : Bool), xs = [.ref a, .ref tp] ∧ H a = some (ExK (.ref D) none a) ∧ ExcC K D ∧ H tp = some (.tup cs) ∧ Paired ClsV cs us ∧ PySem.W.kitAny K (.ref D) us = some b ∧ Q (.bl b) H
theorem call_isHT : CallR X (.builtin "isinstance") (rIsHT X.K) := by
  intro pins s σ H xs us Q I r h
  obtain ⟨a, D, tp, cs, ws, b, rfl, at_, C, hT, k, e, q⟩ := h
  obtain ⟨u1, u2, rfl, r1, r2⟩ := vals2 r
  cases (show u1 = Value.ref a from r1)
  cases (show u2 = Value.ref tp from r2)
  obtain ⟨⟨ob, fs, o1, o2, o3⟩, _⟩ := I.hok a _ at_
  obtain ⟨_, its, rv, ot, h1, h2, n, h3⟩ := (show ObjOk X.prog X.w H s.heap tp (.tup cs) from I.hok tp _ hT)
  have e3 := ClsV.all k rv
  subst e3
  obtain ⟨oc, od, dt, sl⟩ := ot
  simp only at h2 h3
  subst h2 h3
  exact PySem.W.kia_tup (PySem.W.handS_kitx_exc C.hg C.hk C.hs C.hd C.ha C.hn C.ht C.hm) I.kIn (inst_of o1 o2 o3) h1 e (fun z => nomatch z) fun tk => ⟨.bl b, H, I.tok tk, rfl, q⟩
end
end Xk
set_option Elab.async false
set_option linter.all false
set_option maxRecDepth 100000
set_option maxHeartbeats 4000000
set_option pp.maxSteps 600
/-! Refusals that are kept, one of them with a field. -/
namespace Xk
open PySem PySem.Spec PyProof.Rows L2
/-- the own dict of a tracked exception, if it has one, is tracked -/
def DictOk (H : Hp) (d : Option Addr) : Prop := d = none ∨ ∃ dd fs, d = some dd ∧ H dd = some (.xd fs)
section
variable {X : Cx}
theorem inst_ofX {pins : List (Addr × Obj)} {σ : L2.St} {H : Hp} {s : Shared} {a D : Addr} {d : Option Addr} (I : Inv X pins σ H s) (at_ : H a = some (ExK (.ref D) d a)) (hd : DictOk H d) : ∃ ob od, PySem.W.InstAt s.heap a ob D od := by
  obtain ⟨⟨ob, fs, o1, o2, o3⟩, _⟩ := I.hok a _ at_
  obtain ⟨oc, od, da, sl⟩ := ob
  obtain ⟨e1, e2⟩ := o2
  dsimp only at e1 e2 o3
  subst e1 e2 o3
  rcases hd with e | ⟨dd, gs, e, hdd⟩
  · subst e
    exact ⟨_, none, o1, rfl, rfl, trivial⟩
  · subst e
    obtain ⟨mA, ⟨oD, es, ep, h1, _⟩, _⟩ := (show ObjOk X.prog X.w H s.heap dd (.xd gs) from I.hok dd _ hdd)
    exact ⟨_, some oD, o1, rfl, rfl, h1⟩
/-- isinstance(e, c), e a tracked exception of the class D -/
def rIsX (K : PySem.W.Frag) : List V → Hp → VK → Prop := fun xs H Q => ∃ (a D : Addr) (d : Option Addr) (c : V) (u : Value) (b : Bool), xs = [.ref a, c] ∧ H a = some (ExK (.ref D) d a) ∧ DictOk H d ∧ ExcC K D ∧ ClsV c u ∧ PySem.W.kitOne K (.ref D) u = some b ∧ Q (.bl b) H
theorem call_isX : CallR X (.builtin "isinstance") (rIsX X.K) := by
  intro pins s σ H xs us Q I r h
  obtain ⟨a, D, d, c, u, b, rfl, at_, hd, C, k, e, q⟩ := h
  obtain ⟨u1, u2, rfl, r1, r2⟩ := vals2 r
  have e2 := k.eq r2
  subst e2
  cases (show u1 = Value.ref a from r1)
  obtain ⟨ob, od, J⟩ := inst_ofX I at_ hd
  have hcl : (PySem.W.clsIn X.K D).isSome = true := by
    obtain ⟨cd, hc, _⟩ := PySem.W.any_some C.hd
    rw [hc]
    rfl
  exact PySem.W.kia_one (PySem.W.kitx_exc hcl C.hg C.hk C.hs C.ha C.hn C.ht C.hm) I.kIn J e (fun z => nomatch z) fun tk => ⟨.bl b, H, I.tok tk, rfl, q⟩
/-- isinstance(e, (c1, ..)) -/
def rIsXT (K : PySem.W.Frag) : List V → Hp → VK → Prop := fun xs H Q => ∃ (a D tp : Addr) (d : Option Addr) (cs : List V) (us : List Value) (b : Bool), xs = [.ref a, .ref tp] ∧ H a = some (ExK (.ref D) d a) ∧ DictOk H d ∧ ExcC K D ∧ H tp = some (.tup cs) ∧ Paired ClsV cs us ∧ PySem.W.kitAny K (.ref D) us = some b ∧ Q (.bl b) H
theorem call_isXT : CallR X (.builtin "isinstance") (rIsXT X.K) := by
  intro pins s σ H xs us Q I r h
  obtain ⟨a, D, tp, d, cs, ws, b, rfl, at_, hd, C, hT, k, e, q⟩ := h
  obtain ⟨u1, u2, rfl, r1, r2⟩ := vals2 r
  cases (show u1 = Value.ref a from r1)
  cases (show u2 = Value.ref tp from r2)
  obtain ⟨ob, od0, J⟩ := inst_ofX I at_ hd
  obtain ⟨_, its, rv, ot, h1, h2, n, h3⟩ := (show ObjOk X.prog X.w H s.heap tp (.tup cs) from I.hok tp _ hT)
  have e3 := ClsV.all k rv
  subst e3
  obtain ⟨oc, od, dt, sl⟩ := ot
  simp only at h2 h3
  subst h2 h3
  have hcl : (PySem.W.clsIn X.K D).isSome = true := by
    obtain ⟨cd, hc, _⟩ := PySem.W.any_some C.hd
    rw [hc]
    rfl
  exact PySem.W.kia_tup (PySem.W.kitx_exc hcl C.hg C.hk C.hs C.ha C.hn C.ht C.hm) I.kIn J h1 e (fun z => nomatch z) fun tk => ⟨.bl b, H, I.tok tk, rfl, q⟩
/-- e.f, e a tracked exception with the field f -/
theorem pe_fieldX {C : Addr} {e : Expr} {te : TE} {pos : Pos} {n : Str} (T : XfC X.K C) (hno : PySem.W.findIn X.K (.ref C) n = some none) (he : PE X e te) (hb : attributeBase e n X.env (eval e X.env) = eval e X.env := by rfl) :
    PE X (.Attribute e n pos) (fun σ H Q => te σ H fun x H1 => ∃ (a dd : Addr) (fs : List (Str × V)) (v : V), x = .ref a ∧ H1 a = some (ExK (.ref C) (some dd) a) ∧ H1 dd = some (.xd fs) ∧ fs.lookup n = some v ∧ Q v H1) := by
  refine ⟨fun pins s σ H Q I h => ?_⟩
  refine attr_of hb (thn (he.run pins s σ H _ I h) fun u s1 hh => ?_)
  obtain ⟨x, H1, I1, rx, a, dd, fs, v, ex, ea, ed, l, q⟩ := hh
  subst ex
  obtain rfl : u = Value.ref a := rx
  obtain ⟨⟨ob, us, o1, o2, o3⟩, _⟩ := I1.hok a _ ea
  have hx : ObjOk X.prog X.w H1 s1.heap dd (.xd fs) := I1.hok dd _ ed
  obtain ⟨mA, hns, hr⟩ := hx
  obtain ⟨od, ho, hl⟩ := lookIn_ns hns
  obtain ⟨u, hu, ru⟩ := RelO.some_of (v := v) (o := mA n) (by rw [← l]; exact hr n)
  have J : PySem.W.InstAt s1.heap a ob C (some od) := ⟨o1, o2.1, by unfold PySem.W.notCls; rw [o3] <;> rfl, by rw [o2.2]; exact ho⟩
  exact HandSPX.exc_get I1.kIn J T.ga T.gg T.exC (PySem.W.findObj_own T.hdC hno rfl (by rw [hl, hu])) (handed_of ru) ⟨v, H1, I1.tok _, ru, q⟩
end
end Xk
set_option Elab.async false
set_option linter.all false
set_option maxRecDepth 100000
set_option maxHeartbeats 8000000
set_option pp.maxSteps 500
/-! read, with its refusals. -/
namespace Kf
open PySem PySem.Spec PyProof.Rows L2 Sx Xk
abbrev sRead : Stmt := top 13
abbrev readN : List Str := ["text", "reader", "at", "sign"]
theorem scRead : FnScope readN ["text"] (defScope sRead) := ⟨rfl, rfl, rfl, by decide +kernel, rfl, by decide +kernel, by decide +kernel⟩
/-! ### NoText -/
abbrev sIni : Stmt := inClass (top 2) 0
theorem scIni : FnScope ["self", "at"] ["self", "at"] (defScope sIni) := ⟨rfl, rfl, rfl, by decide +kernel, rfl, by decide +kernel, by decide +kernel⟩
/-- where reading stops: the tree, or the number of a sign -/
inductive Rd where
  | tree (d : PyData)
  | stop (i : Nat)
def readFrom (s : RS) (i : Nat) : List Nat → Rd
  | [] => match s.whole with
    | some d => .tree d
    | none => .stop i
  | c :: r => match takeR s c with
    | none => .stop i
    | some s' => readFrom s' (i + 1) r
theorem read_ph : ∀ (r : List Nat) (s : RS) (z : List Nat) (i : Nat), Ph s z →
    (∀ k, readFrom s i r = .stop k → wrongFrom (absL s) i r = some k) ∧ (∀ d, readFrom s i r = .tree d → wrongFrom (absL s) i r = none ∧ ∃ ds, d = .tuple ds ∧ Rw ds ∧ PyData.depthAll ds + 1 ≤ 300 ∧ cs (.tuple ds) = z ++ r)
  | [], s, z, i, h => by
    cases h with
    | done ds b hr hd =>
      refine ⟨fun k e => ?_, fun d e => ?_⟩
      · have e2 : Rd.tree (.tuple ds) = Rd.stop k := e
        cases e2
      · have e2 : Rd.tree (.tuple ds) = Rd.tree d := e
        injection e2 with e2
        refine ⟨?_, ds, e2.symm, hr, hd, (List.append_nil _).symm⟩
        rw [a_closed, if_pos rfl]
        exact if_pos rfl
    | start b =>
      refine ⟨fun k e => ?_, fun d e => ?_⟩
      · have e2 : Rd.stop i = Rd.stop k := e
        injection e2 with e2
        rw [a_start, ← e2]
        exact if_neg w1
      · have e2 : Rd.stop i = Rd.tree d := e
        cases e2
    | opn ts b hF n =>
      refine ⟨fun k e => ?_, fun d e => ?_⟩
      · have e2 : Rd.stop i = Rd.stop k := e
        injection e2 with e2
        rw [a_open, ← e2]
        exact if_neg w3
      · have e2 : Rd.stop i = Rd.tree d := e
        cases e2
    | blk ts x b hF =>
      refine ⟨fun k e => ?_, fun d e => ?_⟩
      · have e2 : Rd.stop i = Rd.stop k := e
        injection e2 with e2
        rw [a_blank, ← e2]
        exact if_neg w2
      · have e2 : Rd.stop i = Rd.tree d := e
        cases e2
    | beg ts x b hb hF hx =>
      refine ⟨fun k e => ?_, fun d e => ?_⟩
      · have e2 : Rd.stop i = Rd.stop k := e
        injection e2 with e2
        rw [a_begun, ← e2]
        split
        · exact if_neg w5
        · exact if_neg w4
      · have e2 : Rd.stop i = Rd.tree d := e
        cases e2
    | cls ts x b hF =>
      refine ⟨fun k e => ?_, fun d e => ?_⟩
      · have e2 : Rd.stop i = Rd.stop k := e
        injection e2 with e2
        rw [a_closed, if_neg (show ¬ ts ++ [x] = [] by simp), ← e2]
        exact if_neg w6
      · have e2 : Rd.stop i = Rd.tree d := e
        cases e2
  | c :: r, s, z, i, h => by
    obtain ⟨hp, hn⟩ := ph_take h c
    cases e : takeR s c with
    | none =>
      rw [e] at hn
      have hn2 : nextL (absL s) c = none := hn
      refine ⟨fun k ek => ?_, fun d ed => ?_⟩
      · simp only [readFrom, e] at ek
        injection ek with ek
        simp only [wrongFrom, hn2, ek]
      · simp only [readFrom, e] at ed
        cases ed
    | some s' =>
      rw [e] at hn
      have hn2 : nextL (absL s) c = some (absL s') := hn
      obtain ⟨a, b⟩ := read_ph r s' (z ++ [c]) (i + 1) (hp s' e)
      refine ⟨fun k ek => ?_, fun d ed => ?_⟩
      · simp only [readFrom, e] at ek
        simp only [wrongFrom, hn2]
        exact a k ek
      · simp only [readFrom, e] at ed
        simp only [wrongFrom, hn2]
        obtain ⟨b1, ds, b2, b3, b4, b5⟩ := b d ed
        exact ⟨b1, ds, b2, b3, b4, by rw [b5, List.append_assoc]; rfl⟩
theorem rs0_ph : Ph rs0 [] := .start ""
theorem absL_0 : absL rs0 = l0S := a_start _ _ _
section
variable {P : Program} {w : World} {K : PySem.W.Frag} {mg : Str → Option Value} {base : Heap} {C : Addr} {t1 t2 t3 t4 t5 : Tok}
def spIni (C : Addr) : Sp := fun vs H Q _ => ∃ (a : Addr) (i : Int), vs = [.ref a, .int i] ∧ H a = some (exo a C none) ∧ ∀ dx, H dx = none → dx ≠ a → Q .non (upd (upd H dx (exd dx [(Str.ofString "at", .int i)])) a (exo a C (some dx)))
structure NoTx (K : PySem.W.Frag) (mg : Str → Option Value) (C fI : Addr) (dI : FuncData) : Prop where
  ox : OexC K C
  at_ : mg "NoText" = some (.ref C)
  noN : PySem.W.findIn K (.ref C) "at" = some none
  ini : PySem.W.findIn K (.ref C) "__init__" = some (some (.ref fI))
  tyI : PySem.W.typeIn K (.ref fI) = some (.type "function")
  F : Fun K "__init__" "NoText.__init__" sIni fI dI
  b : L2.Binds K dI ["self", "at"] []
theorem ok_ini {C fI : Addr} {dI : FuncData} (N : NoTx K mg C fI dI) : FnOk P w K mg base CX0 1 fI dI ["self", "at"] (spIni C) := by
  refine N.F.ok scIni (fun vs H Q E h => ?_) (fun cdv A outer s H vs Q E hr h => ?_)
  · obtain ⟨a, z, rfl, _⟩ := h
    rfl
  obtain ⟨a, z, rfl, ha, q⟩ := h
  refine ⟨_, pss_one (ps_ost (pv 0) (pv 1)), ?_⟩
  exact ⟨_, rfl, _, rfl, a, C, rfl, N.ox, N.noN, .inl ⟨ha, fun dx n ne => q dx n ne⟩⟩
/-- read tells the tree of a text, or the number of the first sign that can't stand there -/
def spReadX (K : PySem.W.Frag) (NT : Addr) : Sp := fun vs H Q E => ∃ z : Str, vs = [.str z] ∧ z.length ≤ 700000 ∧
  (∀ ds v H', readFrom rs0 0 z.cps.toList = .tree (.tuple ds) → Same H H' → Dp K (tups H') v (.tuple ds) → Q v H') ∧
  (∀ k dd H', readFrom rs0 0 z.cps.toList = .stop k → Same H H' → H' dd = some (.xd [(Str.ofString "at", .int (k : Int))]) → E (.ref NT) (some dd) H')
theorem ok_readX {f fI fT NT fN : Addr} {fd dI dT dN : FuncData} (F : Fun K "read" "read" sRead f fd) (T : TR K mg C t1 t2 t3 t4 t5) (N : NoTx K mg NT fN dN) (MK : Mk K C fI) (GI : FnOk P w K mg base CX0 1 fI dI ["self"] (spInit K C)) (bI : Binds K dI ["self"] [])
    (GT : FnOk P w K mg base CX0 3 fT dT ["self", "sign"] (spTake K C)) (bT : Binds K dT ["self", "sign"] []) (mT : Meth K C "take" fT) : FnOk P w K mg base (L2.CX P w) 4 f fd ["text"] (spReadX K NT) := by
  have gI := ok_ini (P := P) (w := w) (base := base) N
  refine F.okX scRead (fun vs H Q E h => ?_) (fun cdv A outer s H vs Q E hr h => ?_)
  · obtain ⟨z, rfl, _⟩ := h
    rfl
  obtain ⟨z, rfl, hz, qt, qe⟩ := h
  have h2 : Room 2 _ := hr.mono (by decide)
  have line : z.length ≤ sizeLine := Nat.le_trans hz (by decide)
  have ln : z.cps.toList.length = z.length := Array.length_toList
  refine ⟨_, (pss_cons (ps_set (i := 1) scRead.nd rfl (.inl rfl) (pe_make0 MK GI h2 (by rfl) T.mC bI .nil pass0))
    (pss_cons (ps_for (passes_of rfl) rfl (pi_enumS (by rfl) T.zEnumerate (pa_cons (pv 0) pa_nil)) (pg_tup (by rfl) (pgs_cons (pg_name (i := 2) scRead.nd rfl (.inl rfl)) (pgs_cons (pg_name (i := 3) scRead.nd rfl (.inl rfl)) pgs_nil))) (pss_one (ps_if (pt_not (pt_val (pe_meth (pv 1) T.cl mT GT hr bT .nil pass0 (pa_cons (pv 3) pa_nil)))) (pss_one (ps_raise rfl (takes_of rfl rfl rfl rfl) (pmk_oex N.ox N.ini N.tyI gI h2 N.b .nil pass0 (by rfl) N.at_ (pa_cons (pv 2) pa_nil)))) pss_nil)))
    (pss_cons (ps_if (pt_cmpR op_isN (pe_fld (pv 1) rfl) pe_non (nomark _)) (pss_one (ps_raise rfl (takes_of rfl rfl rfl rfl) (pmk_oex N.ox N.ini N.tyI gI h2 N.b .nil pass0 (by rfl) N.at_ (pa_cons (pe_callB call_len_str (by rfl) T.zLen PySem.boot_len (pa_cons (pv 0) pa_nil)) pa_nil)))) pss_nil)
    (pss_one (ps_ret (pe_fld (pv 1) rfl)))))), ?_⟩
  intro p dx np ndx nex
  have s0 : Same H (upd (upd H dx (.own p)) p (.ins C dx [])) := fun b o e => by
    rw [upd_ne (ne_of_none e np), upd_ne (ne_of_none e ndx)]
    exact e
  refine ⟨H, p, dx, rfl, s0, np, upd_same, fun H1 R1 => ⟨rfl, ?_⟩⟩
  refine ⟨_, rfl, _, rfl, for_enumS (fun i σ X => ∃ (s' : RS) (y2 y3 : Option V), σ = [some (.str z), some (.ref p), y2, y3] ∧ RdAt K C H X p s' ∧ runR rs0 (z.cps.toList.take i) = some s' ∧ readFrom rs0 0 z.cps.toList = readFrom s' i (z.cps.toList.drop i))
    ⟨rs0, none, none, rfl, R1, rfl, rfl⟩ ?_ ?_⟩
  · rintro i c σ X T0 hc ⟨s', y2, y3, rfl, RX, r1, r2⟩ nT0
    have hc2 : z.cps.toList[i]? = some c := by
      rw [Array.getElem?_toList]
      exact hc
    obtain ⟨ilt, ic⟩ := List.getElem?_eq_some_iff.mp hc2
    have W := wf_run _ wf_0 r1
    rw [List.length_take] at W
    obtain ⟨dx1, l, rs, v, RX1⟩ := RX
    have R2 := RX1.new (o := .tup [.int (i : Nat), .str ⟨#[c]⟩]) nT0
    have eT : upd X T0 (.tup [.int (i : Nat), .str ⟨#[c]⟩]) T0 = _ := upd_same
    generalize upd X T0 (.tup [.int (i : Nat), .str ⟨#[c]⟩]) = X2 at R2 eT
    refine ⟨T0, _, rfl, .inl (.inl eT), rfl, _, _, rfl, _, _, rfl, rfl, ?_⟩
    have dr : z.cps.toList.drop i = c :: z.cps.toList.drop (i + 1) := by
      rw [← ic]
      exact List.drop_eq_getElem_cons ilt
    have tk1 : z.cps.toList.take (i + 1) = z.cps.toList.take i ++ [c] := by
      rw [List.take_add_one, hc2]
      rfl
    rw [dr] at r2
    refine ⟨_, rfl, p, dx1, _, rfl, R2.ho, rf_no _ _ _ _ _ no_tk, _, rfl, H, p, s', _, c, rfl, ⟨dx1, l, rs, v, R2⟩, W, by omega, fun tn => ?_, fun s2 H2 ts RH2 => ?_⟩
    · have e9 : readFrom rs0 0 z.cps.toList = .stop i := by
        rw [r2]
        simp only [readFrom, tn]
      refine ⟨_, rfl, iteT ?_⟩
      refine ⟨_, rfl, (by show 1 ≤ 1000; decide), fun a na => ?_⟩
      refine ⟨a, (i : Int), rfl, upd_same, fun ddx ndd ne => ?_⟩
      have nx : X2 ddx = none := by
        rw [upd_ne ne] at ndd
        exact ndd
      refine ⟨rfl, ddx, [(Str.ofString "at", .int (i : Int))], upd_same, by rw [upd_ne ne, upd_same], nx, ?_⟩
      refine qe i ddx _ e9 (fun b u e => ?_) upd_same
      have e1 := R2.same _ _ e
      have c1 : b ≠ ddx := ne_of_none e1 nx
      have c2 : b ≠ a := ne_of_none e1 na
      rw [upd_ne c1, L2.del_ne c2, upd_ne c2, upd_ne c1, upd_ne c2]
      exact e1
    · refine ⟨_, rfl, iteF ?_⟩
      refine ⟨s2, _, _, rfl, RH2, ?_, ?_⟩
      · rw [tk1]
        refine run_two r1 ?_
        simp only [runR, ts]
      · rw [r2]
        simp only [readFrom, ts]
  · rintro σ X ⟨s', y2, y3, rfl, ⟨dx1, l, rs, v, RX⟩, r1, r2⟩
    have e1 : z.cps.size = z.cps.toList.length := Array.length_toList.symm
    rw [e1, List.drop_length] at r2
    have wh := RX.wh
    rcases wh with ⟨ev, ew⟩ | ⟨ds, ew, hv⟩
    · subst ev
      have e9 : readFrom rs0 0 z.cps.toList = .stop z.length := by
        rw [r2, ln]
        simp only [readFrom, ew]
      refine ⟨_, rfl, p, C, dx1, _, _, rfl, RX.ho, T.cl, T.nW, rf_W _ _ _ _, rfl, _, rfl, ?_⟩
      rw [show decide (V.non = V.non) = true from decide_eq_true rfl]
      refine iteT ?_
      refine ⟨_, rfl, _, rfl, line, (by show 1 ≤ 1000; decide), fun a na => ?_⟩
      refine ⟨a, (z.length : Int), rfl, upd_same, fun ddx ndd ne => ?_⟩
      have nx : X ddx = none := by
        rw [upd_ne ne] at ndd
        exact ndd
      refine ⟨rfl, ddx, [(Str.ofString "at", .int (z.length : Int))], upd_same, by rw [upd_ne ne, upd_same], nx, ?_⟩
      refine qe z.length ddx _ e9 (fun b u e => ?_) upd_same
      have e1 := RX.same _ _ e
      have c1 : b ≠ ddx := ne_of_none e1 nx
      have c2 : b ≠ a := ne_of_none e1 na
      rw [upd_ne c1, L2.del_ne c2, upd_ne c2, upd_ne c1, upd_ne c2]
      exact e1
    · have e9 : readFrom rs0 0 z.cps.toList = .tree (.tuple ds) := by
        rw [r2]
        simp only [readFrom, ew]
      have notN : v ≠ .non := fun z => by
        rw [z] at hv
        cases hv
      refine ⟨_, rfl, p, C, dx1, _, _, rfl, RX.ho, T.cl, T.nW, rf_W _ _ _ _, rfl, _, rfl, ?_⟩
      rw [show decide (v = V.non) = false from decide_eq_false notN]
      refine iteF ⟨_, rfl, p, C, dx1, _, _, rfl, RX.ho, T.cl, T.nW, rf_W _ _ _ _, ?_⟩
      exact qt ds v X e9 RX.same hv
end
end Kf
set_option Elab.async false
set_option linter.all false
set_option maxRecDepth 100000
set_option maxHeartbeats 8000000
set_option pp.maxSteps 500
/-! A text, bent. -/
namespace Kf
open PySem PySem.Spec PyProof.Rows L2 Sx
abbrev sBent : Stmt := top 22
abbrev bentN : List Str := ["dice", "text", "at", "to", "signs", "sign", "way"]
theorem scBent : FnScope bentN ["dice", "text"] (defScope sBent) := ⟨rfl, rfl, rfl, by decide +kernel, rfl, by decide +kernel, by decide +kernel⟩
theorem cut_le (z : Str) (lo hi : Option Int) : (cutS z lo hi).length ≤ z.length := by
  have e : (cutS z lo hi).length = (cutS z lo hi).cps.toList.length := Array.length_toList.symm
  have e2 : z.cps.toList.length = z.length := Array.length_toList
  have e3 : (cutS z lo hi).cps.toList = (z.cps.toList.drop (HT.sIx z.length 0 lo)).take (HT.sIx z.length z.length hi - HT.sIx z.length 0 lo) := by
    unfold cutS
    simp
  rw [e, e3, List.length_take, List.length_drop, e2]
  omega
section
variable {P : Program} {w : World} {K : PySem.W.Frag} {mg : Str → Option Value} {base : Heap}
def spBent : Sp := fun vs H Q _ => ∃ (p L : Addr) (z : Str) (m : Int), vs = [.ref p, .str z] ∧ z.length ≤ 100000 ∧ m < 2 ^ 45 ∧ DiceAt H p L m ∧ ∀ r H', r.length ≤ 2 * z.length + 1 → But p H H' → DiceAt H' p L (m + 4) → Q (.str r) H'
theorem ok_bent {f fr fp : Addr} {fd dr dp : FuncData} (F : Fun K "_law_bent" "_law_bent" sBent f fd) (D : Draw P w K mg base fr fp dr dp) (zLen : mg "len" = none) (zMin : mg "min" = none) (zMax : mg "max" = none) : FnOk P w K mg base CX0 2 f fd ["dice", "text"] spBent := by
  refine F.ok scBent (fun vs H Q E h => ?_) (fun cdv A outer s H vs Q E hr h => ?_)
  · obtain ⟨p, L, z, m, rfl, _⟩ := h
    rfl
  obtain ⟨p, L, z, m, rfl, hz, mb, hD, q⟩ := h
  have line : z.length ≤ sizeLine := Nat.le_trans hz (by decide)
  have fits : ∀ n : Nat, n ≤ 300000 → n ≤ sizeLine := fun n h => Nat.le_trans h (by decide)
  refine ⟨_, (pss_cons (ps_set (i := 2) scBent.nd rfl (.inl rfl) (pe_call D.R hr (by rfl) D.mR D.kR D.bR .nil pass0 (pa_cons (pv 0) (pa_cons (pe_op op_add (pe_callB call_len_str (by rfl) zLen PySem.boot_len (pa_cons (pv 1) pa_nil)) pe_int) pa_nil))))
    (pss_cons (ps_set (i := 3) scBent.nd rfl (.inl rfl) (pe_call D.R hr (by rfl) D.mR D.kR D.bR .nil pass0 (pa_cons (pv 0) (pa_cons (pe_op op_add (pe_callB call_len_str (by rfl) zLen PySem.boot_len (pa_cons (pv 1) pa_nil)) pe_int) pa_nil))))
    (pss_cons (ps_set (i := 4) scBent.nd rfl (.inl rfl) pe_str)
    (pss_cons (ps_set (i := 4) scBent.nd rfl (.inl rfl) (pe_op op_add_str (pv 4) pe_str))
    (pss_cons (ps_set (i := 5) scBent.nd rfl (.inl rfl) (pe_ix ix_str (pv 4) (pe_call D.R hr (by rfl) D.mR D.kR D.bR .nil pass0 (pa_cons (pv 0) (pa_cons (pe_callB call_len_str (by rfl) zLen PySem.boot_len (pa_cons (pv 4) pa_nil)) pa_nil))) (fun _ _ => rfl)))
    (pss_cons (ps_set (i := 6) scBent.nd rfl (.inl rfl) (pe_call D.R hr (by rfl) D.mR D.kR D.bR .nil pass0 (pa_cons (pv 0) (pa_cons pe_int pa_nil))))
    (pss_cons (ps_if (pt_cmpR op_lt (pv 6) pe_int (nomark _)) (pss_one (ps_ret (pe_op op_add_str (pe_op op_add_str (pe_slice sl_str (pv 1) po_none (po_some (pv 2))) (pv 5)) (pe_slice sl_str (pv 1) (po_some (pv 2)) po_none)))) pss_nil)
    (pss_cons (ps_if (pt_cmpR op_lt (pv 6) pe_int (nomark _)) (pss_one (ps_ret (pe_op op_add_str (pe_slice sl_str (pv 1) po_none (po_some (pv 2))) (pe_slice sl_str (pv 1) (po_some (pe_op op_add (pv 2) pe_int)) po_none)))) pss_nil)
    (pss_cons (ps_if (pt_cmpR op_lt (pv 6) pe_int (nomark _)) (pss_one (ps_ret (pe_op op_add_str (pe_op op_add_str (pe_slice sl_str (pv 1) po_none (po_some (pv 2))) (pv 5)) (pe_slice sl_str (pv 1) (po_some (pe_op op_add (pv 2) pe_int)) po_none)))) pss_nil)
    (pss_cons (ps_if (pt_cmpR op_eq (pv 6) pe_int (nomark _)) (pss_one (ps_ret (pe_slice sl_str (pv 1) po_none (po_some (pv 2))))) pss_nil)
    (pss_cons (ps_if (pt_cmpR op_eq (pv 6) pe_int (nomark _)) (pss_one (ps_ret (pe_op op_add_str (pe_slice sl_str (pv 1) po_none (po_some (pe_callB (call_min2 rfl) (by rfl) zMin (by decide +kernel) (pa_cons (pv 2) (pa_cons (pv 3) pa_nil))))) (pe_slice sl_str (pv 1) (po_some (pe_callB (call_max2 rfl) (by rfl) zMax (by decide +kernel) (pa_cons (pv 2) (pa_cons (pv 3) pa_nil)))) po_none)))) pss_nil)
    (pss_one (ps_ret (pe_op op_add_str (pe_slice sl_str (pv 1) po_none (po_some (pe_callB (call_max2 rfl) (by rfl) zMax (by decide +kernel) (pa_cons (pv 2) (pa_cons (pv 3) pa_nil))))) (pe_slice sl_str (pv 1) (po_some (pe_callB (call_min2 rfl) (by rfl) zMin (by decide +kernel) (pa_cons (pv 2) (pa_cons (pv 3) pa_nil)))) po_none))))))))))))))), ?_⟩
  have small : (((z.length : Nat) : Int) + 1).natAbs < 2 ^ 200 := Nat.lt_of_lt_of_le (show (((z.length : Nat) : Int) + 1).natAbs < 2 ^ 30 by omega) (Nat.pow_le_pow_right (by decide) (by decide))
  refine ⟨_, rfl, _, rfl, z, rfl, line, _, _, rfl, rfl, p, L, ((z.length : Nat) : Int) + 1, m, rfl, by omega, small, by omega, hD, fun at_ H1 a0 a1 b1 h1 => ?_⟩
  refine ⟨_, rfl, _, rfl, z, rfl, line, _, _, rfl, rfl, p, L, ((z.length : Nat) : Int) + 1, _, rfl, by omega, small, by omega, h1, fun to_ H2 t0 t1 b2 h2 => ?_⟩
  refine ⟨_, rfl, _, _, rfl, rfl, by decide +kernel, ?_⟩
  generalize hS : (Str.ofString " !\"#$&'()*+,-./0123456789:;<=>?@ABCDEFGHIJKLMNOPQRSTUVWXYZ[\\]^_`" ++ Str.ofString "abcdefghijklmnopqrstuvwxyz{|}~()() 0123\n\t" : Str) = signs
  have ls : signs.length = 105 := by
    rw [← hS]
    decide +kernel
  have lls : signs.cps.toList.length = 105 := by
    rw [Array.length_toList]
    exact ls
  refine ⟨_, rfl, _, rfl, _, rfl, signs, rfl, by rw [ls]; decide, p, L, ((signs.length : Nat) : Int), _, rfl, by omega, by rw [ls]; decide, by omega, h2, fun k H3 k0 k1 b3 h3 => ?_⟩
  obtain ⟨c, _, hc⟩ := atI_in (xs := signs.cps.toList) k0 (by omega)
  refine ⟨_, k, c, rfl, rfl, by rw [ls]; decide, hc, ?_⟩
  refine ⟨_, rfl, p, L, 9, _, rfl, by decide, by decide, by omega, h3, fun way H4 _ _ b4 h4 => ?_⟩
  have bb : But p H H4 := b1.trans (b2.trans (b3.trans b4))
  have q4 : ∀ r : Str, r.length ≤ 2 * z.length + 1 → Q (.str r) H4 := fun r h => q r H4 h bb (h4.more (by omega))
  have l1 : (⟨#[c]⟩ : Str).length = 1 := rfl
  have cl := fun lo hi => cut_le z lo hi
  refine ⟨_, rfl, _, _, rfl, rfl, _, rfl, ?_⟩
  refine ite2 (fun _ => ?_) (fun _ => ?_)
  · have c1 := cl none (some at_)
    have c2 := cl (some at_) none
    refine ⟨_, rfl, _, rfl, at_, rfl, z, rfl, line, _, rfl, _, _, rfl, rfl, fits _ (by rw [l1]; omega), _, rfl, _, rfl, at_, rfl, z, rfl, line, _, _, rfl, rfl, fits _ (by rw [add_len, l1]; omega), q4 _ ?_⟩
    rw [add_len, add_len, l1]
    omega
  refine ⟨_, rfl, _, _, rfl, rfl, _, rfl, ?_⟩
  refine ite2 (fun _ => ?_) (fun _ => ?_)
  · have c1 := cl none (some at_)
    have c2 := cl (some (at_ + 1)) none
    refine ⟨_, rfl, _, rfl, at_, rfl, z, rfl, line, _, rfl, _, rfl, at_, 1, rfl, rfl, at_ + 1, rfl, z, rfl, line, _, _, rfl, rfl, fits _ (by omega), q4 _ ?_⟩
    rw [add_len]
    omega
  refine ⟨_, rfl, _, _, rfl, rfl, _, rfl, ?_⟩
  refine ite2 (fun _ => ?_) (fun _ => ?_)
  · have c1 := cl none (some at_)
    have c2 := cl (some (at_ + 1)) none
    refine ⟨_, rfl, _, rfl, at_, rfl, z, rfl, line, _, rfl, _, _, rfl, rfl, fits _ (by rw [l1]; omega), _, rfl, _, rfl, at_, 1, rfl, rfl, at_ + 1, rfl, z, rfl, line, _, _, rfl, rfl, fits _ (by rw [add_len, l1]; omega), q4 _ ?_⟩
    rw [add_len, add_len, l1]
    omega
  refine ⟨_, rfl, rfl, _, rfl, ?_⟩
  refine ite2 (fun _ => ?_) (fun _ => ?_)
  · have c1 := cl none (some at_)
    exact ⟨_, rfl, _, rfl, at_, rfl, z, rfl, line, q4 _ (by omega)⟩
  refine ⟨_, rfl, rfl, _, rfl, ?_⟩
  refine ite2 (fun _ => ?_) (fun _ => ?_)
  · have c1 := cl none (some (if to_ < at_ then to_ else at_))
    have c2 := cl (some (if to_ > at_ then to_ else at_)) none
    refine ⟨_, rfl, _, rfl, _, rfl, at_, to_, rfl, _, rfl, z, rfl, line, _, rfl, _, rfl, _, rfl, at_, to_, rfl, _, rfl, z, rfl, line, _, _, rfl, rfl, fits _ (by omega), q4 _ ?_⟩
    rw [add_len]
    omega
  · have c1 := cl none (some (if to_ > at_ then to_ else at_))
    have c2 := cl (some (if to_ < at_ then to_ else at_)) none
    refine ⟨_, rfl, _, rfl, _, rfl, at_, to_, rfl, _, rfl, z, rfl, line, _, rfl, _, rfl, _, rfl, at_, to_, rfl, _, rfl, z, rfl, line, _, _, rfl, rfl, fits _ (by omega), q4 _ ?_⟩
    rw [add_len]
    omega
end
end Kf
set_option Elab.async false
set_option linter.all false
set_option maxRecDepth 100000
set_option maxHeartbeats 8000000
set_option pp.maxSteps 500
/-! k81: what the law looks at. -/
namespace Kf
open PySem PySem.Spec PyProof.Rows L2 Sx Xk
abbrev sRight : Stmt := top 23
abbrev rightN : List Str := ["text", "caught", "found", "e", "due"]
theorem scRight : FnScope rightN ["text"] (defScope sRight) := ⟨rfl, rfl, rfl, by decide +kernel, rfl, by decide +kernel, by decide +kernel⟩
structure EX (K : PySem.W.Frag) (mg : Str → Option Value) (NT GE NG NR : Addr) : Prop where
  mT : mg "NoText" = some (.ref NT)
  mG : mg "GroundError" = some (.ref GE)
  mN : mg "NoGround" = some (.ref NG)
  mR : mg "NoRow" = some (.ref NR)
  up : PySem.W.exmOne K (.ref NT) (.ref GE) = some true
  cl : ExcC K NT
  tt : PySem.W.kitOne K (.ref NT) (.ref NT) = some true
  any : PySem.W.kitAny K (.ref NT) [.ref NG, .ref NR] = some false
  ve : PySem.W.kitOne K (.ref NT) (.type "ValueError") = some true
  xf : XfC K NT
  zIs : mg "isinstance" = none
  zTuple : mg "tuple" = none
  zVE : mg "ValueError" = none
  zRepr : mg "repr" = none
mutual
/-- a thing has no more pieces than its text has signs -/
theorem psz_txt : ∀ d : PyData, tw d = true → psz d ≤ (cs d).length
  | .tuple ds, h => by
    have r : Rw ds := h
    have a := psz_txts ds (by have h2 := r; unfold Rw at h2; rw [Bool.and_eq_true] at h2; exact h2.2) r.ne
    rw [cs_row r]
    show 1 + pszs ds ≤ _
    rw [List.length_cons, List.length_append]
    show 1 + pszs ds ≤ (jc ds).length + 1 + 1
    omega
  | .str z, h => by
    have h2 : wordB z = true := h
    unfold wordB at h2
    rw [Bool.and_eq_true, Bool.and_eq_true] at h2
    have a := of_decide_eq_true h2.1.1
    show 1 ≤ z.cps.toList.length
    rw [Array.length_toList]
    exact a
  | .int i, h => by
    have h2 : (decide (0 ≤ i) && decide (i < 10 ^ 60)) = true := h
    rw [Bool.and_eq_true] at h2
    obtain ⟨n, rfl⟩ := Int.eq_ofNat_of_zero_le (of_decide_eq_true h2.1)
    have e : cs (.int (n : Int)) = TL.numL n := TL.tl_num n
    rw [e]
    exact List.length_pos_iff.mpr (TL.numL_ne n)
  | .list _, h => (Bool.false_ne_true h).elim
  | .none, h => (Bool.false_ne_true h).elim
  | .bool _, h => (Bool.false_ne_true h).elim
  | .dict _, h => (Bool.false_ne_true h).elim
theorem psz_txts : ∀ ds : List PyData, tws ds = true → ds ≠ [] → pszs ds ≤ (jc ds).length
  | [], _, h => absurd rfl h
  | [d], h, _ => by
    have h2 : (tw d && true) = true := h
    rw [Bool.and_true] at h2
    have a := psz_txt d h2
    rw [jc_one]
    show psz d + 0 ≤ _
    omega
  | d :: e :: r, h, _ => by
    have h2 : (tw d && tws (e :: r)) = true := h
    rw [Bool.and_eq_true] at h2
    have a := psz_txt d h2.1
    have b := psz_txts (e :: r) h2.2 (by simp)
    show psz d + pszs (e :: r) ≤ (cs d ++ 32 :: jc (e :: r)).length
    rw [List.length_append, List.length_cons]
    omega
end
section
variable {P : Program} {w : World} {K : PySem.W.Frag} {mg : Str → Option Value} {base : Heap}
def spRight : Sp := fun vs H Q _ => ∃ z : Str, vs = [.str z] ∧ z.length ≤ 20000 ∧ ∀ H', Same H H' → Q (.bl true) H'
theorem same_V (a b : Str) (h : a = b) : decide (V.str a = V.str b) = true := by rw [h]; exact decide_eq_true rfl
theorem nat_log {n : Nat} (h : n ≤ 100000) : ((n : Int)).natAbs.log2 < 1920 := by
  rw [Int.natAbs_natCast]
  by_cases z : n = 0
  · rw [z]
    decide
  · exact (Nat.log2_lt z).2 (Nat.lt_of_le_of_lt h (Nat.lt_of_lt_of_le (show 100000 < 2 ^ 20 by decide) (Nat.pow_le_pow_right (by decide) (by decide))))
theorem ok_right {f gR gX gW NT GE NG NR fN : Addr} {fd dR dX dW dN : FuncData} (F : Fun K "_law_right" "_law_right" sRight f fd) (G : FnOk P w K mg base (L2.CX P w) 4 gR dR ["text"] (spReadX K NT)) (bG : Binds K dR ["text"] []) (kG : PySem.W.keepIn K (.ref gR) = true) (mG : mg "read" = some (.ref gR))
    (X : _root_.Gd.FnD P w K mg base 301 gX dX ["tree"] (spText K 301)) (bX : Binds K dX ["tree"] []) (kX : PySem.W.keepIn K (.ref gX) = true) (mX : mg "_law_text" = some (.ref gX))
    (Wr : FnOk P w K mg base CX0 2 gW dW ["text"] spWrong) (bW : Binds K dW ["text"] []) (kW : PySem.W.keepIn K (.ref gW) = true) (mW : mg "_law_wrong" = some (.ref gW))
    (M : EX K mg NT GE NG NR) (N : NoTx K mg NT fN dN) : FnOk P w K mg base CX0 151 f fd ["text"] spRight := by
  refine F.ok scRight (fun vs H Q E h => ?_) (fun cdv A outer s H vs Q E hr h => ?_)
  · obtain ⟨z, rfl, _⟩ := h
    rfl
  obtain ⟨z, rfl, hz, q⟩ := h
  have h2 : Room 2 _ := hr.mono (by decide)
  have h4 : Room 4 _ := hr.mono (by decide)
  have hD : _root_.Gd.RoomD 301 _ := .of hr (by decide) (by decide)
  obtain ⟨stopped, told⟩ := read_ph z.cps.toList rs0 [] 0 rs0_ph
  rw [absL_0] at stopped told
  refine ⟨_, (pss_cons (ps_set (i := 1) scRight.nd rfl (.inl rfl) pe_non)
    (pss_cons (ps_set (i := 2) scRight.nd rfl (.inl rfl) pe_non)
    (pss_cons (ps_try_hold (i := 3) (c := .ref GE) rfl rfl scRight.nd rfl rfl ⟨by rfl, by decide, .inl M.mG⟩ L2.takes0 rfl
      (fun W pn xe tk _ => pss_one (ps_set (i := 2) scRight.nd rfl (.inl rfl) (pe_callS (E := fun σ => WE W σ) G h4 (by rfl) mG kG bG (fun σ => passAt tk σ) (pa_cons (pv 0) pa_nil))))
      (fun a oe cls d pn _ _ => pss_one (ps_set (i := 1) scRight.nd rfl (.inl rfl) (pv 3))))
    (pss_cons (ps_set (i := 4) scRight.nd rfl (.inl rfl) (pe_call Wr h2 (by rfl) mW kW bW .nil pass0 (pa_cons (pv 0) pa_nil)))
    (pss_cons (ps_if (pt_cmpR op_isN (pv 4) pe_non (nomark _)) (pss_one (ps_ret (pe_and (pe_cmpR op_isN (pv 1) pe_non (nomark _)) (pe_and (pe_callB (id := "isinstance") (r := rIsi K) call_isi (by rfl) M.zIs (by decide +kernel) (pa_cons (pv 2) (pa_cons (pe_bltn (v := .ty "tuple") (by rfl) M.zTuple (by decide +kernel) rfl) pa_nil))) (pe_one (pe_cmpR op_eq (_root_.Gd.pe_callD X hD (by rfl) mX kX bX (pa_cons (pv 2) pa_nil)) (pv 0) (nomark _))))))) pss_nil)
    (pss_cons (ps_if (PW.pt (pw_or (pt_not (pt_val (pe_callB call_isX (by rfl) M.zIs (by decide +kernel) (pa_cons (pv 1) (pa_cons (pe_glob (v := .ref NT) (by rfl) M.mT rfl) pa_nil))))) (pw_or (pt_val (pe_callB call_isXT (by rfl) M.zIs (by decide +kernel) (pa_cons (pv 1) (pa_cons (pe_tup (pa_cons (pe_glob (v := .ref NG) (by rfl) M.mN rfl) (pa_cons (pe_glob (v := .ref NR) (by rfl) M.mR rfl) pa_nil))) pa_nil)))) (pw_or1 (pt_not (pt_val (pe_callB call_isX (by rfl) M.zIs (by decide +kernel) (pa_cons (pv 1) (pa_cons (pe_bltn (v := .ty "ValueError") (by rfl) M.zVE (by decide +kernel) rfl) pa_nil))))))))) (pss_one (ps_ret pe_bl)) pss_nil)
    (pss_one (ps_ret (pe_cmpR op_eq (pe_callB SkE.call_repr_int (by rfl) M.zRepr (by decide +kernel) (pa_cons (pe_fieldX M.xf N.noN (pv 1)) pa_nil)) (pe_callB SkE.call_repr_int (by rfl) M.zRepr (by decide +kernel) (pa_cons (pv 4) pa_nil)) (nomark _)))))))))), ?_⟩
  refine ⟨_, rfl, z, rfl, Nat.le_trans hz (by decide), fun ds v H1 e sm hv => ?_, fun k dd H1 e sm hx => ?_⟩
  · obtain ⟨ew, ds2, e2, rw_, dp, ez⟩ := told _ e
    injection e2 with e2
    subst e2
    refine ⟨_, rfl, z, rfl, Nat.le_trans hz (by decide), fun H2 s2 => ?_⟩
    rw [ew]
    refine ⟨_, rfl, rfl, _, rfl, ?_⟩
    rw [show decide (wv none = V.non) = true from decide_eq_true rfl]
    have hv2 : Dp K H2 v (.tuple ds) := dp_up s2 _ _ (dp_up tups_in _ _ hv)
    have tt : tw (.tuple ds) = true := rw_
    have ln : (cs (.tuple ds)).length = z.length := by
      rw [ez, List.nil_append, Array.length_toList]
      rfl
    have ps := psz_txt _ tt
    refine iteT ⟨_, rfl, rfl, _, rfl, ?_⟩
    rw [show decide (V.non = V.non) = true from decide_eq_true rfl]
    refine iteT ⟨_, rfl, _, _, _, _, true, rfl, .ty "tuple", dp_ty hv2, kit_tu (.tuple ds), _, rfl, ?_⟩
    refine iteT ⟨_, rfl, v, ds, rfl, hv2, tt, by show PyData.depthAll ds + 1 ≤ 301; omega, by omega, fun H3 s3 => ⟨_, rfl, rfl, ?_⟩⟩
    have et : txt (.tuple ds) = z := by
      have e3 : str (cs (.tuple ds)) = str z.cps.toList := by rw [ez, List.nil_append]
      have e4 : str (cs (.tuple ds)) = txt (.tuple ds) := str_tl _
      rw [← e4, e3, str_tl]
    rw [same_V _ _ et]
    exact q _ (sm.trans (s2.trans s3))
  · have ew := stopped k e
    refine ⟨true, M.up, fun _ a na => ?_, fun z => by cases z⟩
    refine ⟨_, rfl, fun _ => ?_⟩
    have sX : Same H1 (upd H1 a (ExK (.ref NT) (some dd) a)) := same_new na
    have eA : upd H1 a (ExK (.ref NT) (some dd) a) a = some (ExK (.ref NT) (some dd) a) := upd_same
    have hx1 := sX _ _ hx
    generalize upd H1 a (ExK (.ref NT) (some dd) a) = X1 at sX eA hx1
    refine ⟨_, rfl, z, rfl, Nat.le_trans hz (by decide), fun X2 sY => ?_⟩
    have eB := sY _ _ eA
    have hx2 := sY _ _ hx1
    rw [ew]
    refine ⟨_, rfl, rfl, _, rfl, ?_⟩
    rw [show decide (wv (some k) = V.non) = false from decide_eq_false (fun z => by cases z)]
    have dk : DictOk X2 (some dd) := .inr ⟨dd, _, rfl, hx2⟩
    refine iteF ⟨_, rfl, a, NT, some dd, _, _, true, rfl, eB, dk, M.cl, .own NT, M.tt, _, rfl, ?_⟩
    refine iteF ⟨_, rfl, (by show 2 ≤ sizeLine; decide), fun tp np => ?_⟩
    have sZ := same_new (o := .tup [.ref NG, .ref NR]) np
    have eC := sZ _ _ eB
    have hx3 := sZ _ _ hx2
    have eT : upd X2 tp (.tup [.ref NG, .ref NR]) tp = _ := upd_same
    generalize upd X2 tp (.tup [.ref NG, .ref NR]) = X3 at sZ eC eT hx3
    have dk3 : DictOk X3 (some dd) := .inr ⟨dd, _, rfl, hx3⟩
    refine ⟨a, NT, tp, some dd, _, _, false, rfl, eC, dk3, M.cl, eT, .cons (.own NG) (.cons (.own NR) .nil), M.any, _, rfl, ?_⟩
    refine iteF ⟨_, rfl, a, NT, some dd, _, _, true, rfl, eC, dk3, M.cl, .ty "ValueError", M.ve, _, rfl, ?_⟩
    refine iteF ?_
    have kz : k ≤ 100000 := by
      have bound : ∀ (r : List Nat) (s : RS) (i k : Nat), readFrom s i r = .stop k → k ≤ i + r.length := by
        intro r
        induction r with
        | nil =>
          intro s i k e
          cases ew : s.whole with
          | none =>
            simp only [readFrom, ew] at e
            injection e with e
            omega
          | some d =>
            simp only [readFrom, ew] at e
            cases e
        | cons c r ih =>
          intro s i k e
          cases et : takeR s c with
          | none =>
            simp only [readFrom, et] at e
            injection e with e
            omega
          | some s' =>
            simp only [readFrom, et] at e
            have := ih s' (i + 1) k e
            rw [List.length_cons]
            omega
      have b := bound _ _ _ _ e
      rw [Array.length_toList] at b
      have b2 : k ≤ 0 + z.length := b
      omega
    refine ⟨_, rfl, a, dd, _, .int (k : Int), rfl, eC, hx3, by simp [List.lookup], (k : Int), rfl, nat_log kz, _, rfl, (k : Int), rfl, nat_log kz, rfl, ?_⟩
    rw [same_V _ _ rfl]
    exact q _ (sm.trans (sX.trans (sY.trans sZ)))
end
end Kf
set_option Elab.async false
set_option linter.all false
set_option maxRecDepth 100000
set_option maxHeartbeats 4000000
/-! text * number, tuple * number further. -/
namespace Kf
open PySem PySem.Spec PyProof.Rows L2 Sx
theorem op_mulS {X : Cx} : OpR X (binaryOp .Mult) (fun x y H Q => ∃ z n, x = .str z ∧ y = .int n ∧ MulOk z n ∧ Q (.str (Txt.mul z n)) H) := by
  intro pins s σ H x y v u Q I rx ry h
  obtain ⟨z, n, rfl, rfl, ok, q⟩ := h
  obtain ⟨t, rfl⟩ := rx
  obtain ⟨t', rfl⟩ := ry
  exact SB.mul ok fun t' k => ⟨.str (Txt.mul z n), H, I.tok _, ⟨_, rfl⟩, q⟩
/-- what tuple * number wants, the bounds wider -/
def rRepB (K : PySem.W.Frag) : R2 := fun x y H Q => ∃ (l : Addr) (k : Nat) (xs : List V), x = .ref l ∧ y = .int (k : Int) ∧ SqT K H l xs ∧ xs ≠ [] ∧ 2 ≤ k ∧ k ≤ 5000 ∧ xs.length ≤ 100 ∧ ∀ q, H q = none → Q (.ref q) (upd H q (.tup (List.replicate k xs).flatten))
theorem op_repB {X : Cx} : OpR X (binaryOp .Mult) (rRepB X.K) := by
  intro pins s σ H x y v u Q I rx ry ⟨l, k, xs, ex, ey, st, some_, two, five, hund, q⟩
  subst ex
  subst ey
  cases rx
  obtain ⟨tk, rfl⟩ := ry
  obtain ⟨us, rel, ⟨⟨oc, od, dt, sl⟩, here, hcls, num, hdat⟩, _⟩ := I.tuple st
  obtain rfl : oc = Value.type "tuple" := hcls
  obtain rfl : dt = Data.seq us.toArray num := hdat
  have same : us.length = xs.length := rel.length.symm
  have pos : 0 < us.length := by
    rw [same]
    exact List.length_pos_iff.mpr some_
  have notE : us.toArray.isEmpty = false := by
    cases us with
    | nil => exact absurd pos (Nat.lt_irrefl 0)
    | cons _ _ => rfl
  have sz : us.toArray.size = xs.length := by rw [List.size_toArray, same]
  have prod : xs.length * k ≤ 100 * 5000 := Nat.mul_le_mul hund five
  have prodI : ((us.toArray.size : Nat) : Int) * (k : Int) ≤ 500000 := by
    rw [sz, ← Int.natCast_mul]
    exact Int.ofNat_le.mpr prod
  have all : (List.replicate k us).flatten.length ≤ sizeLine := by
    rw [PyProof.Rows.lm_len_rep_flat, same, Nat.mul_comm]
    exact Nat.le_trans prod (by decide)
  have made : ∀ m : Nat, (List.replicate m us.toArray).foldl (fun a b => a ++ b) #[] = (List.replicate m us).flatten.toArray := fun m => size_rep us m
  have tn : (k : Int).toNat = k := Int.toNat_natCast k
  have lim : Builtin.Tuple.tupleTooMany (((us.toArray.size : Nat) : Int) * (k : Int)) = false := by
    show decide _ = false
    rw [sizeLine_eq]
    exact decide_eq_false (by omega)
  have run := tuple_mulW l us.toArray num od sl (k : Int) tk (by rw [decide_eq_false (show ¬ (k : Int) < -(2 ^ 63) by omega), decide_eq_false (show ¬ (k : Int) ≥ 2 ^ 63 by omega)]; rfl)
    (by rw [notE]; exact beq_eq_false_iff_ne.mpr (show (k : Int) ≠ 1 by omega)) (by rw [notE, decide_eq_false (show ¬ (k : Int) ≤ 0 by omega)]; rfl) (by omega) lim (by rw [tn, made, List.size_toArray]; exact all)
  have tyI := typeIs_int s (k : Int) tk
  have tyT : s.TypeIs (.ref l) "tuple" := ⟨_, here, rfl⟩
  refine wpAny_binaryOp_repeat_ref (T := "tuple") (U := "int") (by decide) tyT (fun z => typeIs_int z _ _) noFill_tuple_mul F.fills_int_mul F.slot_int_rmul repeat_tuple F.slot_int_index.lookup
    (call_meets F.slot_int_rmul tyI F.entry_int_rmul (F.args_int_rmul_2 _ _) (int_rmul_tuple _ tk l us.toArray num od sl) ⟨here, rfl, tyT, call_meets F.slot_tuple_mul tyT F.entry_tuple_mul (F.args_tuple_mul_2 _ _) run ⟨here, ?_⟩⟩)
  rw [tn, made]
  exact ⟨.ref s.heap.objs.size, _, I.laid (t' := s.toks) (o := .tup (List.replicate k xs).flatten) (fun _ _ e => Heap.get?_push_of_some _ e) (Nat.le_refl _) ⟨by rw [← same] at prod; rw [PyProof.Rows.lm_len_rep_flat, ← same, Nat.mul_comm]; exact Nat.le_trans prod (by decide), _, rel.rep k, IsTup.new _ _⟩, rfl, q _ (I.hok.fresh (Nat.le_refl _))⟩
end Kf
set_option Elab.async false
set_option linter.all false
set_option maxRecDepth 100000
set_option maxHeartbeats 8000000
set_option pp.maxSteps 500
/-! k81: the law. -/
namespace Kf
open PySem PySem.Spec PyProof.Rows L2 Sx
abbrev sLaw : Stmt := top 24
abbrev lawN : List Str := ["script", "dice", "turn", "text", "k", "bent", "many", "some"]
theorem scLaw : FnScope lawN ["script"] (defScope sLaw) := ⟨rfl, rfl, rfl, by decide +kernel, rfl, by decide +kernel, by decide +kernel⟩
theorem cut63 {xs : List V} (h : xs.length ≤ 63) : cutV xs none (some 63) = xs := by
  unfold cutV
  have e1 : HT.sIx xs.length xs.length (some 63) = min 63 xs.length := HT.sIx_nat _ _ 63
  rw [e1, HT.sIx_none]
  show List.take (min 63 xs.length - 0) (xs.drop 0) = xs
  rw [List.drop_zero]
  exact List.take_of_length_le (by omega)
theorem glue_fold (x : Str) : ∀ (n : Nat) (acc : Array Nat), (List.replicate n x.cps).foldl (fun a b => a ++ b) acc = acc ++ (glue (List.replicate n x)).cps
  | 0, acc => by
    show acc = acc ++ ("" : Str).cps
    rw [show ("" : Str).cps = #[] by decide +kernel, Array.append_empty]
  | n + 1, acc => by
    rw [List.replicate_succ, List.foldl_cons, glue_fold x n]
    show acc ++ x.cps ++ _ = acc ++ (x ++ glue (List.replicate n x)).cps
    rw [Array.append_assoc]
    rfl
theorem mul_len (x : Str) (n : Nat) (h : 2 ≤ n) (hx : x.length ≠ 0) : (Txt.mul x (n : Int)).length = n * x.length := by
  have e0 : Txt.mul x (n : Int) = glue (List.replicate n x) := by
    unfold Txt.mul
    rw [if_neg (by omega)]
    have e : (((n : Int) == 1) || x.length == 0) = false := by
      rw [Bool.or_eq_false_iff]
      exact ⟨beq_eq_false_iff_ne.mpr (by omega), beq_eq_false_iff_ne.mpr hx⟩
    rw [if_neg (by rw [e]; exact Bool.false_ne_true), Int.toNat_natCast]
    show (⟨(List.replicate n x.cps).foldl (fun a b => a ++ b) #[]⟩ : Str) = _
    rw [glue_fold, Array.empty_append]
  rw [e0, glue_len, List.map_replicate, List.sum_replicate_nat]
theorem ok_60 : MulOk "9" 60 := by
  unfold MulOk
  decide +kernel
theorem ok_61 : MulOk "9" 61 := by
  unfold MulOk
  decide +kernel
theorem ok_5000 : MulOk "1" 5000 := by
  unfold MulOk
  decide +kernel
theorem ok_many (n : Nat) (h : n < 6) : MulOk "(a " ((297 + n : Nat) : Int) ∧ MulOk ")" ((297 + n : Nat) : Int) := by
  have c : n = 0 ∨ n = 1 ∨ n = 2 ∨ n = 3 ∨ n = 4 ∨ n = 5 := by omega
  unfold MulOk
  rcases c with rfl | rfl | rfl | rfl | rfl | rfl <;> decide +kernel
/-- texts, none too great -/
def Short (xs : List V) : Prop := ∀ x ∈ xs, ∃ z : Str, x = .str z ∧ z.length ≤ 20000
theorem Short.app {xs ys : List V} (h : Short xs) (g : Short ys) : Short (xs ++ ys) := fun x hx => (List.mem_append.mp hx).elim (h x) (g x)
theorem Short.nil : Short [] := fun x hx => (List.not_mem_nil hx).elim
theorem Short.cons {z : Str} {xs : List V} (a : z.length ≤ 20000) (h : Short xs) : Short (.str z :: xs) := fun x hx => by
  rcases List.mem_cons.mp hx with e | hx
  · exact ⟨z, e, a⟩
  · exact h x hx
def shortB : List V → Bool
  | [] => true
  | .str z :: r => decide (z.length ≤ 20000) && shortB r
  | _ :: _ => false
theorem short_of : ∀ {xs : List V}, shortB xs = true → Short xs
  | [], _ => Short.nil
  | .str z :: r, h => by
    have h2 : (decide (z.length ≤ 20000) && shortB r) = true := h
    rw [Bool.and_eq_true] at h2
    exact .cons (of_decide_eq_true h2.1) (short_of h2.2)
  | .non :: _, h => (Bool.false_ne_true h).elim
  | .bl _ :: _, h => (Bool.false_ne_true h).elim
  | .int _ :: _, h => (Bool.false_ne_true h).elim
  | .byt _ :: _, h => (Bool.false_ne_true h).elim
  | .flt _ :: _, h => (Bool.false_ne_true h).elim
  | .ref _ :: _, h => (Bool.false_ne_true h).elim
  | .ty _ :: _, h => (Bool.false_ne_true h).elim
section
variable {P : Program} {w : World} {K : PySem.W.Frag} {mg : Str → Option Value} {base : Heap}
structure Calls (P : Program) (w : World) (K : PySem.W.Frag) (mg : Str → Option Value) (base : Heap) (fr fp ft fx fb : Addr) (dr dp dt dx db : FuncData) : Prop where
  D : Draw P w K mg base fr fp dr dp
  Tr : ∀ n, FnOk P w K mg base CX0 (3 + n) ft dt ["dice", "deep"] (spTree K n)
  bTr : Binds K dt ["dice", "deep"] []
  kTr : PySem.W.keepIn K (.ref ft) = true
  mTr : mg "_law_tree" = some (.ref ft)
  Tx : ∀ n, _root_.Gd.FnD P w K mg base n fx dx ["tree"] (spText K n)
  bTx : Binds K dx ["tree"] []
  kTx : PySem.W.keepIn K (.ref fx) = true
  mTx : mg "_law_text" = some (.ref fx)
  Bt : FnOk P w K mg base CX0 2 fb db ["dice", "text"] spBent
  bBt : Binds K db ["dice", "text"] []
  kBt : PySem.W.keepIn K (.ref fb) = true
  mBt : mg "_law_bent" = some (.ref fb)
  zAll : mg "all" = none
  zList : mg "list" = none
  zRange : mg "range" = none
def spLaw (K : PySem.W.Frag) : Sp := fun vs H Q _ => ∃ (a : Addr) (ns : List Int), vs = [.ref a] ∧ SqL K H a (ns.map V.int) ∧ ns.length ≤ 63 ∧ (∀ z ∈ ns, Builtin.Int.intBits z ≤ 1048576) ∧ ∀ H', Q (.bl true) H'
theorem ok_law {f fG fr fp ft fx fb : Addr} {fdd dG dr dp dt dx db : FuncData} (F : Fun K "law" "law" sLaw f fdd) (C : Calls P w K mg base fr fp ft fx fb dr dp dt dx db)
    (Rt : FnOk P w K mg base CX0 151 fG dG ["text"] spRight) (bRt : Binds K dG ["text"] []) (kRt : PySem.W.keepIn K (.ref fG) = true) (mRt : mg "_law_right" = some (.ref fG)) : FnOk P w K mg base CX0 152 f fdd ["script"] (spLaw K) := by
  refine F.ok scLaw (fun vs H Q E h => ?_) (fun cdv A outer s H vs Q E hr h => ?_)
  · obtain ⟨a, ns, rfl, _⟩ := h
    rfl
  obtain ⟨a, ns, rfl, hS, hlen, hb, q⟩ := h
  have h1 : Room 1 _ := hr.mono (by decide)
  have h2 : Room 2 _ := hr.mono (by decide)
  have h5 : Room 5 _ := hr.mono (by decide)
  have hD : _root_.Gd.RoomD 5 _ := .of hr (by decide) (by decide)
  refine ⟨_, (pss_cons (ps_set (i := 1) scLaw.nd rfl (.inl rfl) (pe_lst (pa_cons (pe_callTy call_list_of (by rfl) C.zList (by decide +kernel) (pa_cons (pe_slice sl_list (pv 0) po_none (po_some pe_int)) pa_nil)) (pa_cons pe_int (pa_cons pe_int (pa_cons pe_int pa_nil))))))
    (pss_cons (ps_for PassesOwn.never rfl (pi_range1 (by rfl) C.zRange (pa_cons pe_int pa_nil)) (pg_name (i := 2) scLaw.nd rfl (.inl rfl)) (pss_cons (ps_set (i := 3) scLaw.nd rfl (.inl rfl) (_root_.Gd.pe_callD (C.Tx 5) hD (by rfl) C.mTx C.kTx C.bTx (pa_cons (pe_call (C.Tr 2) h5 (by rfl) C.mTr C.kTr C.bTr .nil pass0 (pa_cons (pv 1) (pa_cons pe_int pa_nil))) pa_nil)))
    (pss_one (ps_for PassesOwn.never rfl (pi_range1 (by rfl) C.zRange (pa_cons pe_int pa_nil)) (pg_name (i := 4) scLaw.nd rfl (.inl rfl)) (pss_cons (ps_set (i := 5) scLaw.nd rfl (.inl rfl) (pe_call C.Bt h2 (by rfl) C.mBt C.kBt C.bBt .nil pass0 (pa_cons (pv 1) (pa_cons (pv 3) pa_nil))))
    (pss_cons (ps_if (pt_cmpR op_gt (pv 4) pe_int (nomark _)) (pss_one (ps_set (i := 5) scLaw.nd rfl (.inl rfl) (pe_call C.Bt h2 (by rfl) C.mBt C.kBt C.bBt .nil pass0 (pa_cons (pv 1) (pa_cons (pv 5) pa_nil))))) pss_nil)
    (pss_one (ps_if (pt_not (pt_val (pe_call Rt hr (by rfl) mRt kRt bRt .nil pass0 (pa_cons (pv 5) pa_nil)))) (pss_one (ps_ret pe_bl)) pss_nil))))))))
    (pss_cons (ps_set (i := 6) scLaw.nd rfl (.inl rfl) (pe_op op_add pe_int (pe_call C.D.R h1 (by rfl) C.D.mR C.D.kR C.D.bR .nil pass0 (pa_cons (pv 1) (pa_cons pe_int pa_nil)))))
    (pss_cons (ps_set (i := 7) scLaw.nd rfl (.inl rfl) (pe_lst (pa_cons pe_str (pa_cons pe_str (pa_cons pe_str (pa_cons pe_str (pa_cons pe_str (pa_cons pe_str (pa_cons pe_str (pa_cons pe_str (pa_cons pe_str (pa_cons pe_str (pa_cons pe_str (pa_cons pe_str (pa_cons pe_str (pa_cons pe_str (pa_cons pe_str pa_nil)))))))))))))))))
    (pss_cons (ps_set (i := 7) scLaw.nd rfl (.inl rfl) (pe_op op_cat (pv 7) (pe_lst (pa_cons pe_str (pa_cons pe_str (pa_cons pe_str (pa_cons (pe_op op_add_str (pe_op op_add_str pe_str (pe_op op_mulS pe_str pe_int)) pe_str) (pa_cons (pe_op op_add_str (pe_op op_add_str pe_str (pe_op op_mulS pe_str pe_int)) pe_str) (pa_cons pe_str pa_nil)))))))))
    (pss_cons (ps_set (i := 7) scLaw.nd rfl (.inl rfl) (pe_op op_cat (pv 7) (pe_lst (pa_cons pe_str (pa_cons pe_str (pa_cons pe_str (pa_cons (pe_op op_add_str (pe_op op_add_str pe_str (pe_op op_mulS pe_str pe_int)) pe_str) pa_nil)))))))
    (pss_cons (ps_set (i := 7) scLaw.nd rfl (.inl rfl) (pe_op op_cat (pv 7) (pe_lst (pa_cons (pe_op op_add_str (pe_op op_mulS pe_str (pv 6)) pe_str) (pa_cons (pe_op op_add_str (pe_op op_add_str (pe_op op_mulS pe_str (pv 6)) pe_str) (pe_op op_mulS pe_str (pv 6))) pa_nil)))))
    (pss_one (ps_ret (pe_callB (cr_all rfl) (by rfl) C.zAll (by decide +kernel) (pa_cons (pe_lc (own := [("text", 3)]) (g := gName 3) (tt := tYes) (by rfl) scLaw.nd (pi_list (pv 7)) (blkOk_by (N := lawN) (sc := defScope sLaw) (by decide +kernel)) (fun _ _ _ _ _ => pg_name (i := 3) scLaw.nd rfl (Or.inl rfl)) (fun _ _ _ _ _ => pts_nil) (fun _ _ _ _ _ => (pe_call Rt hr (by rfl) mRt kRt bRt .nil pass0 (pa_cons (pv 3) pa_nil)))) pa_nil))))))))))), ?_⟩
  refine ⟨_, rfl, 63, rfl, a, _, rfl, hS, fun l0 nl0 => ?_⟩
  rw [cut63 (show (ns.map V.int).length ≤ 63 by rw [List.length_map]; exact hlen)]
  have e0 : upd H l0 (.lst (ns.map V.int)) l0 = _ := upd_same
  generalize upd H l0 (.lst (ns.map V.int)) = H0 at e0
  refine ⟨l0, _, rfl, .inl (.inl (.inl e0)), fun Lc nL => ?_⟩
  have e1 : upd H0 Lc (.lst (ns.map V.int)) Lc = _ := upd_same
  generalize upd H0 Lc (.lst (ns.map V.int)) = H1 at e1
  refine ⟨(by show 4 ≤ sizeLine; decide), fun p np => ?_⟩
  have nLp : Lc ≠ p := fun z => by
    rw [← z, e1] at np
    cases np
  have hD0 : DiceAt (upd H1 p (.lst [.ref Lc, .int 0, .int 0, .int 0])) p Lc 0 := ⟨0, 0, 0, ns, upd_same, nLp, by rw [upd_ne nLp]; exact e1, hlen, Int.le_refl _, Int.le_refl _⟩
  generalize upd H1 p (.lst [.ref Lc, .int 0, .int 0, .int 0]) = H2 at hD0
  have lsp : ∀ {X : Hp} {m : Int}, DiceAt X p Lc m → LS X [p] := fun h b hb => by
    obtain ⟨x, n, r, cs, e2, _⟩ := h
    rw [List.mem_singleton.mp hb]
    exact .inl ⟨_, e2⟩
  have pS : p ∈ [p] := List.mem_singleton.mpr rfl
  have c1 : cost 1 = 400 := by decide
  have z1 : zz 1 = 24 := by decide
  refine ⟨_, rfl, by decide, by decide, ?_⟩
  refine for_range (lo := 0) (n := 6) (fun i σ X => ∃ y2 y3 y4 y5 y6 y7 : Option V, σ = [some (.ref a), some (.ref p), y2, y3, y4, y5, y6, y7] ∧ DiceAt X p Lc (1000 * (i : Int)))
    ⟨_, _, _, _, _, _, rfl, hD0.more (by omega)⟩ ?_ ?_
  · rintro i σ X hi ⟨y2, y3, y4, y5, y6, y7, rfl, hX⟩
    have hi6 : i < 6 := hi
    refine ⟨_, rfl, p, Lc, [p], 1, _, rfl, pS, lsp hX, by decide, by omega, hX, fun v ds Y hv ht th b hY => ?_⟩
    refine ⟨v, ds, rfl, hv.dp, ht, Nat.le_trans th.deep (by decide), Nat.le_trans th.sz (by decide), fun Y1 s1 => ?_⟩
    have hY1 := hY.same s1
    have tl := txt_len _ ht
    have sz := th.sz
    rw [z1] at sz
    have ln : (txt (.tuple ds)).length ≤ 1680 := by omega
    generalize txt (.tuple ds) = z at ln
    refine ⟨_, rfl, by decide, by decide, ?_⟩
    refine for_range (lo := 0) (n := 5) (fun j σ X => ∃ y4 y5 : Option V, σ = [some (.ref a), some (.ref p), some (.int (0 + (i : Int))), some (.str z), y4, y5, y6, y7] ∧ DiceAt X p Lc (1000 * (i : Int) + 400 + 8 * (j : Int)))
      ⟨_, _, rfl, hY1.more (by omega)⟩ ?_ ?_
    · rintro j σ X2 hj ⟨y4, y5, rfl, hX2⟩
      have hj5 : j < 5 := hj
      refine ⟨_, rfl, _, rfl, p, Lc, z, _, rfl, Nat.le_trans ln (by decide), by omega, hX2, fun r X3 lr b3 h3 => ?_⟩
      apply joinS (C := fun σ X => ∃ r : Str, σ = [some (.ref a), some (.ref p), some (.int (0 + (i : Int))), some (.str z), some (.int (0 + (j : Int))), some (.str r), y6, y7] ∧ r.length ≤ 7000 ∧ DiceAt X p Lc (1000 * (i : Int) + 400 + 8 * (j : Int) + 8))
      · intro rest
        refine ⟨_, rfl, _, _, rfl, rfl, _, rfl, ?_⟩
        refine ite2 (fun _ => ?_) (fun _ => ?_)
        · refine ⟨_, rfl, _, rfl, p, Lc, r, _, rfl, by omega, by omega, h3, fun r2 X4 lr2 b4 h4 => ?_⟩
          exact rest _ X4 ⟨r2, rfl, by omega, h4.more (by omega)⟩
        · exact rest _ X3 ⟨r, rfl, by omega, h3.more (by omega)⟩
      · rintro σ X4 ⟨r, rfl, lr, h4⟩
        refine ⟨_, rfl, r, rfl, by omega, fun X5 s5 => ⟨_, rfl, iteF ?_⟩⟩
        exact ⟨_, _, rfl, (h4.same s5).more (by omega)⟩
    · rintro σ X2 ⟨y4, y5, rfl, hX2⟩
      exact ⟨_, _, _, _, _, _, rfl, hX2.more (by omega)⟩
  · rintro σ X ⟨y2, y3, y4, y5, y6, y7, rfl, hX⟩
    refine ⟨_, rfl, p, Lc, 6, _, rfl, by decide, by decide, by omega, hX, fun r Y r0 r6 bY hY => ?_⟩
    obtain ⟨n, rfl⟩ := Int.eq_ofNat_of_zero_le r0
    have n6 : n < 6 := by omega
    obtain ⟨mo1, mo2⟩ := ok_many n n6
    have em : (297 : Int) + (n : Int) = ((297 + n : Nat) : Int) := by omega
    have lm1 := mul_len "(a " (297 + n) (by omega) (by decide +kernel)
    have lm2 := mul_len ")" (297 + n) (by omega) (by decide +kernel)
    have l60 : (Txt.mul "9" (60 : Int)).length = 60 * ("9" : Str).length := mul_len "9" 60 (by decide) (by decide +kernel)
    have l61 : (Txt.mul "9" (61 : Int)).length = 61 * ("9" : Str).length := mul_len "9" 61 (by decide) (by decide +kernel)
    have l5000 : (Txt.mul "1" (5000 : Int)).length = 5000 * ("1" : Str).length := mul_len "1" 5000 (by decide) (by decide +kernel)
    have w1 : ("(a " : Str).length = 3 := by decide +kernel
    have w2 : (")" : Str).length = 1 := by decide +kernel
    have w3 : ("9" : Str).length = 1 := by decide +kernel
    have w4 : ("1" : Str).length = 1 := by decide +kernel
    have w5 : ("(b)" : Str).length = 3 := by decide +kernel
    have w6 : ("b" : Str).length = 1 := by decide +kernel
    rw [w1] at lm1
    rw [w2] at lm2
    rw [w3] at l60 l61
    rw [w4] at l5000
    have fits : ∀ n : Nat, n ≤ 300000 → n ≤ sizeLine := fun n h => Nat.le_trans h (by decide)
    refine ⟨_, _, rfl, rfl, ?_⟩
    rw [← em] at mo1 mo2 lm1 lm2
    have S0 : Short [V.str ("" : Str), V.str ("a" : Str), V.str ("(" : Str), V.str ("()" : Str), V.str ("( a)" : Str), V.str ("(a" : Str), V.str ("(a " : Str), V.str ("(a)" : Str), V.str ("(a) " : Str), V.str ("(a))" : Str), V.str ("(a 01)" : Str), V.str ("(a 00)" : Str), V.str ("(a -1)" : Str), V.str ("7" : Str), V.str ("(7)" : Str)] := short_of (by decide +kernel)
    refine ⟨(by show 15 ≤ sizeLine; decide), fun q0 n0 => ?_⟩
    have e0 : upd Y q0 (.lst [V.str ("" : Str), V.str ("a" : Str), V.str ("(" : Str), V.str ("()" : Str), V.str ("( a)" : Str), V.str ("(a" : Str), V.str ("(a " : Str), V.str ("(a)" : Str), V.str ("(a) " : Str), V.str ("(a))" : Str), V.str ("(a 01)" : Str), V.str ("(a 00)" : Str), V.str ("(a -1)" : Str), V.str ("7" : Str), V.str ("(7)" : Str)]) q0 = _ := upd_same
    generalize hx0 : ([V.str ("" : Str), V.str ("a" : Str), V.str ("(" : Str), V.str ("()" : Str), V.str ("( a)" : Str), V.str ("(a" : Str), V.str ("(a " : Str), V.str ("(a)" : Str), V.str ("(a) " : Str), V.str ("(a))" : Str), V.str ("(a 01)" : Str), V.str ("(a 00)" : Str), V.str ("(a -1)" : Str), V.str ("7" : Str), V.str ("(7)" : Str)] : List V) = x0 at S0 e0 ⊢
    have k0 : x0.length = 15 := by rw [← hx0]; rfl
    generalize upd Y q0 (.lst x0) = Y0 at e0 ⊢
    have S1 : Short [V.str ("(a  b)" : Str), V.str ("(a b )" : Str), V.str ("(a(b))" : Str), V.str ((("(a " : Str) ++ (Txt.mul ("9" : Str) 60)) ++ (")" : Str)), V.str ((("(a " : Str) ++ (Txt.mul ("9" : Str) 61)) ++ (")" : Str)), V.str ("(A)" : Str)] := by
      refine .cons ?_ (.cons ?_ (.cons ?_ (.cons ?_ (.cons ?_ (.cons ?_ (.nil))))))
      · decide +kernel
      · decide +kernel
      · decide +kernel
      · simp only [add_len, lm1, lm2, l60, l61, l5000, w1, w2, w3, w4, w5, w6]
        omega
      · simp only [add_len, lm1, lm2, l60, l61, l5000, w1, w2, w3, w4, w5, w6]
        omega
      · decide +kernel
    refine ⟨_, rfl, _, _, rfl, rfl, ok_60, _, _, rfl, rfl, (fits _ (by simp only [add_len, lm1, lm2, l60, l61, l5000, w1, w2, w3, w4, w5, w6]; omega)), _, _, rfl, rfl, (fits _ (by simp only [add_len, lm1, lm2, l60, l61, l5000, w1, w2, w3, w4, w5, w6]; omega)), _, _, rfl, rfl, ok_61, _, _, rfl, rfl, (fits _ (by simp only [add_len, lm1, lm2, l60, l61, l5000, w1, w2, w3, w4, w5, w6]; omega)), _, _, rfl, rfl, (fits _ (by simp only [add_len, lm1, lm2, l60, l61, l5000, w1, w2, w3, w4, w5, w6]; omega)), (by show 6 ≤ sizeLine; decide), fun r1 m1 => ?_⟩
    have f1 : upd Y0 r1 (.lst [V.str ("(a  b)" : Str), V.str ("(a b )" : Str), V.str ("(a(b))" : Str), V.str ((("(a " : Str) ++ (Txt.mul ("9" : Str) 60)) ++ (")" : Str)), V.str ((("(a " : Str) ++ (Txt.mul ("9" : Str) 61)) ++ (")" : Str)), V.str ("(A)" : Str)]) r1 = _ := upd_same
    have g1 := same_new (o := .lst [V.str ("(a  b)" : Str), V.str ("(a b )" : Str), V.str ("(a(b))" : Str), V.str ((("(a " : Str) ++ (Txt.mul ("9" : Str) 60)) ++ (")" : Str)), V.str ((("(a " : Str) ++ (Txt.mul ("9" : Str) 61)) ++ (")" : Str)), V.str ("(A)" : Str)]) m1 _ _ e0
    generalize hx1 : ([V.str ("(a  b)" : Str), V.str ("(a b )" : Str), V.str ("(a(b))" : Str), V.str ((("(a " : Str) ++ (Txt.mul ("9" : Str) 60)) ++ (")" : Str)), V.str ((("(a " : Str) ++ (Txt.mul ("9" : Str) 61)) ++ (")" : Str)), V.str ("(A)" : Str)] : List V) = x1 at S1 f1 g1 ⊢
    have k1 : x1.length = 6 := by rw [← hx1]; rfl
    generalize upd Y0 r1 (.lst x1) = Z1 at f1 g1 ⊢
    refine ⟨q0, r1, x0, x1, rfl, rfl, g1, f1, fits _ (by omega), fun q1 n1 => ?_⟩
    have e1 : upd Z1 q1 (.lst (x0 ++ x1)) q1 = _ := upd_same
    have T1 := Short.app S0 S1
    have l1 : (x0 ++ x1).length = 21 := by rw [List.length_append]; omega
    generalize (x0 ++ x1) = y1 at e1 T1 l1 ⊢
    generalize upd Z1 q1 (.lst y1) = Y1 at e1 ⊢
    have S2 : Short [V.str ("(abcdefgh abcdefgh)" : Str), V.str ("(abcdefghi)" : Str), V.str ("(a abcdefghi)" : Str), V.str ((("(a " : Str) ++ (Txt.mul ("1" : Str) 5000)) ++ (")" : Str))] := by
      refine .cons ?_ (.cons ?_ (.cons ?_ (.cons ?_ (.nil))))
      · decide +kernel
      · decide +kernel
      · decide +kernel
      · simp only [add_len, lm1, lm2, l60, l61, l5000, w1, w2, w3, w4, w5, w6]
        omega
    refine ⟨_, rfl, _, _, rfl, rfl, ok_5000, _, _, rfl, rfl, (fits _ (by simp only [add_len, lm1, lm2, l60, l61, l5000, w1, w2, w3, w4, w5, w6]; omega)), _, _, rfl, rfl, (fits _ (by simp only [add_len, lm1, lm2, l60, l61, l5000, w1, w2, w3, w4, w5, w6]; omega)), (by show 4 ≤ sizeLine; decide), fun r2 m2 => ?_⟩
    have f2 : upd Y1 r2 (.lst [V.str ("(abcdefgh abcdefgh)" : Str), V.str ("(abcdefghi)" : Str), V.str ("(a abcdefghi)" : Str), V.str ((("(a " : Str) ++ (Txt.mul ("1" : Str) 5000)) ++ (")" : Str))]) r2 = _ := upd_same
    have g2 := same_new (o := .lst [V.str ("(abcdefgh abcdefgh)" : Str), V.str ("(abcdefghi)" : Str), V.str ("(a abcdefghi)" : Str), V.str ((("(a " : Str) ++ (Txt.mul ("1" : Str) 5000)) ++ (")" : Str))]) m2 _ _ e1
    generalize hx2 : ([V.str ("(abcdefgh abcdefgh)" : Str), V.str ("(abcdefghi)" : Str), V.str ("(a abcdefghi)" : Str), V.str ((("(a " : Str) ++ (Txt.mul ("1" : Str) 5000)) ++ (")" : Str))] : List V) = x2 at S2 f2 g2 ⊢
    have k2 : x2.length = 4 := by rw [← hx2]; rfl
    generalize upd Y1 r2 (.lst x2) = Z2 at f2 g2 ⊢
    refine ⟨q1, r2, y1, x2, rfl, rfl, g2, f2, fits _ (by omega), fun q2 n2 => ?_⟩
    have e2 : upd Z2 q2 (.lst (y1 ++ x2)) q2 = _ := upd_same
    have T2 := Short.app T1 S2
    have l2 : (y1 ++ x2).length = 25 := by rw [List.length_append]; omega
    generalize (y1 ++ x2) = y2 at e2 T2 l2 ⊢
    generalize upd Z2 q2 (.lst y2) = Y2 at e2 ⊢
    have S3 : Short [V.str ((Txt.mul ("(a " : Str) (297 + (n : Int))) ++ ("(b)" : Str)), V.str (((Txt.mul ("(a " : Str) (297 + (n : Int))) ++ ("b" : Str)) ++ (Txt.mul (")" : Str) (297 + (n : Int))))] := by
      refine .cons ?_ (.cons ?_ (.nil))
      · simp only [add_len, lm1, lm2, l60, l61, l5000, w1, w2, w3, w4, w5, w6]
        omega
      · simp only [add_len, lm1, lm2, l60, l61, l5000, w1, w2, w3, w4, w5, w6]
        omega
    refine ⟨_, rfl, _, rfl, _, _, rfl, rfl, mo1, _, _, rfl, rfl, (fits _ (by simp only [add_len, lm1, lm2, l60, l61, l5000, w1, w2, w3, w4, w5, w6]; omega)), _, rfl, _, _, rfl, rfl, mo1, _, _, rfl, rfl, (fits _ (by simp only [add_len, lm1, lm2, l60, l61, l5000, w1, w2, w3, w4, w5, w6]; omega)), _, rfl, _, _, rfl, rfl, mo2, _, _, rfl, rfl, (fits _ (by simp only [add_len, lm1, lm2, l60, l61, l5000, w1, w2, w3, w4, w5, w6]; omega)), (by show 2 ≤ sizeLine; decide), fun r3 m3 => ?_⟩
    have f3 : upd Y2 r3 (.lst [V.str ((Txt.mul ("(a " : Str) (297 + (n : Int))) ++ ("(b)" : Str)), V.str (((Txt.mul ("(a " : Str) (297 + (n : Int))) ++ ("b" : Str)) ++ (Txt.mul (")" : Str) (297 + (n : Int))))]) r3 = _ := upd_same
    have g3 := same_new (o := .lst [V.str ((Txt.mul ("(a " : Str) (297 + (n : Int))) ++ ("(b)" : Str)), V.str (((Txt.mul ("(a " : Str) (297 + (n : Int))) ++ ("b" : Str)) ++ (Txt.mul (")" : Str) (297 + (n : Int))))]) m3 _ _ e2
    generalize hx3 : ([V.str ((Txt.mul ("(a " : Str) (297 + (n : Int))) ++ ("(b)" : Str)), V.str (((Txt.mul ("(a " : Str) (297 + (n : Int))) ++ ("b" : Str)) ++ (Txt.mul (")" : Str) (297 + (n : Int))))] : List V) = x3 at S3 f3 g3 ⊢
    have k3 : x3.length = 2 := by rw [← hx3]; rfl
    generalize upd Y2 r3 (.lst x3) = Z3 at f3 g3 ⊢
    refine ⟨q2, r3, y2, x3, rfl, rfl, g3, f3, fits _ (by omega), fun q3 n3 => ?_⟩
    have e3 : upd Z3 q3 (.lst (y2 ++ x3)) q3 = _ := upd_same
    have T3 := Short.app T2 S3
    have l3 : (y2 ++ x3).length = 27 := by rw [List.length_append]; omega
    generalize (y2 ++ x3) = y3 at e3 T3 l3 ⊢
    generalize upd Z3 q3 (.lst y3) = Y3 at e3 ⊢
    refine ⟨_, rfl, q3, rfl, ⟨_, .inl (.inl e3)⟩, fun D nD => ?_⟩
    refine lc_list (K := K) (a := q3) (xs := y3) (fun i H' => H' D = some (.lst ((List.replicate i true).map V.bl)) ∧ Same Y3 H') ⟨upd_same, same_new nD⟩ (fun i H' _ ⟨_, sm⟩ => .inl (.inl (sm _ _ e3))) ?_ ?_
    · rintro i x Z hx ⟨eD, sm⟩
      obtain ⟨z, rfl, lz⟩ := T3 x (List.mem_of_getElem? hx)
      have hi := (List.getElem?_eq_some_iff.mp hx).1
      refine ⟨rfl, _, rfl, z, rfl, lz, fun Z2 s2 => ⟨_, s2 _ _ eD, ?_, ?_, fun b o h => ?_⟩⟩
      · rw [List.length_map, List.length_replicate]
        exact Nat.lt_of_le_of_lt (show i ≤ 100 by omega) (by decide)
      · rw [upd_same, List.replicate_succ', List.map_append]
        rfl
      · rw [upd_ne (ne_of_none h nD)]
        exact s2 _ _ (sm _ _ h)
    · rintro Z ⟨eD, sm⟩
      refine ⟨D, _, rfl, .inl (.inl eD), ?_⟩
      have all_ : ∀ m : Nat, (List.replicate m true).all id = true := fun m => by simp
      rw [all_]
      exact q Z
end
end Kf
set_option Elab.async false
set_option linter.all false
set_option maxRecDepth 100000
/-! The top, the end. -/
namespace Kf
open PySem PySem.Spec PyProof.Rows L2 Sx Xk _root_.Gd
theorem all_mk {l : PySem.W.OpenLaw} {w : World} {K : PySem.W.Frag} {h : Heap} {mg : Str → Option Value} {fa f1 f2 f3 f4 f5 f6 f7 f8 f9 f10 f11 f12 : Addr} (X : K.In h) (G : h.Ns mainGlobals mg) (hfa : mg "law" = some (.ref fa))
    {od1 an1 od2 an2 od3 an3 od4 an4 od5 an5 od6 an6 od7 an7 od8 an8 od9 an9 od10 an10 od11 an11 od12 an12 : Option Addr} {sl1 sl2 sl3 sl4 sl5 sl6 sl7 sl8 sl9 sl10 sl11 sl12 : Array (Option Value)} {oc1 kV1 dc1 pm1 cd1 ct1 oc2 kV2 dc2 pm2 cd2 ct2 oc3 kV3 dc3 pm3 cd3 ct3 oc4 kV4 dc4 pm4 cd4 ct4 oc5 kV5 dc5 pm5 cd5 ct5 oc6 kV6 dc6 pm6 cd6 ct6 oc7 kV7 dc7 pm7 cd7 ct7 oc8 kV8 dc8 pm8 cd8 ct8 oc9 kV9 dc9 pm9 cd9 ct9 oc10 kV10 dc10 pm10 cd10 ct10 oc11 kV11 dc11 pm11 cd11 ct11 oc12 kV12 dc12 pm12 cd12 ct12 : Value}
    (a1 : PySem.W.nsIn K mainGlobals "goes_on" = some (some (.ref f1))) (l1 : K.lookup f1 = some ⟨oc1, od1, .func (PySem.W.fnOf "goes_on" "goes_on" (defArgs sGoes) (defBody sGoes) (defScope sGoes) .none kV1 dc1 pm1 an1 cd1 ct1), sl1⟩) (c1 : PySem.W.codeIn K cd1 "goes_on" = true) (k1 : PySem.W.keepIn K (.ref f1) = true)
    (a2 : PySem.W.nsIn K mainGlobals "read" = some (some (.ref f2))) (l2 : K.lookup f2 = some ⟨oc2, od2, .func (PySem.W.fnOf "read" "read" (defArgs sRead) (defBody sRead) (defScope sRead) .none kV2 dc2 pm2 an2 cd2 ct2), sl2⟩) (c2 : PySem.W.codeIn K cd2 "read" = true) (k2 : PySem.W.keepIn K (.ref f2) = true)
    (a3 : PySem.W.nsIn K mainGlobals "_law_roll" = some (some (.ref f3))) (l3 : K.lookup f3 = some ⟨oc3, od3, .func (PySem.W.fnOf "_law_roll" "_law_roll" (defArgs sRoll) (defBody sRoll) (defScope sRoll) .none kV3 dc3 pm3 an3 cd3 ct3), sl3⟩) (c3 : PySem.W.codeIn K cd3 "_law_roll" = true) (k3 : PySem.W.keepIn K (.ref f3) = true)
    (a4 : PySem.W.nsIn K mainGlobals "_law_pick" = some (some (.ref f4))) (l4 : K.lookup f4 = some ⟨oc4, od4, .func (PySem.W.fnOf "_law_pick" "_law_pick" (defArgs sPick) (defBody sPick) (defScope sPick) .none kV4 dc4 pm4 an4 cd4 ct4), sl4⟩) (c4 : PySem.W.codeIn K cd4 "_law_pick" = true) (k4 : PySem.W.keepIn K (.ref f4) = true)
    (a5 : PySem.W.nsIn K mainGlobals "_law_word" = some (some (.ref f5))) (l5 : K.lookup f5 = some ⟨oc5, od5, .func (PySem.W.fnOf "_law_word" "_law_word" (defArgs sWord) (defBody sWord) (defScope sWord) .none kV5 dc5 pm5 an5 cd5 ct5), sl5⟩) (c5 : PySem.W.codeIn K cd5 "_law_word" = true) (k5 : PySem.W.keepIn K (.ref f5) = true)
    (a6 : PySem.W.nsIn K mainGlobals "_law_tree" = some (some (.ref f6))) (l6 : K.lookup f6 = some ⟨oc6, od6, .func (PySem.W.fnOf "_law_tree" "_law_tree" (defArgs sTree) (defBody sTree) (defScope sTree) .none kV6 dc6 pm6 an6 cd6 ct6), sl6⟩) (c6 : PySem.W.codeIn K cd6 "_law_tree" = true) (k6 : PySem.W.keepIn K (.ref f6) = true)
    (a7 : PySem.W.nsIn K mainGlobals "_law_text" = some (some (.ref f7))) (l7 : K.lookup f7 = some ⟨oc7, od7, .func (PySem.W.fnOf "_law_text" "_law_text" (defArgs sText) (defBody sText) (defScope sText) .none kV7 dc7 pm7 an7 cd7 ct7), sl7⟩) (c7 : PySem.W.codeIn K cd7 "_law_text" = true) (k7 : PySem.W.keepIn K (.ref f7) = true)
    (a8 : PySem.W.nsIn K mainGlobals "_law_next" = some (some (.ref f8))) (l8 : K.lookup f8 = some ⟨oc8, od8, .func (PySem.W.fnOf "_law_next" "_law_next" (defArgs sNext) (defBody sNext) (defScope sNext) .none kV8 dc8 pm8 an8 cd8 ct8), sl8⟩) (c8 : PySem.W.codeIn K cd8 "_law_next" = true) (k8 : PySem.W.keepIn K (.ref f8) = true)
    (a9 : PySem.W.nsIn K mainGlobals "_law_wrong" = some (some (.ref f9))) (l9 : K.lookup f9 = some ⟨oc9, od9, .func (PySem.W.fnOf "_law_wrong" "_law_wrong" (defArgs sWrong) (defBody sWrong) (defScope sWrong) .none kV9 dc9 pm9 an9 cd9 ct9), sl9⟩) (c9 : PySem.W.codeIn K cd9 "_law_wrong" = true) (k9 : PySem.W.keepIn K (.ref f9) = true)
    (a10 : PySem.W.nsIn K mainGlobals "_law_bent" = some (some (.ref f10))) (l10 : K.lookup f10 = some ⟨oc10, od10, .func (PySem.W.fnOf "_law_bent" "_law_bent" (defArgs sBent) (defBody sBent) (defScope sBent) .none kV10 dc10 pm10 an10 cd10 ct10), sl10⟩) (c10 : PySem.W.codeIn K cd10 "_law_bent" = true) (k10 : PySem.W.keepIn K (.ref f10) = true)
    (a11 : PySem.W.nsIn K mainGlobals "_law_right" = some (some (.ref f11))) (l11 : K.lookup f11 = some ⟨oc11, od11, .func (PySem.W.fnOf "_law_right" "_law_right" (defArgs sRight) (defBody sRight) (defScope sRight) .none kV11 dc11 pm11 an11 cd11 ct11), sl11⟩) (c11 : PySem.W.codeIn K cd11 "_law_right" = true) (k11 : PySem.W.keepIn K (.ref f11) = true)
    (a12 : PySem.W.nsIn K mainGlobals "law" = some (some (.ref f12))) (l12 : K.lookup f12 = some ⟨oc12, od12, .func (PySem.W.fnOf "law" "law" (defArgs sLaw) (defBody sLaw) (defScope sLaw) .none kV12 dc12 pm12 an12 cd12 ct12), sl12⟩) (c12 : PySem.W.codeIn K cd12 "law" = true) (k12 : PySem.W.keepIn K (.ref f12) = true)
    (zlen : PySem.W.nsIn K mainGlobals "len" = some none)
    (zrange : PySem.W.nsIn K mainGlobals "range" = some none)
    (ztuple : PySem.W.nsIn K mainGlobals "tuple" = some none)
    (zisinstance : PySem.W.nsIn K mainGlobals "isinstance" = some none)
    (zstr : PySem.W.nsIn K mainGlobals "str" = some none)
    (zint : PySem.W.nsIn K mainGlobals "int" = some none)
    (zenumerate : PySem.W.nsIn K mainGlobals "enumerate" = some none)
    (zrepr : PySem.W.nsIn K mainGlobals "repr" = some none)
    (zlist : PySem.W.nsIn K mainGlobals "list" = some none)
    (zall : PySem.W.nsIn K mainGlobals "all" = some none)
    (zmin : PySem.W.nsIn K mainGlobals "min" = some none)
    (zmax : PySem.W.nsIn K mainGlobals "max" = some none)
    (zValueError : PySem.W.nsIn K mainGlobals "ValueError" = some none)
    {CR : Addr} {g1 g2 g3 g4 g5 g6 g7 : Addr} {mo1 mn1 mo2 mn2 mo3 mn3 mo4 mn4 mo5 mn5 mo6 mn6 mo7 mn7 : Option Addr} {ms1 ms2 ms3 ms4 ms5 ms6 ms7 : Array (Option Value)} {mc1 mk1 md1 mp1 me1 mt1 mc2 mk2 md2 mp2 me2 mt2 mc3 mk3 md3 mp3 me3 mt3 mc4 mk4 md4 mp4 me4 mt4 mc5 mk5 md5 mp5 me5 mt5 mc6 mk6 md6 mp6 me6 mt6 mc7 mk7 md7 mp7 me7 mt7 : Value} {t1 t2 t3 t4 t5 : Tok} (aCR : PySem.W.nsIn K mainGlobals "Reader" = some (some (.ref CR)))
    (fa1 : PySem.W.findIn K (.ref CR) "__init__" = some (some (.ref g1))) (fi1 : PySem.W.isFn K (.ref g1) = true) (fl1 : K.lookup g1 = some ⟨mc1, mo1, .func (PySem.W.fnOf "__init__" "Reader.__init__" (defArgs sInit) (defBody sInit) (defScope sInit) .none mk1 md1 mp1 mn1 me1 mt1), ms1⟩) (fc1 : PySem.W.codeIn K me1 "Reader.__init__" = true) (fk1 : PySem.W.keepIn K (.ref g1) = true)
    (fa2 : PySem.W.findIn K (.ref CR) "can_open" = some (some (.ref g2))) (fi2 : PySem.W.isFn K (.ref g2) = true) (fl2 : K.lookup g2 = some ⟨mc2, mo2, .func (PySem.W.fnOf "can_open" "Reader.can_open" (defArgs sCanOpen) (defBody sCanOpen) (defScope sCanOpen) .none mk2 md2 mp2 mn2 me2 mt2), ms2⟩) (fc2 : PySem.W.codeIn K me2 "Reader.can_open" = true) (fk2 : PySem.W.keepIn K (.ref g2) = true)
    (fa3 : PySem.W.findIn K (.ref CR) "can_begin" = some (some (.ref g3))) (fi3 : PySem.W.isFn K (.ref g3) = true) (fl3 : K.lookup g3 = some ⟨mc3, mo3, .func (PySem.W.fnOf "can_begin" "Reader.can_begin" (defArgs sCanBegin) (defBody sCanBegin) (defScope sCanBegin) .none mk3 md3 mp3 mn3 me3 mt3), ms3⟩) (fc3 : PySem.W.codeIn K me3 "Reader.can_begin" = true) (fk3 : PySem.W.keepIn K (.ref g3) = true)
    (fa4 : PySem.W.findIn K (.ref CR) "can_part" = some (some (.ref g4))) (fi4 : PySem.W.isFn K (.ref g4) = true) (fl4 : K.lookup g4 = some ⟨mc4, mo4, .func (PySem.W.fnOf "can_part" "Reader.can_part" (defArgs sCanPart) (defBody sCanPart) (defScope sCanPart) .none mk4 md4 mp4 mn4 me4 mt4), ms4⟩) (fc4 : PySem.W.codeIn K me4 "Reader.can_part" = true) (fk4 : PySem.W.keepIn K (.ref g4) = true)
    (fa5 : PySem.W.findIn K (.ref CR) "end_begun" = some (some (.ref g5))) (fi5 : PySem.W.isFn K (.ref g5) = true) (fl5 : K.lookup g5 = some ⟨mc5, mo5, .func (PySem.W.fnOf "end_begun" "Reader.end_begun" (defArgs sEndBegun) (defBody sEndBegun) (defScope sEndBegun) .none mk5 md5 mp5 mn5 me5 mt5), ms5⟩) (fc5 : PySem.W.codeIn K me5 "Reader.end_begun" = true) (fk5 : PySem.W.keepIn K (.ref g5) = true)
    (fa6 : PySem.W.findIn K (.ref CR) "close" = some (some (.ref g6))) (fi6 : PySem.W.isFn K (.ref g6) = true) (fl6 : K.lookup g6 = some ⟨mc6, mo6, .func (PySem.W.fnOf "close" "Reader.close" (defArgs sClose) (defBody sClose) (defScope sClose) .none mk6 md6 mp6 mn6 me6 mt6), ms6⟩) (fc6 : PySem.W.codeIn K me6 "Reader.close" = true) (fk6 : PySem.W.keepIn K (.ref g6) = true)
    (fa7 : PySem.W.findIn K (.ref CR) "take" = some (some (.ref g7))) (fi7 : PySem.W.isFn K (.ref g7) = true) (fl7 : K.lookup g7 = some ⟨mc7, mo7, .func (PySem.W.fnOf "take" "Reader.take" (defArgs sTake) (defBody sTake) (defScope sTake) .none mk7 md7 mp7 mn7 me7 mt7), ms7⟩) (fc7 : PySem.W.codeIn K me7 "Reader.take" = true) (fk7 : PySem.W.keepIn K (.ref g7) = true)
    (pg : PySem.W.plainGet K CR Str.empty = true) (hd : PySem.W.hasDictIn K CR = true) (po : PySem.W.plainOver K CR = true) (sa : PySem.W.findIn K (.ref CR) "__setattr__" = some (some (.builtin "object.__setattr__"))) (mk : PySem.W.makesIn K CR = true) (kc : PySem.W.keepIn K (.ref CR) = true)
    (nT : PySem.W.findIn K (.ref CR) "trees" = some none) (nB : PySem.W.findIn K (.ref CR) "begun" = some none) (nL : PySem.W.findIn K (.ref CR) "last" = some none) (nW : PySem.W.findIn K (.ref CR) "whole" = some none)
    (aFi : PySem.W.nsIn K mainGlobals "FIGURES" = some (some (.str figs t1))) (aLe : PySem.W.nsIn K mainGlobals "LETTERS" = some (some (.str abc t2))) (aMF : PySem.W.nsIn K mainGlobals "MOST_FIGURES" = some (some (.int 60 t3))) (aML : PySem.W.nsIn K mainGlobals "MOST_LETTERS" = some (some (.int 8 t4))) (aMO : PySem.W.nsIn K mainGlobals "MOST_OPEN" = some (some (.int 300 t5)))
    {GE NX NG NR : Addr} (aGE : PySem.W.nsIn K mainGlobals "GroundError" = some (some (.ref GE))) (aNX : PySem.W.nsIn K mainGlobals "NoText" = some (some (.ref NX))) (aNG : PySem.W.nsIn K mainGlobals "NoGround" = some (some (.ref NG))) (aNR : PySem.W.nsIn K mainGlobals "NoRow" = some (some (.ref NR))) (uNX : PySem.W.exmOne K (.ref NX) (.ref GE) = some true)
    (n1 : PySem.W.findIn K (.ref NX) "__getattribute__" = some (some (.builtin "BaseException.__getattribute__"))) (n2 : PySem.W.findIn K (.ref NX) "__getattr__" = some none) (n3 : PySem.W.hasDictIn K NX = true) (n4 : PySem.W.findIn K (.ref NX) "__class__" = some (some (.builtin "object.__class__"))) (n7 : PySem.W.mroIn K NX (.type "object") = some true) (q5 : PySem.W.specialIn K (.builtin "object.__class__") "__get__" = some (some (.builtin "getset_descriptor.__get__"))) (q6 : PySem.W.takesIn K (.builtin "object.__class__") = some true)
    (i2 : PySem.W.kitAny K (.ref NX) [.ref NG, .ref NR] = some false) (i4 : PySem.W.kitOne K (.ref NX) (.type "ValueError") = some true) (i8 : PySem.W.kitOne K (.ref NX) (.ref NX) = some true)
    (sNX : PySem.W.subIn K (.ref NX) (.type "BaseException") = some true)
    {fI : Addr} {odI anI : Option Addr} {slI : Array (Option Value)} {ocI kVI dcI pmI cdI ctI : Value} (hNX : OexC K NX) (nNX : PySem.W.findIn K (.ref NX) "at" = some none) (iNX : PySem.W.findIn K (.ref NX) "__init__" = some (some (.ref fI))) (tI : PySem.W.typeIn K (.ref fI) = some (.type "function"))
    (lI : K.lookup fI = some ⟨ocI, odI, .func (PySem.W.fnOf "__init__" "NoText.__init__" (defArgs sIni) (defBody sIni) (defScope sIni) .none kVI dcI pmI anI cdI ctI), slI⟩) (cI : PySem.W.codeIn K cdI "NoText.__init__" = true) (kI : PySem.W.keepIn K (.ref fI) = true) :
    LawG l w K 152 63 "script" mg fa h := by
  have e := hfa.symm.trans (PySem.W.mg_of X G a12)
  cases e
  have F1 := fun_mk (st := sGoes) l1 c1 k1
  have b1 := F1.binds (ps := ["begun", "sign"]) fun _ _ _ _ _ _ us hl => match us, hl with | [_, _], _ => rfl
  have m1 := PySem.W.mg_of X G a1
  have F2 := fun_mk (st := sRead) l2 c2 k2
  have b2 := F2.binds (ps := ["text"]) fun _ _ _ _ _ _ us hl => match us, hl with | [_], _ => rfl
  have m2 := PySem.W.mg_of X G a2
  have F3 := fun_mk (st := sRoll) l3 c3 k3
  have b3 := F3.binds (ps := ["dice", "size"]) fun _ _ _ _ _ _ us hl => match us, hl with | [_, _], _ => rfl
  have m3 := PySem.W.mg_of X G a3
  have F4 := fun_mk (st := sPick) l4 c4 k4
  have b4 := F4.binds (ps := ["dice", "some"]) fun _ _ _ _ _ _ us hl => match us, hl with | [_, _], _ => rfl
  have m4 := PySem.W.mg_of X G a4
  have F5 := fun_mk (st := sWord) l5 c5 k5
  have b5 := F5.binds (ps := ["dice"]) fun _ _ _ _ _ _ us hl => match us, hl with | [_], _ => rfl
  have m5 := PySem.W.mg_of X G a5
  have F6 := fun_mk (st := sTree) l6 c6 k6
  have b6 := F6.binds (ps := ["dice", "deep"]) fun _ _ _ _ _ _ us hl => match us, hl with | [_, _], _ => rfl
  have m6 := PySem.W.mg_of X G a6
  have F7 := fun_mk (st := sText) l7 c7 k7
  have b7 := F7.binds (ps := ["tree"]) fun _ _ _ _ _ _ us hl => match us, hl with | [_], _ => rfl
  have m7 := PySem.W.mg_of X G a7
  have F8 := fun_mk (st := sNext) l8 c8 k8
  have b8 := F8.binds (ps := ["state", "sign"]) fun _ _ _ _ _ _ us hl => match us, hl with | [_, _], _ => rfl
  have m8 := PySem.W.mg_of X G a8
  have F9 := fun_mk (st := sWrong) l9 c9 k9
  have b9 := F9.binds (ps := ["text"]) fun _ _ _ _ _ _ us hl => match us, hl with | [_], _ => rfl
  have m9 := PySem.W.mg_of X G a9
  have F10 := fun_mk (st := sBent) l10 c10 k10
  have b10 := F10.binds (ps := ["dice", "text"]) fun _ _ _ _ _ _ us hl => match us, hl with | [_, _], _ => rfl
  have m10 := PySem.W.mg_of X G a10
  have F11 := fun_mk (st := sRight) l11 c11 k11
  have b11 := F11.binds (ps := ["text"]) fun _ _ _ _ _ _ us hl => match us, hl with | [_], _ => rfl
  have m11 := PySem.W.mg_of X G a11
  have F12 := fun_mk (st := sLaw) l12 c12 k12
  have m12 := PySem.W.mg_of X G a12
  have glen := PySem.W.mg_none_of X G zlen
  have grange := PySem.W.mg_none_of X G zrange
  have gtuple := PySem.W.mg_none_of X G ztuple
  have gisinstance := PySem.W.mg_none_of X G zisinstance
  have gstr := PySem.W.mg_none_of X G zstr
  have gint := PySem.W.mg_none_of X G zint
  have genumerate := PySem.W.mg_none_of X G zenumerate
  have grepr := PySem.W.mg_none_of X G zrepr
  have glist := PySem.W.mg_none_of X G zlist
  have gall := PySem.W.mg_none_of X G zall
  have gmin := PySem.W.mg_none_of X G zmin
  have gmax := PySem.W.mg_none_of X G zmax
  have gValueError := PySem.W.mg_none_of X G zValueError
  refine ⟨PySem.W.fnOf "law" "law" (defArgs sLaw) (defBody sLaw) (defScope sLaw) .none kV12 dc12 pm12 an12 cd12 ct12, [], spLaw K, fun p hp => (List.not_mem_nil hp).elim, fun p hp => (List.not_mem_nil hp).elim, fun p hp => (List.not_mem_nil hp).elim, fun s v => .of_eq rfl,
    fun H a ns hl hb _ hS => ⟨a, ns, rfl, hS, hl, hb, fun _ => rfl⟩, fun base _ _ _ => ?_⟩
  have G1 := fun_mk (st := sInit) fl1 fc1 fk1
  have mb1 := G1.binds (ps := ["self"]) fun _ _ _ _ _ _ us hl => match us, hl with | [_], _ => rfl
  have G2 := fun_mk (st := sCanOpen) fl2 fc2 fk2
  have mb2 := G2.binds (ps := ["self"]) fun _ _ _ _ _ _ us hl => match us, hl with | [_], _ => rfl
  have G3 := fun_mk (st := sCanBegin) fl3 fc3 fk3
  have mb3 := G3.binds (ps := ["self", "sign"]) fun _ _ _ _ _ _ us hl => match us, hl with | [_, _], _ => rfl
  have G4 := fun_mk (st := sCanPart) fl4 fc4 fk4
  have mb4 := G4.binds (ps := ["self"]) fun _ _ _ _ _ _ us hl => match us, hl with | [_], _ => rfl
  have G5 := fun_mk (st := sEndBegun) fl5 fc5 fk5
  have mb5 := G5.binds (ps := ["self"]) fun _ _ _ _ _ _ us hl => match us, hl with | [_], _ => rfl
  have G6 := fun_mk (st := sClose) fl6 fc6 fk6
  have mb6 := G6.binds (ps := ["self"]) fun _ _ _ _ _ _ us hl => match us, hl with | [_], _ => rfl
  have G7 := fun_mk (st := sTake) fl7 fc7 fk7
  have mb7 := G7.binds (ps := ["self", "sign"]) fun _ _ _ _ _ _ us hl => match us, hl with | [_, _], _ => rfl
  have T : TR K mg CR t1 t2 t3 t4 t5 := ⟨⟨pg, hd, po, sa⟩, nT, nB, nL, nW, PySem.W.mg_of X G aCR, PySem.W.mg_of X G aFi, PySem.W.mg_of X G aLe, PySem.W.mg_of X G aMF, PySem.W.mg_of X G aML, PySem.W.mg_of X G aMO, glen, gint, gtuple, genumerate⟩
  have gRoll := ok_roll (P := l.prog) (w := w) (base := base) (mg := mg) (j := 0) F3 glen
  have D : Draw l.prog w K mg base f3 f4 _ _ := ⟨gRoll, b3, k3, m3, ok_pick F4 gRoll b3 k3 m3 glen, ok_pickS F4 gRoll b3 k3 m3 glen, b4, k4, m4⟩
  have gWord := ok_lword F5 D grange
  have gTree := ok_trees F6 D gWord b5 k5 m5 grange gtuple b6 m6
  have gText := ok_texts (P := l.prog) (w := w) (base := base) (mg := mg) F7 gisinstance gtuple gstr b7 k7 m7
  have MM : MR l.prog w K mg base CR f1 g2 g3 g4 g5 _ _ _ _ _ := ⟨ok_goes F1 T, b1, k1, m1, ok_can_open G2 T, mb2, ⟨fa2, fi2, fk2⟩, ok_can_begin G3 T, mb3, ⟨fa3, fi3, fk3⟩, ok_can_part G4 T, mb4, ⟨fa4, fi4, fk4⟩, ok_end_begun G5 T, mb5, ⟨fa5, fi5, fk5⟩⟩
  have gClose := ok_close G6 T MM
  have gTake := ok_take G7 T MM gClose mb6 ⟨fa6, fi6, fk6⟩
  have N : NoTx K mg NX fI _ := ⟨hNX, PySem.W.mg_of X G aNX, nNX, iNX, tI, fun_mk (st := sIni) lI cI kI, (fun_mk (st := sIni) lI cI kI).binds (ps := ["self", "at"]) fun _ _ _ _ _ _ us hl => match us, hl with | [_, _], _ => rfl⟩
  have gRead := ok_readX F2 T N ⟨mk, fa1, fi1, kc⟩ (ok_init G1 T) mb1 gTake mb7 ⟨fa7, fi7, fk7⟩
  have gNext := ok_next (P := l.prog) (w := w) (base := base) (mg := mg) F8
  have gWrong := ok_wrong F9 gNext b8 k8 m8 genumerate glen
  have gBent := ok_bent F10 D glen gmin gmax
  have M : EX K mg NX GE NG NR := ⟨PySem.W.mg_of X G aNX, PySem.W.mg_of X G aGE, PySem.W.mg_of X G aNG, PySem.W.mg_of X G aNR, uNX, ⟨n1, n2, sNX, n3, n4, q5, q6, n7⟩, i8, i2, i4, ⟨n1, n2, sNX, n3⟩, gisinstance, gtuple, gValueError, grepr⟩
  have gRight := ok_right F11 gRead b2 k2 m2 (gText 301) b7 k7 m7 gWrong b9 k9 m9 M N
  exact FnG.of (ok_law F12 ⟨D, gTree, b6, k6, m6, gText, b7, k7, m7, gBent, b10, k10, m10, gall, glist, grange⟩ gRight b11 k11 m11)
theorem walk {l : PySem.W.OpenLaw} {q : Program} {loose : List Str} {XP : (Str → Option Value) → Heap → Prop} {YP : World → Heap → Prop} {d : DefRec} {K : Params → PySem.W.Frag} (hn : l.most = some 63) (hdf : d.params.defaults = [])
    (hY : ∀ (w : World) (h : Heap), YP w h → (K w.params).In h)
    (F : ∀ (w : World) (mg : Str → Option Value) (fa : Addr) (h : Heap), (K w.params).In h → h.Ns mainGlobals mg → mg d.name = some (.ref fa) → LawG l w (K w.params) 152 63 "script" mg fa h) :
    PySem.W.WalkO q loose XP YP l.row.toRowW d [] (fun f vs => PySem.call f vs) :=
  walk_guard [] hn (by decide) hdf ⟨rfl, by decide, by decide⟩ (fun nm h => (List.not_mem_nil h).elim) hY (fun w mg fa h _ KX G hm _ => F w mg fa h KX G hm)
end Kf
open PySem PySem.W PyProof.Rows in
set_option maxRecDepth 100000 in
set_option maxHeartbeats 0 in
theorem PySem.Challenge.cw_prooffruit_k81_texts_that_write_none_holds : PySem.Challenge.rw_prooffruit_k81_texts_that_write_none.Holds := by
  w_on; o_law; k_head; (case hw => w_witness2)
  k_fill
  refine Kf.walk (l := PySem.Challenge.rw_prooffruit_k81_texts_that_write_none) rfl rfl (fun w h Y => PySem.W.kIn_of Y) ?F
  case F =>
    intro w mg fa h KX G hmg
    refine' Kf.all_mk KX G hmg ?a1 ?l1 ?c1 ?k1 ?a2 ?l2 ?c2 ?k2 ?a3 ?l3 ?c3 ?k3 ?a4 ?l4 ?c4 ?k4 ?a5 ?l5 ?c5 ?k5 ?a6 ?l6 ?c6 ?k6 ?a7 ?l7 ?c7 ?k7 ?a8 ?l8 ?c8 ?k8 ?a9 ?l9 ?c9 ?k9 ?a10 ?l10 ?c10 ?k10 ?a11 ?l11 ?c11 ?k11 ?a12 ?l12 ?c12 ?k12 ?zlen ?zrange ?ztuple ?zisinstance ?zstr ?zint ?zenumerate ?zrepr ?zlist ?zall ?zmin ?zmax ?zValueError ?aCR ?fa1 ?fi1 ?fl1 ?fc1 ?fk1 ?fa2 ?fi2 ?fl2 ?fc2 ?fk2 ?fa3 ?fi3 ?fl3 ?fc3 ?fk3 ?fa4 ?fi4 ?fl4 ?fc4 ?fk4 ?fa5 ?fi5 ?fl5 ?fc5 ?fk5 ?fa6 ?fi6 ?fl6 ?fc6 ?fk6 ?fa7 ?fi7 ?fl7 ?fc7 ?fk7 ?pg ?hd ?po ?sa ?mk ?kc ?nT ?nB ?nL ?nW ?aFi ?aLe ?aMF ?aML ?aMO ?aGE ?aNX ?aNG ?aNR ?uNX ?n1 ?n2 ?n3 ?n4 ?n7 ?q5 ?q6 ?i2 ?i4 ?i8 ?sNX ?hNX ?nNX ?iNX ?tI ?lI ?cI ?kI
    (case a1 => first | k_is | rfl)
    (case l1 => first | k_is | rfl)
    (case c1 => first | k_is | rfl)
    (case k1 => first | k_is | rfl)
    (case a2 => first | k_is | rfl)
    (case l2 => first | k_is | rfl)
    (case c2 => first | k_is | rfl)
    (case k2 => first | k_is | rfl)
    (case a3 => first | k_is | rfl)
    (case l3 => first | k_is | rfl)
    (case c3 => first | k_is | rfl)
    (case k3 => first | k_is | rfl)
    (case a4 => first | k_is | rfl)
    (case l4 => first | k_is | rfl)
    (case c4 => first | k_is | rfl)
    (case k4 => first | k_is | rfl)
    (case a5 => first | k_is | rfl)
    (case l5 => first | k_is | rfl)
    (case c5 => first | k_is | rfl)
    (case k5 => first | k_is | rfl)
    (case a6 => first | k_is | rfl)
    (case l6 => first | k_is | rfl)
    (case c6 => first | k_is | rfl)
    (case k6 => first | k_is | rfl)
    (case a7 => first | k_is | rfl)
    (case l7 => first | k_is | rfl)
    (case c7 => first | k_is | rfl)
    (case k7 => first | k_is | rfl)
    (case a8 => first | k_is | rfl)
    (case l8 => first | k_is | rfl)
    (case c8 => first | k_is | rfl)
    (case k8 => first | k_is | rfl)
    (case a9 => first | k_is | rfl)
    (case l9 => first | k_is | rfl)
    (case c9 => first | k_is | rfl)
    (case k9 => first | k_is | rfl)
    (case a10 => first | k_is | rfl)
    (case l10 => first | k_is | rfl)
    (case c10 => first | k_is | rfl)
    (case k10 => first | k_is | rfl)
    (case a11 => first | k_is | rfl)
    (case l11 => first | k_is | rfl)
    (case c11 => first | k_is | rfl)
    (case k11 => first | k_is | rfl)
    (case a12 => first | k_is | rfl)
    (case l12 => first | k_is | rfl)
    (case c12 => first | k_is | rfl)
    (case k12 => first | k_is | rfl)
    (case zlen => first | k_is | rfl)
    (case zrange => first | k_is | rfl)
    (case ztuple => first | k_is | rfl)
    (case zisinstance => first | k_is | rfl)
    (case zstr => first | k_is | rfl)
    (case zint => first | k_is | rfl)
    (case zenumerate => first | k_is | rfl)
    (case zrepr => first | k_is | rfl)
    (case zlist => first | k_is | rfl)
    (case zall => first | k_is | rfl)
    (case zmin => first | k_is | rfl)
    (case zmax => first | k_is | rfl)
    (case zValueError => first | k_is | rfl)
    (case aCR => first | k_is | rfl)
    (case fa1 => first | k_is | rfl)
    (case fi1 => first | k_is | rfl)
    (case fl1 => first | k_is | rfl)
    (case fc1 => first | k_is | rfl)
    (case fk1 => first | k_is | rfl)
    (case fa2 => first | k_is | rfl)
    (case fi2 => first | k_is | rfl)
    (case fl2 => first | k_is | rfl)
    (case fc2 => first | k_is | rfl)
    (case fk2 => first | k_is | rfl)
    (case fa3 => first | k_is | rfl)
    (case fi3 => first | k_is | rfl)
    (case fl3 => first | k_is | rfl)
    (case fc3 => first | k_is | rfl)
    (case fk3 => first | k_is | rfl)
    (case fa4 => first | k_is | rfl)
    (case fi4 => first | k_is | rfl)
    (case fl4 => first | k_is | rfl)
    (case fc4 => first | k_is | rfl)
    (case fk4 => first | k_is | rfl)
    (case fa5 => first | k_is | rfl)
    (case fi5 => first | k_is | rfl)
    (case fl5 => first | k_is | rfl)
    (case fc5 => first | k_is | rfl)
    (case fk5 => first | k_is | rfl)
    (case fa6 => first | k_is | rfl)
    (case fi6 => first | k_is | rfl)
    (case fl6 => first | k_is | rfl)
    (case fc6 => first | k_is | rfl)
    (case fk6 => first | k_is | rfl)
    (case fa7 => first | k_is | rfl)
    (case fi7 => first | k_is | rfl)
    (case fl7 => first | k_is | rfl)
    (case fc7 => first | k_is | rfl)
    (case fk7 => first | k_is | rfl)
    (case pg => first | k_is | rfl)
    (case hd => first | k_is | rfl)
    (case po => first | k_is | rfl)
    (case sa => first | k_is | rfl)
    (case mk => first | k_is | rfl)
    (case kc => first | k_is | rfl)
    (case nT => first | k_is | rfl)
    (case nB => first | k_is | rfl)
    (case nL => first | k_is | rfl)
    (case nW => first | k_is | rfl)
    (case aFi => first | k_is | rfl)
    (case aLe => first | k_is | rfl)
    (case aMF => first | k_is | rfl)
    (case aML => first | k_is | rfl)
    (case aMO => first | k_is | rfl)
    (case aGE => first | k_is | rfl)
    (case aNX => first | k_is | rfl)
    (case aNG => first | k_is | rfl)
    (case aNR => first | k_is | rfl)
    (case uNX => first | k_is | rfl | decide +kernel)
    (case n1 => first | k_is | rfl | decide +kernel)
    (case n2 => first | k_is | rfl | decide +kernel)
    (case n3 => first | k_is | rfl | decide +kernel)
    (case n4 => first | k_is | rfl | decide +kernel)
    (case n7 => first | k_is | rfl | decide +kernel)
    (case q5 => first | k_is | rfl | decide +kernel)
    (case q6 => first | k_is | rfl | decide +kernel)
    (case i2 => first | k_is | rfl | decide +kernel)
    (case i4 => first | k_is | rfl | decide +kernel)
    (case i8 => first | k_is | rfl | decide +kernel)
    (case sNX => first | k_is | rfl | decide +kernel)
    (case hNX => exact ⟨⟨_, _, _, _, _, _, _, _, _, _, _, _, _, _, _, by first | k_is | rfl, by first | rfl | decide +kernel⟩, by first | k_is | rfl, by first | k_is | rfl, by first | k_is | rfl, by first | k_is | rfl⟩)
    (case nNX => first | k_is | rfl | decide +kernel)
    (case iNX => first | k_is | rfl)
    (case tI => first | k_is | rfl | decide +kernel)
    (case lI => first | k_is | rfl)
    (case cI => first | k_is | rfl)
    (case kI => first | k_is | rfl)
