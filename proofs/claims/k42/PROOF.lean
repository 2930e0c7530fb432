import PyProof.Rows.All
import Wide.All
import OpenK.AllK
import Wide.FinOn
import HandS.ForMost
import HandS.SetKeys
import HandS.SetFor
import HandS.Strs
import HandS.More
import HandS.Wide
import HandS.IsInst
import HandS.TupAny
import HandS.EndBits
import HandS.WideBits
import HandS.Deep
import HandS.DeepEq
import HandS.Conv
import HandS.NoneIn
import PyProof.ReprLen
import HandS.Lambda
import HandS.Nested
import HandS.Star
import HandS.Flow
import HandS.Exc
import HandS.ExcIs
import HandS.ExcValue
import HandS.Dict
import HandS.WordsExc
import HandS.Small
import HandS.Zip
import HandS.Comp
import HandS.Style
import HandS.Iter
import KE.KRevSl
import HandS.EndTab
import PyProof.ReprRoads
import HandS.EndOwn
import PySem.Challenge.RW_prooffruit_k42_what_bears_a_saying
set_option Elab.async false
set_option linter.all false
set_option maxRecDepth 100000
set_option maxHeartbeats 4000000
/-! Sets of texts, whatever the world's order of them is: set(), set(a list), add, sorted. -/
namespace Sx
open PySem PySem.Spec PyProof.Rows L2
/-- the text of an entry -/
def tx (e : Int × Value) : Str := match e.2 with
  | .str k _ => k
  | _ => Str.empty
def Ent (w : World) (e : Int × Value) : Prop := ∃ k tk, e = (hashStr w k, Value.str k tk)
/-- one text more -/
def ins (k : Str) (ks : List Str) : List Str := if k ∈ ks then ks else k :: ks
theorem ins_mem {k j : Str} {ks : List Str} : j ∈ ins k ks ↔ j = k ∨ j ∈ ks := by
  unfold ins
  split
  · rename_i h
    exact ⟨.inr, fun q => q.elim (fun e => e ▸ h) (fun q => q)⟩
  · exact List.mem_cons
theorem ins_nodup {k : Str} {ks : List Str} (h : ks.Nodup) : (ins k ks).Nodup := by
  unfold ins
  split
  · exact h
  · rename_i q
    exact List.nodup_cons.mpr ⟨q, h⟩
theorem ins_len {k : Str} {ks : List Str} : (ins k ks).length ≤ ks.length + 1 := by
  unfold ins
  split
  · omega
  · exact Nat.le_refl _
/-- the set's table: its rows are the texts ks, it can be walked -/
structure Rows (w : World) (es : Array (Int × Value)) (t : SetTable) (ks : List Str) : Prop where
  ent : ∀ e ∈ es.toList, Ent w e
  perm : (es.toList.map tx).Perm ks
  nd : ks.Nodup
  few : es.size < scanBound
  fit : t.fits es.size = true
  ris : Ris t.place.toList
  led : w.params.followText "set-order" = true ∨ t.led = true
def SetS (w : World) (h : Heap) (a : Addr) (ks : List Str) : Prop := ∃ o es ep t, h.get? a = some o ∧ o.ExactSet ∧ o.data = .set es ep t ∧ Rows w es t ks
section
variable {P : Program} {w : World} {h h' : Heap} {a : Addr} {ks : List Str} {es : Array (Int × Value)} {t : SetTable}
theorem SetS.stay (R : SetS w h a ks) (k : ∀ o, h.get? a = some o → h'.get? a = some o) : SetS w h' a ks := by
  obtain ⟨o, es, ep, t, ho, z⟩ := R
  exact ⟨o, es, ep, t, k o ho, z⟩
theorem Rows.size (r : Rows w es t ks) : es.size = ks.length := by
  have q := r.perm.length_eq
  rw [List.length_map, Array.length_toList] at q
  exact q
theorem ent_is {e : Int × Value} (g : Ent w e) (k : Str) : (PySem.strKind P w).is k e.2 = true ↔ tx e = k := by
  obtain ⟨j, tk, rfl⟩ := g
  show (j == k) = true ↔ j = k
  exact beq_iff_eq
theorem Rows.elems (r : Rows w es t ks) : ElemsOf (PySem.strKind P w) es.toList := by
  intro e he
  obtain ⟨k, tk, rfl⟩ := r.ent e he
  exact ⟨⟨k, strKind_is P w k tk, rfl⟩, rfl⟩
theorem Rows.mem (r : Rows w es t ks) (k : Str) : k ∈ ks ↔ ∃ e ∈ es.toList, (PySem.strKind P w).is k e.2 = true := by
  rw [← r.perm.mem_iff, List.mem_map]
  exact ⟨fun ⟨e, he, q⟩ => ⟨e, he, (ent_is (r.ent e he) k).2 q⟩, fun ⟨e, he, q⟩ => ⟨e, he, (ent_is (r.ent e he) k).1 q⟩⟩
theorem SetS.of (R : SetS w h a ks) : h.SetOf (PySem.strKind P w) a (fun k => decide (k ∈ ks)) ks.length := by
  obtain ⟨o, es, ep, t, ho, hx, hd, r⟩ := R
  exact ⟨o, es, ep, t, ho, hx, hd, r.elems, fun k => by rw [decide_eq_true_iff]; exact r.mem k, r.few, r.fit, r.size⟩
theorem rows_new (w : World) : Rows w #[] (.fresh 0 0 (!w.params.followText "set-order")) [] where
  ent := fun e he => by simp at he
  perm := List.Perm.refl _
  nd := List.nodup_nil
  few := by decide
  fit := rfl
  ris := List.Pairwise.nil
  led := by
    show _ ∨ (!w.params.followText "set-order") = true
    cases w.params.followText "set-order" with
    | true => exact .inl rfl
    | false => exact .inr rfl
end
section
variable {P : Program} {w : World} {A : Around} {E : Value → Shared → Prop} {s : Shared} {a : Addr} {ks : List Str}
/-- the table is stored, and laid anew where it is too full -/
theorem stored {gave : Bool → Sem Unit} (hg : ∀ (b : Bool) (z : Shared) (Y : Unit → Shared → Prop), Y () z → wpAny (model P w) A (gave b) Y E z)
    {o : Obj} {es0 es : Array (Int × Value)} {ep : Nat} {t0 t : SetTable} (ho : s.heap.get? a = some o) (hx : o.ExactSet) (hd : o.data = .set es0 ep t0) (r : Rows w es t ks) {dummy : Bool} {Z : Option Bool → Shared → Prop}
    (hZ : ∀ h', Heap.SameBut a s.heap h' → SetS w h' a ks → Z (some true) { s with heap := h' }) :
    wpAny (model P w) A (do
        storeSet a es t
        if (!dummy && t.tooFull) = true then do
            gave (relayAll t es (SetTable.grown es.size)).2.2
            storeSet a (relayAll t es (SetTable.grown es.size)).1 (relayAll t es (SetTable.grown es.size)).2.1
            pure (some true)
          else pure (some true)) Z E s := by
  have first := Heap.SameBut.update s.heap a (Obj.putSet es t)
  have o1 := store_at (es' := es) (t' := t) ho hd
  refine wpAny_bind (wpAny_storeSet_of ho hd ?_ (fits_of_scanBound r.few))
  by_cases full : (!dummy && t.tooFull) = true
  · rw [if_pos full]
    have r2 : Rows w (relayAll t es (SetTable.grown es.size)).1 (relayAll t es (SetTable.grown es.size)).2.1 ks := by
      have pm := relayAll_perm t es (SetTable.grown es.size)
      have sz : (relayAll t es (SetTable.grown es.size)).1.size = es.size := by
        have q := pm.length_eq
        rw [Array.length_toList, Array.length_toList] at q
        exact q
      exact ⟨fun e he => r.ent e (pm.mem_iff.mp he), (pm.map tx).trans r.perm, r.nd, Nat.lt_of_le_of_lt (Nat.le_of_eq sz) r.few, relayAll_fits _ _ _, relayAll_ris _ _ _, r.led.imp (fun z => z) fun z => (relayAll_led _ _ _).trans z⟩
    refine wpAny_bind (hg _ _ _ (wpAny_bind (wpAny_storeSet_of o1 rfl ?_ (fits_of_scanBound r2.few))))
    exact wpAny_pure (hZ _ (first.trans (Heap.SameBut.update _ a _)) ⟨_, _, _, _, store_at o1 rfl, hx, rfl, r2⟩)
  · rw [if_neg full]
    exact wpAny_pure (hZ _ first ⟨_, _, _, _, o1, hx, rfl, r⟩)
theorem plain_off {w : World} {es : Array (Int × Value)} {t : SetTable} {ks : List Str} (r : Rows w es t ks) : Rows w es { t with plain := false } ks :=
  ⟨r.ent, r.perm, r.nd, r.few, SetTable.fits_plain_off r.fit, r.ris, r.led⟩
/-- a text whose hash is known is added -/
theorem add_at {k : Str} {tk : Tok} {Z : Bool → Shared → Prop} (R : SetS w s.heap a ks) (room : ks.length + 1 < scanBound)
    (hZ : ∀ b h', Heap.SameBut a s.heap h' → SetS w h' a (ins k ks) → Z b { s with heap := h' }) : wpAny (model P w) A (setAddHashed a (.str k tk) (hashStr w k)) Z E s := by
  obtain ⟨o, es, ep, t, ho, hx, hd, r⟩ := R
  have hel : ElemsOf (PySem.strKind P w) es.toList := r.elems
  have hscan : byScan (Value.str k tk) es = true := byScan_of rfl r.few hel
  unfold setAddHashed setAddHashedIn
  refine wpAny_holding (wpAny_bind (wpAny_setState_of ho hd r.fit ?_))
  dsimp only
  rw [hscan]
  simp only [↓reduceIte]
  unfold setAddByScan
  refine wpAny_bind (wpAny_bind (wpAny_rule (wpAny_bind (wpAny_setScan_of (knd := PySem.strKind P w) (k := k) (strKind_is P w k tk) ho hd r.fit hel ?_))))
  cases found : List.findIdx? (fun e => (PySem.strKind P w).is k e.2) es.toList with
  | some j =>
    obtain ⟨lt, hit, _⟩ := List.findIdx?_eq_some_iff_getElem.mp found
    have there : k ∈ ks := (r.mem (P := P) k).2 ⟨_, List.getElem_mem lt, hit⟩
    refine wpAny_pure (wpAny_pure (hZ _ s.heap (Heap.SameBut.refl a s.heap) ⟨o, es, ep, t, ho, hx, hd, ?_⟩))
    unfold ins
    rw [if_pos there]
    exact r
  | none =>
    have away : k ∉ ks := fun z => by
      obtain ⟨e, he, hit⟩ := (r.mem (P := P) k).1 z
      have no := List.findIdx?_eq_none_iff.mp found e he
      rw [hit] at no
      cases no
    have pm0 := layNew_perm t es (hashStr w k) (.str k tk)
    rw [Array.toList_push] at pm0
    have pm := pm0.trans (List.perm_append_singleton (hashStr w k, Value.str k tk) es.toList)
    have r1 : Rows w (layNew t es (hashStr w k) (.str k tk)).1 (layNew t es (hashStr w k) (.str k tk)).2.1 (ins k ks) := by
      have sz : (layNew t es (hashStr w k) (.str k tk)).1.size = ks.length + 1 := by
        have q := pm.length_eq
        rw [Array.length_toList, List.length_cons, Array.length_toList, r.size] at q
        exact q
      refine ⟨fun e he => ?_, ?_, ins_nodup r.nd, Nat.lt_of_le_of_lt (Nat.le_of_eq sz) room, layNew_fits _ _ _ _, layNew_ris _ _ _ _ r.ris, r.led.imp (fun z => z) fun z => (layNew_led _ _ _ _).trans z⟩
      · rcases List.mem_cons.mp (pm.mem_iff.mp he) with z | z
        · exact ⟨k, tk, z⟩
        · exact r.ent e z
      · unfold ins
        rw [if_neg away]
        exact (pm.map tx).trans (List.Perm.cons k r.perm)
    have gw : ∀ (b : Bool) (z : Shared) (Y : Unit → Shared → Prop), Y () z → wpAny (model P w) A (match b with | true => rule "set.scan.the-table-gave-way" | false => pure ()) Y E z := by
      intro b z Y q
      cases b with
      | true => exact wpAny_rule q
      | false => exact wpAny_pure q
    have goal2 : ∀ h', Heap.SameBut a s.heap h' → SetS w h' a (ins k ks) → Z true { s with heap := h' } := fun h' sb r' => hZ true h' sb r'
    dsimp only
    change wpAny _ _ _ _ _ _
    generalize layNew t es (hashStr w k) (.str k tk) = L at r1 ⊢
    obtain ⟨es1, t1, dummy, gave⟩ := L
    dsimp only at r1 ⊢
    refine wpAny_bind (gw _ _ _ ?_)
    by_cases pl : t1.plain = true
    · rw [if_pos pl]
      refine wpAny_bind ?_
      rw [hashByValue_scannable 8 (show (Value.str k tk).scannable = true from rfl)]
      refine wpAny_pure ?_
      refine stored gw ho hx hd (ks := ins k ks) ?_ fun h' sb r' => wpAny_pure (goal2 h' sb r')
      split
      · exact r1
      · exact plain_off r1
    · rw [if_neg pl]
      refine wpAny_bind (wpAny_pure ?_)
      simp only [↓reduceIte]
      exact stored gw ho hx hd (ks := ins k ks) r1 fun h' sb r' => wpAny_pure (goal2 h' sb r')
end
/-- the texts of the first i are put in, one by one -/
def insAll (ks : List Str) : List Str → List Str
  | [] => ks
  | x :: r => insAll (ins x ks) r
theorem insAll_mem {j : Str} : ∀ (xs ks : List Str), j ∈ insAll ks xs ↔ j ∈ xs ∨ j ∈ ks
  | [], ks => by simp [insAll]
  | x :: r, ks => by
    rw [insAll, insAll_mem r, ins_mem, List.mem_cons]
    constructor
    · rintro (h | h | h)
      · exact .inl (.inr h)
      · exact .inl (.inl h)
      · exact .inr h
    · rintro ((h | h) | h)
      · exact .inr (.inl h)
      · exact .inl h
      · exact .inr (.inr h)
theorem insAll_len : ∀ (xs ks : List Str), (insAll ks xs).length ≤ ks.length + xs.length
  | [], ks => Nat.le_refl _
  | x :: r, ks => by
    have h1 := insAll_len r (ins x ks)
    have h2 := ins_len (k := x) (ks := ks)
    rw [insAll, List.length_cons]
    omega
section
variable {P : Program} {w : World} {A : Around} {E : Value → Shared → Prop} {s : Shared}
/-- set.update's own loop over a walk that yields texts -/
theorem feed_loop {I : Addr} {fp wr : List Addr} {G : Array GenState → Array GenState → Prop} {n : Nat} {Y : Nat → Value → Prop} {St : Nat → Shared → Prop} {Z : Result → Shared → Prop}
    (W : WalksS P w A.in1 I fp wr G n Y St) (S : Addr) (out : S ∉ fp) (texts : List Str) (hn : texts.length = n) (hb : n + 1 < scanBound) (hY : ∀ i v, Y i v → ∃ k tk, texts[i]? = some k ∧ v = .str k tk) :
    ∀ (left : Nat) (i : Nat) (ks : List Str) (s : Shared), i + left = n → St i s → SetS w s.heap S ks → ks.length ≤ i →
      (∀ s', Moved (S :: wr) G s s' → SetS w s'.heap S (insAll ks (texts.drop i)) → Z (.ok (.ret .none)) s') → codeAny (model P w) A (.builtin "set.update.loop" ⟨[.ref S, .ref I], []⟩) Z s := by
  have quietS : S ∉ wr := fun z => out (W.sub _ z)
  have more : ∀ b ∈ wr, b ∈ S :: wr := fun b hb => List.mem_cons_of_mem _ hb
  intro left
  induction left with
  | zero =>
    intro i ks s hi hst hS _ hZ
    have e0 : texts.drop i = [] := List.drop_eq_nil_of_le (by omega)
    rw [e0] at hZ
    have e1 : i = n := by omega
    rw [e1] at hst
    refine codeAny_builtin F.entry_set_update_loop ?_
    rw [Around.under_plainId F.plain_set_update_loop _]
    show wpAny _ A.in1 (pyNext (.ref I) >>= _) _ _ s
    refine wpAny_bind (W.done s _ _ hst fun s' mv => wpAny_pure (hZ s' (mv.mono more) (hS.stay fun o e => mv.heap S o quietS e)))
  | succ left ih =>
    intro i ks s hi hst hS hk hZ
    have lt : i < n := by omega
    refine codeAny_builtin F.entry_set_update_loop ?_
    rw [Around.under_plainId F.plain_set_update_loop _]
    show wpAny _ A.in1 (pyNext (.ref I) >>= _) _ _ s
    refine wpAny_bind (W.item i s _ _ lt hst fun v s1 hv hst1 mv => ?_)
    obtain ⟨k, tk, hk1, rfl⟩ := hY i v hv
    have hS1 : SetS w s1.heap S ks := hS.stay fun o e => mv.heap S o quietS e
    have ed : texts.drop i = k :: texts.drop (i + 1) := by
      obtain ⟨lt2, e2⟩ := List.getElem?_eq_some_iff.mp hk1
      rw [← e2]
      exact List.drop_eq_getElem_cons lt2
    rw [ed] at hZ
    show wpAny _ A.in1 (holding [Value.str k tk] (setAdd S (.str k tk)) >>= _) _ _ s1
    unfold setAdd
    refine wpAny_bind (wpAny_holding (wpAny_holding (wpAny_bind ((PySem.strKind P w).pyHash (k := k) (strKind_is P w k tk) ?_))))
    refine add_at (s := { s1 with toks := s1.toks + 1 }) hS1 (by omega) fun b h' sb hS2 => ?_
    refine wpAny_pure ⟨plainId_quiet F.plain_set_update_loop _, ih (i + 1) (ins k ks) _ (by omega) (W.frame _ s1 _ _ hst1 (Nat.le_succ _) fun c hc o e => ?_) hS2 ?_ fun s2 mv2 hS3 => ?_⟩
    · have away : c ≠ S := fun z => out (z ▸ hc)
      rw [sb.2 c away]
      exact e
    · have := ins_len (k := k) (ks := ks)
      omega
    · refine hZ s2 (Moved.trans W.gtrans ((mv.mono more).then_heap (Nat.le_succ _) fun c o hc e => ?_) mv2) hS3
      have away : c ≠ S := fun z => hc (z ▸ List.mem_cons_self)
      rw [sb.2 c away]
      exact e
/-- the empty set, as it is made -/
abbrev bare (w : World) : Obj := { cls := .type "set", dict := none, data := .set #[] 0 (.fresh 0 0 (!w.params.followText "set-order")) }
theorem bare_holds {h : Heap} {a : Addr} (ho : h.get? a = some (bare w)) : SetS w h a [] := ⟨_, _, _, _, ho, ⟨rfl, rfl, rfl⟩, rfl, rows_new w⟩
set_option maxHeartbeats 8000000 in
theorem set_of_list {l : Addr} {items : Array Value} (texts : List Str) {Z : Value → Shared → Prop} (hh : A.handled = none) (hl : s.heap.IsList l items) (ht : StrsAre items.toList texts) (hb : texts.length + 1 < scanBound)
    (hZ : ∀ (h' : Heap) (tk : Nat), SetS w h' s.heap.objs.size (insAll [] texts) → (∀ b o, s.heap.get? b = some o → h'.get? b = some o) → Z (.ref s.heap.objs.size) { s with heap := h', toks := tk }) :
    wpAny (model P w) A (call (.type "set") [.ref l]) Z E s := by
  have count : texts.length = items.size := by
    have q := StrsAre.len_eq ht
    rw [Array.length_toList] at q
    exact q.symm
  obtain ⟨c, tl, hmro⟩ := F.called_set.mro
  have made := F.called_set.made
  have sub := F.called_set.sub
  have noType := F.called_set.notType
  have can := F.called_set.canCreate
  have tcall := F.typeCall_set_1 (.ref l)
  refine wpAny_call (codeAny_of_tree ?_)
  show wpAny _ _ (callAny (.type "set") _) _ _ _
  refine wpAny_pure ⟨Code.quiet_builtin _ (by decide +kernel), codeAny_builtin F.entry_type_call ?_⟩
  rw [Around.under_plain (weight_type_call_type "set" [.ref l] []) rfl]
  repeat (any_goals (first | assumption | wp_step))
  refine codeAny_mono (code_set_led1 (.ref l) (E := E) (Q₁ := fun v z => v = .ref s.heap.objs.size ∧ z = { s with heap := s.heap.push (bare w) }) ⟨rfl, rfl⟩) fun r z hr => ?_
  match r, hr with
  | .error _, hr => exact hr
  | .ok .next, hr => exact hr.elim
  | .ok .brk, hr => exact hr.elim
  | .ok .cont, hr => exact hr.elim
  | .ok (.ret _), hr =>
    obtain ⟨rfl, rfl⟩ := hr
    have hS : (s.heap.push (bare w)).get? s.heap.objs.size = some (bare w) := Heap.get?_push_size _ rfl
    have isSet : Shared.TypeIs { s with heap := s.heap.push (bare w) } (.ref s.heap.objs.size) "set" := ⟨_, hS, rfl⟩
    have initL := F.called_set.init.lookup
    have initB := F.called_set.init.bind (.ref s.heap.objs.size)
    repeat (any_goals (first | assumption | wp_step))
    refine codeAny_mono (codeAny_call_builtin (R := wants (fun v z => v = .none ∧ ∃ h' tk, z = { s with heap := h', toks := tk } ∧ SetS w h' s.heap.objs.size (insAll [] texts) ∧ ∀ b o, s.heap.get? b = some o → h'.get? b = some o) E)
      F.called_set.init.plain F.entry_set_init (check_set_init_1 isSet ?_)) fun r z hr => ?_
    · have hl1 : (s.heap.push (bare w)).IsList l items := hl.push _
      obtain ⟨⟨_, dd, _, sl⟩, hol, rfl, nl, rfl⟩ := id hl
      have hol1 : (s.heap.push (bare w)).get? l = some ⟨.type "list", dd, .seq items nl, sl⟩ := Heap.get?_push_of_some _ hol
      have sub1 := F.sub_list_set
      have sub2 := F.sub_list_frozenset
      have unlike : (Value.type "list" == Value.type "dict") = false := by decide
      unfold Builtin.«set.__init__» noKeywords Builtin.Frozenset.updateFrom
      generalize hPI : pyIter = PI
      wp_walk
      subst hPI
      refine wpAny_pyIter_list hl1 (wpAny_bind (wpAny_runValue ?_))
      have old : l < s.heap.objs.size := Heap.lt_size hol
      have sz1 : (s.heap.push (bare w)).objs.size = s.heap.objs.size + 1 := Heap.size_push ..
      have apart : l ≠ (s.heap.push (bare w)).objs.size := by
        rw [sz1]
        exact Nat.ne_of_lt (Nat.lt_succ_of_lt old)
      have out : s.heap.objs.size ∉ [(s.heap.push (bare w)).objs.size, l] := by
        intro z
        rcases List.mem_cons.mp z with z | z
        · rw [sz1] at z
          omega
        · exact absurd old (by rw [← List.mem_singleton.mp z]; exact Nat.lt_irrefl _)
      have texty : ∀ (i : Nat) (v : Value), items[i]? = some v → ∃ k tk, texts[i]? = some k ∧ v = .str k tk := fun i v hv => by
        have hi : i < texts.length := by
          rw [count]
          exact (Array.getElem?_eq_some_iff.mp hv).1
        obtain ⟨tk, e⟩ := SS.strs_at ht i v (by rw [Array.getElem?_toList]; exact hv)
        refine ⟨texts[i], tk, List.getElem?_eq_getElem hi, ?_⟩
        rw [e, List.getD_eq_getElem?_getD, List.getElem?_eq_getElem hi]
        rfl
      have hh3 : A.in1.in1.in1.handled = none := by simp [hh]
      refine feed_loop ((Walks.list hh3 _ l apart items).toS) s.heap.objs.size out texts count (by rw [← count]; exact hb) texty items.size 0 [] _ (Nat.zero_add _) ⟨⟨_, Heap.get?_push_size _ rfl, rfl, rfl⟩, hl1.push _⟩
        (bare_holds (Heap.get?_push_of_some _ hS)) (Nat.le_refl _) fun s' mv hS' => ?_
      obtain ⟨h', g', d', tk', os'⟩ := s'
      have eg : g' = s.gens := mv.gens
      have ed : d' = s.drawn := mv.drawn
      have eo : os' = s.os := mv.os
      subst eg ed eo
      show wpAny _ _ _ _ _ _
      refine wpAny_pure ?_
      show wpAny _ _ (ret Value.none) _ _ _
      refine wpAny_pure ⟨rfl, h', tk', rfl, hS', fun b o e => ?_⟩
      have lt := Heap.lt_size e
      refine mv.heap b o (fun z => ?_) (Heap.get?_push_of_some _ (Heap.get?_push_of_some _ e))
      rcases List.mem_cons.mp z with z | z
      · rw [z] at lt
        exact Nat.lt_irrefl _ lt
      · have z2 := List.mem_singleton.mp z
        have lt2 : b < (s.heap.push (bare w)).objs.size := by
          rw [sz1]
          exact Nat.lt_succ_of_lt lt
        rw [z2] at lt2
        exact Nat.lt_irrefl _ lt2
    · match r, hr with
      | .error _, hr => exact hr
      | .ok .next, hr => exact hr.elim
      | .ok .brk, hr => exact hr.elim
      | .ok .cont, hr => exact hr.elim
      | .ok (.ret _), hr =>
        obtain ⟨rfl, h', tk, rfl, hS', keep⟩ := hr
        repeat (any_goals (first | assumption | wp_step))
        exact hZ _ _ hS' keep
/-- the texts of values that are texts -/
theorem texts_of : ∀ (vs : List Value), (∀ v ∈ vs, ∃ k tk, v = Value.str k tk) → ∃ ks, StrsAre vs ks ∧ ks = vs.map fun v => tx (0, v)
  | [], _ => ⟨[], .nil, rfl⟩
  | v :: vs, h => by
    obtain ⟨k, tk, rfl⟩ := h v List.mem_cons_self
    obtain ⟨ks, h1, h2⟩ := texts_of vs fun u hu => h u (List.mem_cons_of_mem _ hu)
    exact ⟨k :: ks, .cons k tk h1, by rw [h2]; rfl⟩
theorem sorted_of_set {a : Addr} {ks : List Str} {Z : Value → Shared → Prop} (R : SetS w s.heap a ks) (hh : A.handled = none) (few : ks.length < 64)
    (hZ : ∀ s' p (out : Array Value) (c : Nat) (ys : List Str), (∀ b o, s.heap.get? b = some o → s'.heap.get? b = some o) → s'.gens = s.gens → s'.os = s.os → s.heap.objs.size ≤ p →
      s'.heap.get? p = some (seqObj "list" out c) → StrsAre out.toList ys → ys.Perm ks → sortedS ys = true → Z (.ref p) s') :
    wpAny (model P w) A (call (.builtin "sorted") [.ref a]) Z E s := by
  obtain ⟨o, es, ep, t, ho, hx, hd, r⟩ := R
  refine Calls.call_function_entry kind_sorted plain_sorted entry_sorted (args_sorted1 _) ?_
  unfold Builtin.«sorted»
  refine wpAny_bind (m := checkCount "sorted" 1 1 _) (wpAny_pure ?_)
  refine wpAny_bind (collect_set (A := A.in1) hh ⟨o, ho, hx.1, hd⟩ r.fit r.few r.ris r.led fun s1 vs keep more g1 o1 pm => ?_)
  obtain ⟨texts, isT, eT⟩ := texts_of vs fun v hv => by
    obtain ⟨e, he, q⟩ := List.mem_map.mp (pm.mem_iff.mp hv)
    obtain ⟨k, tk, ee⟩ := r.ent e he
    exact ⟨k, tk, by rw [← q, ee]⟩
  have pT : texts.Perm ks := by
    refine List.Perm.trans ?_ r.perm
    rw [eT]
    have q := pm.map fun v => tx (0, v)
    rw [List.map_map] at q
    exact q
  have len : vs.length = ks.length := by
    rw [StrsAre.len_eq isT]
    exact pT.length_eq
  have line : vs.length ≤ sizeLine := by
    rw [len, sizeLine_eq]
    omega
  have hL : (s1.heap.push (seqObj "list" vs.toArray 0)).get? s1.heap.objs.size = some (seqObj "list" vs.toArray 0) := Heap.get?_push_size _ rfl
  refine wpAny_bind (wpAny_newList ?_ line)
  refine wpAny_bind (wpAny_holding (wpAny_call_entry slot_list_sort ⟨_, hL, rfl⟩ entry_list_sort (list_sort_treeK strKind_oneLt hL isT.keysOf (fun v₁ v₂ rest e => keyKind_strs (by rw [← e]; exact isT)) (by rw [len]; exact few) fun st hp hs => ?_) (args_list_sort _)))
  obtain ⟨ys, y1, y2, y3⟩ := sorted_out_str isT hp hs
  obtain ⟨c, hc⟩ := sortedHeap_at (vs := vs) (out := (arrOf st).map (·.2)) hL
  refine ⟨_, rfl, wpAny_pure ⟨_, rfl, hZ _ s1.heap.objs.size _ c ys (fun b u e => ?_) g1 o1 more hc y1 (y2.trans pT) y3⟩⟩
  have q := keep b u e
  have lt := Heap.lt_size q
  show (sortedHeap (s1.heap.push (seqObj "list" vs.toArray 0)) s1.heap.objs.size vs _).get? b = some u
  rw [sortedHeap_old (Nat.ne_of_lt lt) (by rw [Heap.size_push]; exact Nat.lt_succ_of_lt lt)]
  exact Heap.get?_push_of_some _ q
end
end Sx
set_option Elab.async false
set_option linter.all false
set_option maxRecDepth 100000
set_option maxHeartbeats 4000000
/-! The rules over sets of texts. -/
namespace Sx
open PySem PySem.Spec PyProof.Rows L2
/-- a set of the texts ks stands at a -/
def SetX (w : World) (a : Addr) (ks : List Str) : HO := .ext fun h => SetS w h a ks
section
variable {X : Cx}
theorem setX_new {w : World} {P : Program} {H : Hp} {h : Heap} {a : Addr} {ks : List Str} (R : SetS w h a ks) : ObjOk P w H h a (SetX w a ks) := by
  have ⟨o, _, _, _, ho, _⟩ := R
  exact ⟨R, ⟨o, ho⟩, fun _ _ r k => SetS.stay r k⟩
theorem setX_get {pins : List (Addr × Obj)} {σ : L2.St} {H : Hp} {s : Shared} {a : Addr} {ks : List Str} (I : Inv X pins σ H s) (e : H a = some (SetX X.w a ks)) : SetS X.w s.heap a ks := (I.hok a _ e).1
/-- set() -/
def rNewX (w : World) : List V → Hp → VK → Prop := fun xs H Q => xs = [] ∧ ∀ p, H p = none → Q (.ref p) (upd H p (SetX w p []))
theorem cr_newX : CallR X (.type "set") (rNewX X.w) := by
  intro pins s σ H xs us Q I r ⟨e, q⟩
  subst e
  cases r
  refine setR_new fun _ => ⟨.ref _, upd H s.heap.objs.size (SetX X.w s.heap.objs.size []), ?_, rfl, q _ (I.hok.fresh (Nat.le_refl _))⟩
  exact I.laid (t' := s.toks) (fun b u e => Heap.get?_push_of_some _ e) (Nat.le_refl _) (setX_new (bare_holds (Heap.get?_push_size _ rfl)))
/-- set(a list of texts) -/
def rOfX (K : PySem.W.Frag) (w : World) : List V → Hp → VK → Prop := fun xs H Q => ∃ (l : Addr) (texts : List Str), xs = [.ref l] ∧ SqL K H l (texts.map V.str) ∧ texts.length + 1 < scanBound ∧
  ∀ p, H p = none → Q (.ref p) (upd H p (SetX w p (insAll [] texts)))
theorem cr_ofX (hc : X.calm = true) : CallR X (.type "set") (rOfX X.K X.w) := by
  intro pins s σ H xs us Q I r ⟨l, texts, e, hq, few, q⟩
  subst e
  rw [Vals.ref1 r]
  obtain ⟨its, rv, pl, _⟩ := I.list hq
  refine set_of_list texts (I.ok.hd hc) pl.isList (by simpa using strsAre_of rv) few fun h' tk hS keep => ?_
  exact ⟨.ref _, upd H s.heap.objs.size (SetX X.w s.heap.objs.size (insAll [] texts)), I.laid (t' := tk) keep (Nat.le_refl _) (setX_new hS), rfl, q _ (I.hok.fresh (Nat.le_refl _))⟩
/-- found.add(text) -/
def rAddX (w : World) : V → List V → Hp → VK → Prop := fun x xs H Q => ∃ (a : Addr) (k : Str) (ks : List Str), x = V.ref a ∧ xs = [V.str k] ∧ H a = some (SetX w a ks) ∧ ks.length + 1 < scanBound ∧ Q .non (upd H a (SetX w a (ins k ks)))
theorem mt_addX : MtR X "set.add" (rAddX X.w) := by
  intro pins s σ H x xs v us Q I rx rxs ⟨a, k, ks, e1, e2, ha, room, q⟩
  subst e1 e2
  cases rx
  obtain ⟨u, rfl, tk, rfl⟩ := vals1 rxs
  have R := setX_get I ha
  refine wpAny_call_entry F.slot_set_add (R.of (P := X.prog)).typeIs F.entry_set_add ?_ (F.args_set_add_2 _ _)
  unfold Builtin.«set.add» Builtin.Frozenset.oneOther
  simp only [List.isEmpty_nil, bind_assoc]
  unfold Builtin.Frozenset.addrOf setAdd
  refine wpAny_bind (wpAny_pure ?_)
  try dsimp only
  refine wpAny_bind (wpAny_pure ?_)
  try dsimp only
  refine wpAny_bind (wpAny_holding (wpAny_bind ((PySem.strKind X.prog X.w).pyHash (strKind_is X.prog X.w k tk) ?_)))
  refine add_at (s := { s with toks := s.toks + 1 }) R room fun b h' sb new => ?_
  show wpAny _ _ (ret Value.none) _ _ _
  have there : ∃ u, h'.get? a = some u := by
    obtain ⟨o, _, _, _, ho, _⟩ := new
    exact ⟨o, ho⟩
  exact wpAny_pure ⟨_, rfl, .non, upd H a (SetX X.w a (ins k ks)), I.write (e := a) (t' := s.toks + 1) (by rw [ha]; trivial) (.inl rfl) (fun c u hc hu => (sb.2 c hc).trans hu) there (setX_new new), rfl, q⟩
def tAddX (w : World) (to : TE) (t : TA) : TE := fun σ H Q => to σ H fun x H1 => (∃ a ks, x = V.ref a ∧ H1 a = some (SetX w a ks)) ∧ t σ H1 fun xs H2 => rAddX w x xs H2 Q
theorem pe_addX {o e : Expr} {to : TE} {t : TA} {apos cpos : Pos} (ho : PE X o to) (ha : PA X [e] t)
    (h1 : attributeBase o "add" X.env (eval o X.env) = eval o X.env := by rfl)
    (h2 : ((backTo cpos (starEach [e] X.env)).all (fun x => !x.1) && (backToKw cpos (keywordEach [] X.env)).all (fun x => x.1.isSome) && decide ([e].length + ([] : List Keyword).length + (if ([] : List Keyword).isEmpty then 0 else 1) < 30)) = true := by rfl)
    (h3 : (apos.endLine == cpos.line) = true := by rfl) (h4 : starEach [e] X.env = (false, eval e X.env) :: starEach [] X.env := by rfl) (h5 : (backTo cpos (starEach [] X.env)).any (·.1) = false := by rfl) :
    PE X (.Call (.Attribute o "add" apos) [e] [] cpos) (tAddX X.w to t) := by
  refine ⟨fun pins s σ H Q I h => wpAny_Call_method_late h1 h2 h3 rfl (thn (ho.run pins s σ H _ I h) fun v s1 ⟨x, H1, I1, r1, ⟨a, ks, ex, hka⟩, q1⟩ => ?_)⟩
  subst ex
  cases r1
  have R := (setX_get I1 hka).of (P := X.prog)
  have run := ha.run cpos pins s1 σ H1 _ I1 q1
  refine ⟨"set", "set.add", F.plainAttrs_set, F.slot_set_add, F.type_set_add, R.typeIs, R.noDict, ?_⟩
  rw [h4] at run ⊢
  refine Calls.callWith_builtin (by show (false || (backTo cpos (starEach [] X.env)).any (·.1)) = false; rw [h5]; rfl) (Calls.evalArgs_plain (thn run fun us s2 ⟨vs, H2, I2, r2, q2⟩ => ?_))
  exact mt_addX pins s2 σ H2 (.ref a) vs (.ref a) us Q I2 rfl r2 q2
/-- sorted(a set of texts) -/
def rSortX (w : World) : List V → Hp → VK → Prop := fun vs H Q => ∃ (a : Addr) (ks : List Str), vs = [V.ref a] ∧ H a = some (SetX w a ks) ∧ ks.length < 64 ∧
  ∀ (ys : List Str) (p : Addr), ys.Perm ks → ys.Nodup → sortedS ys = true → H p = none → Q (.ref p) (upd H p (.lst (ys.map V.str)))
theorem cr_sortX (hc : X.calm = true) : CallR X (.builtin "sorted") (rSortX X.w) := by
  intro pins s σ H vs us Q I r ⟨a, ks, e, ha, few, q⟩
  subst e
  rw [Vals.ref1 r]
  have R := setX_get I ha
  have nd : ks.Nodup := by
    obtain ⟨_, _, _, _, _, _, _, rows⟩ := R
    exact rows.nd
  refine sorted_of_set R (I.ok.hd hc) few fun s' p out c ys keep g1 o1 old hp y1 y2 y3 => ?_
  have line : (ys.map V.str).length ≤ sizeLine := by
    rw [List.length_map, y2.length_eq]
    exact small64 few
  have free : H p = none := I.hok.fresh old
  have J : Inv X pins σ (upd H p (.lst (ys.map V.str))) { s with heap := s'.heap, gens := s'.gens, drawn := s'.drawn, toks := s'.toks } :=
    I.call (ch := []) (Un.laid keep old free) (I.hok.laid keep old ⟨line, out.toList, c, vals_of_strs y1, hp⟩) (by rw [g1]; exact I.bare) (fun _ z => nomatch z)
  have back : s' = { s with heap := s'.heap, gens := s'.gens, drawn := s'.drawn, toks := s'.toks } := by
    cases s'
    cases s
    cases o1
    rfl
  rw [back]
  exact ⟨.ref p, _, J, rfl, q ys p y2 (y2.nodup_iff.mpr nd) y3 free⟩
end
end Sx
set_option Elab.async false
set_option linter.all false
set_option maxRecDepth 100000
set_option maxHeartbeats 4000000
/-! Trees, heaps: what the defs of these laws share. -/
namespace Kf
open PySem PySem.Spec PyProof.Rows L2 Sx
/-! ### lists, pair by pair -/
inductive All2 {α β : Type} (F : α → β → Prop) : List α → List β → Prop
  | nil : All2 F [] []
  | cons {a : α} {b : β} {l : List α} {m : List β} : F a b → All2 F l m → All2 F (a :: l) (b :: m)
section
variable {α β : Type} {F G : α → β → Prop}
theorem All2.len : ∀ {l : List α} {m : List β}, All2 F l m → l.length = m.length
  | _, _, .nil => rfl
  | _, _, .cons _ t => congrArg Nat.succ t.len
theorem All2.app : ∀ {l l2 : List α} {m m2 : List β}, All2 F l m → All2 F l2 m2 → All2 F (l ++ l2) (m ++ m2)
  | _, _, _, _, .nil, h => h
  | _, _, _, _, .cons r t, h => .cons r (t.app h)
theorem All2.mono (f : ∀ a b, F a b → G a b) : ∀ {l : List α} {m : List β}, All2 F l m → All2 G l m
  | _, _, .nil => .nil
  | _, _, .cons r t => .cons (f _ _ r) (t.mono f)
theorem All2.one {a : α} {b : β} (h : F a b) : All2 F [a] [b] := .cons h .nil
theorem All2.rev : ∀ {l : List α} {m : List β}, All2 F l m → All2 F l.reverse m.reverse
  | _, _, .nil => .nil
  | _, _, .cons r t => by
    rw [List.reverse_cons, List.reverse_cons]
    exact t.rev.app (.one r)
theorem All2.last {l : List α} {m : List β} {y : β} (h : All2 F l (m ++ [y])) : ∃ k x, l = k ++ [x] ∧ All2 F k m ∧ F x y := by
  have q := h.rev
  rw [List.reverse_append, List.reverse_singleton, List.singleton_append] at q
  generalize hr : l.reverse = r at q
  cases q with
  | @cons x _ k _ r t =>
    have t2 := t.rev
    rw [List.reverse_reverse] at t2
    refine ⟨k.reverse, x, ?_, t2, r⟩
    have e := congrArg List.reverse hr
    rw [List.reverse_reverse, List.reverse_cons] at e
    exact e
theorem All2.get : ∀ {l : List α} {m : List β} {i : Nat} {y : β}, All2 F l m → m[i]? = some y → ∃ x, l[i]? = some x ∧ F x y
  | _, _, _, _, .nil, h => by simp at h
  | _, _, 0, _, .cons r _, h => ⟨_, rfl, (Option.some.inj h) ▸ r⟩
  | _, _, i + 1, _, .cons _ t, h => t.get (i := i) (by simpa using h)
end
/-! ### heaps -/
/-- all but what stands at f is as it was -/
def But (f : Addr) (H H' : Hp) : Prop := ∀ b o, b ≠ f → H b = some o → H' b = some o
/-- all tuples stand -/
def Tups (H H' : Hp) : Prop := ∀ b xs, H b = some (.tup xs) → H' b = some (.tup xs)
section
variable {f : Addr} {H H1 H2 : Hp} {p : Addr} {o : HO}
theorem But.refl (f : Addr) (H : Hp) : But f H H := fun _ _ _ e => e
theorem But.trans (a : But f H H1) (b : But f H1 H2) : But f H H2 := fun c u n e => b c u n (a c u n e)
theorem but_same (a : Same H H1) : But f H H1 := fun c u _ e => a c u e
theorem But.new (a : But f H H1) (h : H1 p = none) : But f H (upd H1 p o) := fun c u n e => by
  have q := a c u n e
  rw [upd_ne (ne_of_none q h)]
  exact q
theorem But.own (a : But f H H1) : But f H (upd H1 f o) := fun c u n e => by
  rw [upd_ne n]
  exact a c u n e
theorem same_new (h : H p = none) : Same H (upd H p o) := fun b u q => by
  rw [upd_ne (ne_of_none q h)]
  exact q
theorem same_put (s : Same H H1) (h : H1 p = none) : Same H (upd H1 p o) := fun b u q => by
  rw [upd_ne (ne_of_none (s b u q) h)]
  exact s b u q
theorem Tups.refl (H : Hp) : Tups H H := fun _ _ e => e
theorem Tups.trans (a : Tups H H1) (b : Tups H1 H2) : Tups H H2 := fun c u e => b c u (a c u e)
theorem tups_same (a : Same H H1) : Tups H H1 := fun c u e => a c _ e
theorem But.tups {xs : List V} (a : But f H H1) (h : H f = some (.lst xs)) : Tups H H1 := fun c u e => a c _ (fun z => by
  rw [z, h] at e
  cases e) e
theorem tups_put (h : ∀ xs, H p ≠ some (.tup xs)) : Tups H (upd H p o) := fun c u e => by
  rw [upd_ne (fun z => h u (by rw [← z]; exact e))]
  exact e
end
/-! ### trees -/
inductive Tr where
  | leaf (w : Str) (x : V)
  | n0 (w : Str)
  | n1 (w : Str) (a : Tr)
  | n2 (w : Str) (a b : Tr)
abbrev leafVs : List V := [.str "num", .str "name", .str "bound"]
abbrev bindVs : List V := [.str "all", .str "some"]
def leafy (w : Str) : Bool := inV (.str w) leafVs
def binds (w : Str) : Bool := inV (.str w) bindVs
/-- how many stand around the parts -/
def inner (w : Str) (r : Nat) : Nat := if binds w = true then r + 1 else r
def Tr.word : Tr → Str
  | .leaf w _ => w
  | .n0 w => w
  | .n1 w _ => w
  | .n2 w _ _ => w
def Tr.kids : Tr → List Tr
  | .leaf _ _ => []
  | .n0 _ => []
  | .n1 _ a => [a]
  | .n2 _ a b => [a, b]
/-- the tree t is the value v -/
def At (H : Hp) : Tr → V → Prop
  | .leaf w x, v => ∃ p, v = .ref p ∧ H p = some (.tup [.str w, x])
  | .n0 w, v => ∃ p, v = .ref p ∧ H p = some (.tup [.str w])
  | .n1 w a, v => ∃ p y, v = .ref p ∧ H p = some (.tup [.str w, y]) ∧ At H a y
  | .n2 w a b, v => ∃ p y z, v = .ref p ∧ H p = some (.tup [.str w, y, z]) ∧ At H a y ∧ At H b z
theorem At.keep {H H' : Hp} (k : Tups H H') : ∀ {t : Tr} {v : V}, At H t v → At H' t v
  | .leaf _ _, _, ⟨p, e, h⟩ => ⟨p, e, k _ _ h⟩
  | .n0 _, _, ⟨p, e, h⟩ => ⟨p, e, k _ _ h⟩
  | .n1 _ _, _, ⟨p, y, e, h, a⟩ => ⟨p, y, e, k _ _ h, a.keep k⟩
  | .n2 _ _ _, _, ⟨p, y, z, e, h, a, b⟩ => ⟨p, y, z, e, k _ _ h, a.keep k, b.keep k⟩
/-- leaves by their words -/
def Tr.Ok : Tr → Prop
  | .leaf w x => leafy w = true ∧ ((∃ i, x = .int i) ∧ w ≠ "name" ∨ (∃ z, x = .str z) ∧ w = "name")
  | .n0 w => leafy w = false
  | .n1 w a => leafy w = false ∧ a.Ok
  | .n2 w a b => leafy w = false ∧ a.Ok ∧ b.Ok
/-- how far within one another -/
def Tr.deep : Tr → Nat
  | .leaf _ _ => 1
  | .n0 _ => 1
  | .n1 _ a => a.deep + 1
  | .n2 _ a b => max a.deep b.deep + 1
def Tr.size : Tr → Nat
  | .leaf _ _ => 1
  | .n0 _ => 1
  | .n1 _ a => a.size + 1
  | .n2 _ a b => a.size + b.size + 1
theorem size_deep : ∀ t : Tr, t.size + 1 ≤ 2 ^ t.deep
  | .leaf _ _ => Nat.le_refl _
  | .n0 _ => Nat.le_refl _
  | .n1 _ a => by
    have h := size_deep a
    have p : 2 ^ (a.deep + 1) = 2 ^ a.deep * 2 := Nat.pow_succ _ _
    show a.size + 1 + 1 ≤ 2 ^ (a.deep + 1)
    omega
  | .n2 _ a b => by
    have h := size_deep a
    have h2 := size_deep b
    have p : 2 ^ (max a.deep b.deep + 1) = 2 ^ (max a.deep b.deep) * 2 := Nat.pow_succ _ _
    have q1 : 2 ^ a.deep ≤ 2 ^ (max a.deep b.deep) := Nat.pow_le_pow_right (by decide) (Nat.le_max_left _ _)
    have q2 : 2 ^ b.deep ≤ 2 ^ (max a.deep b.deep) := Nat.pow_le_pow_right (by decide) (Nat.le_max_right _ _)
    show a.size + b.size + 1 + 1 ≤ 2 ^ (max a.deep b.deep + 1)
    omega
def Tr.names : Tr → List Str
  | .leaf w x => if w = "name" then (match x with | .str z => [z] | _ => []) else []
  | .n0 _ => []
  | .n1 _ a => a.names
  | .n2 _ a b => a.names ++ b.names
theorem names_size : ∀ t : Tr, t.names.length ≤ t.size
  | .leaf w x => by
    show (if w = "name" then (match x with | .str z => [z] | _ => []) else ([] : List Str)).length ≤ 1
    split
    · cases x <;> simp
    · simp
  | .n0 _ => Nat.zero_le _
  | .n1 _ a => Nat.le_succ_of_le (names_size a)
  | .n2 _ a b => by
    have h1 := names_size a
    have h2 := names_size b
    show (a.names ++ b.names).length ≤ a.size + b.size + 1
    rw [List.length_append]
    omega
/-! ### the pieces, parts ahead of the whole, from the left; each with how many all and some stand around it -/
def Tr.post : Tr → Nat → List (Tr × Nat)
  | .leaf w x, r => [(.leaf w x, r)]
  | .n0 w, r => [(.n0 w, r)]
  | .n1 w a, r => a.post (inner w r) ++ [(.n1 w a, r)]
  | .n2 w a b, r => a.post (inner w r) ++ b.post (inner w r) ++ [(.n2 w a b, r)]
theorem post_len : ∀ (t : Tr) (r : Nat), (t.post r).length = t.size
  | .leaf _ _, _ => rfl
  | .n0 _, _ => rfl
  | .n1 w a, r => by
    show (a.post _ ++ [_]).length = a.size + 1
    rw [List.length_append, post_len a]
    rfl
  | .n2 w a b, r => by
    show (a.post _ ++ b.post _ ++ [_]).length = a.size + b.size + 1
    rw [List.length_append, List.length_append, post_len a, post_len b]
    rfl
theorem post_kids (t : Tr) (r : Nat) : t.post r = (t.kids.flatMap fun a => a.post (inner t.word r)) ++ [(t, r)] := by
  cases t with
  | leaf w x => rfl
  | n0 w => rfl
  | n1 w a => simp [Tr.post, Tr.kids, Tr.word]
  | n2 w a b => simp [Tr.post, Tr.kids, Tr.word]
/-- what a whole list of pieces has for names -/
def leafName : Tr → List Str
  | .leaf w x => Tr.names (.leaf w x)
  | _ => []
theorem post_names : ∀ (t : Tr) (r : Nat), ((t.post r).flatMap fun (e : Tr × Nat) => leafName e.1) = t.names
  | .leaf w x, r => by simp [Tr.post, leafName]
  | .n0 w, r => by simp [Tr.post, leafName, Tr.names]
  | .n1 w a, r => by
    show ((a.post _ ++ [_]).flatMap fun (e : Tr × Nat) => leafName e.1) = a.names
    rw [List.flatMap_append, post_names a]
    simp [leafName]
  | .n2 w a b, r => by
    show ((a.post _ ++ b.post _ ++ [_]).flatMap fun (e : Tr × Nat) => leafName e.1) = a.names ++ b.names
    rw [List.flatMap_append, List.flatMap_append, post_names a, post_names b]
    simp [leafName]
theorem post_ok : ∀ (t : Tr) (r : Nat), t.Ok → ∀ e ∈ t.post r, e.1.Ok
  | .leaf w x, r, h, e, he => by
    rw [List.mem_singleton.mp he]
    exact h
  | .n0 w, r, h, e, he => by
    rw [List.mem_singleton.mp he]
    exact h
  | .n1 w a, r, h, e, he => by
    rcases List.mem_append.mp he with z | z
    · exact post_ok a _ h.2 e z
    · rw [List.mem_singleton.mp z]
      exact h
  | .n2 w a b, r, h, e, he => by
    rcases List.mem_append.mp he with z | z
    · rcases List.mem_append.mp z with z | z
      · exact post_ok a _ h.2.1 e z
      · exact post_ok b _ h.2.2 e z
    · rw [List.mem_singleton.mp z]
      exact h
theorem no_leaf {w : Str} (h : leafy w = false) (z : leafy w = true) : False := by
  rw [h] at z
  cases z
/-- a tree's own tuple -/
theorem At.view {H : Hp} {t : Tr} {v : V} (h : At H t v) (ok : t.Ok) : ∃ p vs, v = .ref p ∧ H p = some (.tup (.str t.word :: vs)) ∧ vs.length ≤ 2 ∧ (leafy t.word = false → All2 (At H) t.kids vs) ∧ (leafy t.word = true → ∃ x, t = .leaf t.word x ∧ vs = [x]) := by
  cases t with
  | leaf w x =>
    obtain ⟨p, e, h⟩ := h
    exact ⟨p, [x], e, h, Nat.le_succ 1, fun z => (no_leaf z ok.1).elim, fun _ => ⟨x, rfl, rfl⟩⟩
  | n0 w =>
    obtain ⟨p, e, h⟩ := h
    exact ⟨p, [], e, h, Nat.zero_le 2, fun _ => .nil, fun z => (no_leaf ok z).elim⟩
  | n1 w a =>
    obtain ⟨p, y, e, h, ha⟩ := h
    exact ⟨p, [y], e, h, Nat.le_succ 1, fun _ => .one ha, fun z => (no_leaf ok.1 z).elim⟩
  | n2 w a b =>
    obtain ⟨p, y, z, e, h, ha, hb⟩ := h
    exact ⟨p, [y, z], e, h, Nat.le_refl 2, fun _ => .cons ha (.one hb), fun q => (no_leaf ok.1 q).elim⟩
theorem kids_ok {t : Tr} (ok : t.Ok) : ∀ a ∈ t.kids, a.Ok := by
  cases t with
  | leaf w x => intro a h; cases h
  | n0 w => intro a h; cases h
  | n1 w a =>
    intro c h
    rw [List.mem_singleton.mp h]
    exact ok.2
  | n2 w a b =>
    intro c h
    rcases List.mem_cons.mp h with z | z
    · rw [z]
      exact ok.2.1
    · rw [List.mem_singleton.mp z]
      exact ok.2.2
/-! ### sorted lists of texts -/
theorem nodup_le : ∀ (ks ms : List Str), ks.Nodup → (∀ k ∈ ks, k ∈ ms) → ks.length ≤ ms.length
  | [], _, _, _ => Nat.zero_le _
  | k :: r, ms, nd, h => by
    obtain ⟨n1, n2⟩ := List.nodup_cons.mp nd
    have hk : k ∈ ms := h k List.mem_cons_self
    have q := nodup_le r (ms.erase k) n2 fun j hj => (List.mem_erase_of_ne (fun z : j = k => n1 (z ▸ hj))).mpr (h j (List.mem_cons_of_mem _ hj))
    rw [List.length_erase_of_mem hk] at q
    have pos : 0 < ms.length := List.length_pos_of_mem hk
    rw [List.length_cons]
    omega
def Le (a b : Str) : Prop := ltCps b.cps.toList a.cps.toList = false
theorem rising_pairs : ∀ (p : Str) (l : List Str), risingS p l = true → (∀ (a b c : Str), Le a b → Le b c → Le a c) → (p :: l).Pairwise Le
  | p, [], _, _ => List.pairwise_singleton _ _
  | p, x :: r, h, tr => by
    have h' : (!ltCps x.cps.toList p.cps.toList && risingS x r) = true := h
    rw [Bool.and_eq_true] at h'
    have q := rising_pairs x r h'.2 tr
    have px : Le p x := by
      unfold Le
      simpa using h'.1
    refine List.pairwise_cons.mpr ⟨fun y hy => ?_, q⟩
    rcases List.mem_cons.mp hy with z | z
    · rw [z]
      exact px
    · exact tr _ _ _ px (List.rel_of_pairwise_cons q z)
theorem le_iff (a b : Str) : Le a b ↔ a.cps.toList ≤ b.cps.toList := by
  unfold Le
  rw [ltCps_eq]
  simp
theorem le_trans3 (a b c : Str) (h1 : Le a b) (h2 : Le b c) : Le a c := by
  rw [le_iff] at *
  exact List.le_trans h1 h2
theorem le_anti (a b : Str) (h1 : Le a b) (h2 : Le b a) : a = b := by
  rw [le_iff] at *
  have q := List.le_antisymm h1 h2
  cases a with
  | mk x =>
    cases b with
    | mk y =>
      have q' : x.toList = y.toList := q
      rw [Array.toList_inj.mp q']
theorem one_order : ∀ (l m : List Str), l.Pairwise Le → m.Pairwise Le → l.Nodup → m.Nodup → (∀ x, x ∈ l ↔ x ∈ m) → l = m
  | [], [], _, _, _, _, _ => rfl
  | [], y :: m, _, _, _, _, h => by
    have := (h y).2 List.mem_cons_self
    cases this
  | x :: l, [], _, _, _, _, h => by
    have := (h x).1 List.mem_cons_self
    cases this
  | x :: l, y :: m, pl, pm, nl, nm, h => by
    obtain ⟨l1, l2⟩ := List.pairwise_cons.mp pl
    obtain ⟨m1, m2⟩ := List.pairwise_cons.mp pm
    obtain ⟨k1, k2⟩ := List.nodup_cons.mp nl
    obtain ⟨j1, j2⟩ := List.nodup_cons.mp nm
    have exy : x = y := by
      rcases List.mem_cons.mp ((h x).1 List.mem_cons_self) with z | z
      · exact z
      · rcases List.mem_cons.mp ((h y).2 List.mem_cons_self) with q | q
        · exact q.symm
        · exact le_anti _ _ (l1 y q) (m1 x z)
    subst exy
    rw [one_order l m l2 m2 k2 j2 fun z => ?_]
    constructor
    · intro hz
      rcases List.mem_cons.mp ((h z).1 (List.mem_cons_of_mem _ hz)) with e | e
      · exact absurd (e ▸ hz) k1
      · exact e
    · intro hz
      rcases List.mem_cons.mp ((h z).2 (List.mem_cons_of_mem _ hz)) with e | e
      · exact absurd (e ▸ hz) j1
      · exact e
theorem sorted_pairs : ∀ l : List Str, sortedS l = true → l.Pairwise Le
  | [], _ => List.Pairwise.nil
  | x :: r, h => rising_pairs x r h le_trans3
end Kf
set_option Elab.async false
set_option linter.all false
set_option maxRecDepth 100000
set_option maxHeartbeats 4000000
set_option pp.maxSteps 800
/-! Data of any form, how great they are; tuples that stand whatever is done to lists; small ways through a body. -/
namespace Kf
open PySem PySem.Spec PyProof.Rows L2 Sx
section
variable {K : PySem.W.Frag} {H H' : Hp}
theorem sqL_up {a : Addr} {xs : List V} (b : Same H H') (h : SqL K H a xs) : SqL K H' a xs := by
  rcases h with (h | ⟨o, h⟩) | h
  · exact .inl (.inl (b _ _ h))
  · exact .inl (.inr ⟨o, b _ _ h⟩)
  · exact .inr h
theorem sqT_up {a : Addr} {xs : List V} (b : Same H H') (h : SqT K H a xs) : SqT K H' a xs := by
  rcases h with (h | ⟨o, h⟩) | h
  · exact .inl (.inl (b _ _ h))
  · exact .inl (.inr ⟨o, b _ _ h⟩)
  · exact .inr h
mutual
theorem dp_up (s : Same H H') : ∀ (d : PyData) (v : V), Dp K H v d → Dp K H' v d
  | .none, _, h => by cases h; exact .non
  | .bool b, _, h => by cases h; exact .bl b
  | .int b, _, h => by cases h; exact .int b
  | .str b, _, h => by cases h; exact .str b
  | .list ds, _, h => by
    cases h with
    | lst h a => exact .lst (sqL_up s h) (dps_up s ds _ a)
  | .tuple ds, _, h => by
    cases h with
    | tup h a => exact .tup (sqT_up s h) (dps_up s ds _ a)
  | .dict _, _, h => by cases h
theorem dps_up (s : Same H H') : ∀ (ds : List PyData) (vs : List V), DpAll K H vs ds → DpAll K H' vs ds
  | [], _, h => by cases h; exact .nil
  | d :: ds, _, h => by
    cases h with
    | cons a b => exact .cons (dp_up s d _ a) (dps_up s ds _ b)
end
/-- the name of a thing's type -/
def tyN : PyData → String
  | .none => "NoneType"
  | .bool _ => "bool"
  | .int _ => "int"
  | .str _ => "str"
  | .list _ => "list"
  | .tuple _ => "tuple"
  | .dict _ => "dict"
theorem dp_ty {v : V} {d : PyData} (h : Dp K H v d) : TyX K H v (.type (tyN d)) := by
  cases h with
  | non => exact .base .non
  | bl b => exact .base (.bl b)
  | int i => exact .base (.int i)
  | str z => exact .base (.str z)
  | lst h _ =>
    rcases h with (h | ⟨o, h⟩) | ⟨o, its, n, e, c, _⟩
    · exact .base (.lst h)
    · exact .base (.frz h)
    · exact .kList e c
  | tup h _ =>
    rcases h with (h | ⟨o, h⟩) | ⟨o, its, n, e, c, _⟩
    · exact .base (.tup h)
    · exact .fTuple h
    · exact .kTuple e c
def isI : PyData → Bool
  | .int _ | .bool _ => true
  | _ => false
def isB : PyData → Bool
  | .bool _ => true
  | _ => false
def isS : PyData → Bool
  | .str _ => true
  | _ => false
def isTu : PyData → Bool
  | .tuple _ => true
  | _ => false
theorem kit_i (d : PyData) : PySem.W.kitOne K (.type (tyN d)) (.type "int") = some (isI d) := by
  cases d with
  | none => exact kit_ty (show kitB "NoneType" "int" = some false by decide +kernel)
  | bool _ => exact kit_ty (show kitB "bool" "int" = some true by decide +kernel)
  | int _ => exact kit_ty (show kitB "int" "int" = some true by decide +kernel)
  | str _ => exact kit_ty (show kitB "str" "int" = some false by decide +kernel)
  | list _ => exact kit_ty (show kitB "list" "int" = some false by decide +kernel)
  | tuple _ => exact kit_ty (show kitB "tuple" "int" = some false by decide +kernel)
  | dict _ => exact kit_ty (show kitB "dict" "int" = some false by decide +kernel)
theorem kit_b (d : PyData) : PySem.W.kitOne K (.type (tyN d)) (.type "bool") = some (isB d) := by
  cases d with
  | none => exact kit_ty (show kitB "NoneType" "bool" = some false by decide +kernel)
  | bool _ => exact kit_ty (show kitB "bool" "bool" = some true by decide +kernel)
  | int _ => exact kit_ty (show kitB "int" "bool" = some false by decide +kernel)
  | str _ => exact kit_ty (show kitB "str" "bool" = some false by decide +kernel)
  | list _ => exact kit_ty (show kitB "list" "bool" = some false by decide +kernel)
  | tuple _ => exact kit_ty (show kitB "tuple" "bool" = some false by decide +kernel)
  | dict _ => exact kit_ty (show kitB "dict" "bool" = some false by decide +kernel)
theorem kit_s (d : PyData) : PySem.W.kitOne K (.type (tyN d)) (.type "str") = some (isS d) := by
  cases d with
  | none => exact kit_ty (show kitB "NoneType" "str" = some false by decide +kernel)
  | bool _ => exact kit_ty (show kitB "bool" "str" = some false by decide +kernel)
  | int _ => exact kit_ty (show kitB "int" "str" = some false by decide +kernel)
  | str _ => exact kit_ty (show kitB "str" "str" = some true by decide +kernel)
  | list _ => exact kit_ty (show kitB "list" "str" = some false by decide +kernel)
  | tuple _ => exact kit_ty (show kitB "tuple" "str" = some false by decide +kernel)
  | dict _ => exact kit_ty (show kitB "dict" "str" = some false by decide +kernel)
theorem kit_tu (d : PyData) : PySem.W.kitOne K (.type (tyN d)) (.type "tuple") = some (isTu d) := by
  cases d with
  | none => exact kit_ty (show kitB "NoneType" "tuple" = some false by decide +kernel)
  | bool _ => exact kit_ty (show kitB "bool" "tuple" = some false by decide +kernel)
  | int _ => exact kit_ty (show kitB "int" "tuple" = some false by decide +kernel)
  | str _ => exact kit_ty (show kitB "str" "tuple" = some false by decide +kernel)
  | list _ => exact kit_ty (show kitB "list" "tuple" = some false by decide +kernel)
  | tuple _ => exact kit_ty (show kitB "tuple" "tuple" = some true by decide +kernel)
  | dict _ => exact kit_ty (show kitB "dict" "tuple" = some false by decide +kernel)
theorem dps_len : ∀ {vs : List V} {ds : List PyData}, DpAll K H vs ds → vs.length = ds.length
  | _, _, .nil => rfl
  | _, _, .cons _ t => congrArg Nat.succ (dps_len t)
end
/-! ### in a tuple -/
section
variable {X : Cx}
def rInDT (K : PySem.W.Frag) : R2 := fun x y H Q => ∃ d ds, Dp K H x d ∧ Dp K H y (.tuple ds) ∧ SeqAt.shaped d = true ∧ SeqAt.shaped (.list ds) = true ∧ PyData.depthAll ds = 0 ∧ Q (.bl (ds.any fun z => PyData.eqv z d)) H
theorem op_inDT (hu : X.A.units + 64 < cLine) : OpR X (compareOp .In) (rInDT X.K) := by
  intro pins s σ H x y v u Q I rx ry h
  obtain ⟨d, ds, hd, he, sd, se, z0, q⟩ := h
  obtain ⟨as, r1⟩ := Dp.reads I d x v hd rx
  obtain ⟨bs, r2⟩ := Dp.reads I (.tuple ds) y u he ry
  exact SeqAt.in_tuple_reads r2 r1 (SeqAt.canLay_of_shaped se) (SeqAt.canLay_of_shaped sd) (by rw [z0, Nat.zero_min]; omega) ⟨.bl _, H, I, rfl, q⟩
def rNotInDT (K : PySem.W.Frag) : R2 := fun x y H Q => ∃ d ds, Dp K H x d ∧ Dp K H y (.tuple ds) ∧ SeqAt.shaped d = true ∧ SeqAt.shaped (.list ds) = true ∧ PyData.depthAll ds = 0 ∧ Q (.bl (!ds.any fun z => PyData.eqv z d)) H
theorem op_notInDT (hu : X.A.units + 64 < cLine) : OpR X (compareOp .NotIn) (rNotInDT X.K) := by
  intro pins s σ H x y v u Q I rx ry h
  obtain ⟨d, ds, hd, he, sd, se, z0, q⟩ := h
  obtain ⟨as, r1⟩ := Dp.reads I d x v hd rx
  obtain ⟨bs, r2⟩ := Dp.reads I (.tuple ds) y u he ry
  exact SeqAt.notIn_tuple_reads r2 r1 (SeqAt.canLay_of_shaped se) (SeqAt.canLay_of_shaped sd) (by rw [z0, Nat.zero_min]; omega) ⟨.bl _, H, I, rfl, q⟩
end
/-! ### data of any depth: ==, !=, repr -/
section
variable {X : Cx}
def rEqW (K : PySem.W.Frag) : R2 := fun x y H Q => ∃ d e, Dp K H x d ∧ Dp K H y e ∧ d.canLay0 = true ∧ e.canLay0 = true ∧ d.depth ≤ 120 ∧ Q (.bl (PyData.eqv d e)) H
def rNeW (K : PySem.W.Frag) : R2 := fun x y H Q => ∃ d e, Dp K H x d ∧ Dp K H y e ∧ d.canLay0 = true ∧ e.canLay0 = true ∧ d.depth ≤ 120 ∧ Q (.bl (!PyData.eqv d e)) H
theorem op_eqW (hu : X.A.units + 130 < cLine) : OpR X (compareOp .Eq) (rEqW X.K) := by
  intro pins s σ H x y v u Q I rx ry h
  obtain ⟨d, e, hd, he, sd, se, dd, q⟩ := h
  obtain ⟨as, r1⟩ := Dp.reads I d x v hd rx
  obtain ⟨bs, r2⟩ := Dp.reads I e y u he ry
  exact SeqAt.compareEq_reads r1 r2 sd se (by omega) ⟨.bl _, H, I, rfl, q⟩
theorem op_neW (hu : X.A.units + 130 < cLine) : OpR X (compareOp .NotEq) (rNeW X.K) := by
  intro pins s σ H x y v u Q I rx ry h
  obtain ⟨d, e, hd, he, sd, se, dd, q⟩ := h
  obtain ⟨as, r1⟩ := Dp.reads I d x v hd rx
  obtain ⟨bs, r2⟩ := Dp.reads I e y u he ry
  exact SeqAt.compareNe_reads r1 r2 sd se (by omega) ⟨.bl _, H, I, rfl, q⟩
def rInW (K : PySem.W.Frag) : R2 := fun x y H Q => ∃ d ds, Dp K H x d ∧ Dp K H y (.tuple ds) ∧ d.canLay0 = true ∧ PyData.canLayAll0 ds = true ∧ min (PyData.depthAll ds) d.depth ≤ 120 ∧ Q (.bl (ds.any fun z => PyData.eqv z d)) H
theorem op_inW (hu : X.A.units + 130 < cLine) : OpR X (compareOp .In) (rInW X.K) := by
  intro pins s σ H x y v u Q I rx ry h
  obtain ⟨d, ds, hd, he, sd, se, z0, q⟩ := h
  obtain ⟨as, r1⟩ := Dp.reads I d x v hd rx
  obtain ⟨bs, r2⟩ := Dp.reads I (.tuple ds) y u he ry
  exact SeqAt.in_tuple_reads r2 r1 se sd (by omega) ⟨.bl _, H, I, rfl, q⟩
def rNotInW (K : PySem.W.Frag) : R2 := fun x y H Q => ∃ d ds, Dp K H x d ∧ Dp K H y (.tuple ds) ∧ d.canLay0 = true ∧ PyData.canLayAll0 ds = true ∧ min (PyData.depthAll ds) d.depth ≤ 120 ∧ Q (.bl (!ds.any fun z => PyData.eqv z d)) H
theorem op_notInW (hu : X.A.units + 130 < cLine) : OpR X (compareOp .NotIn) (rNotInW X.K) := by
  intro pins s σ H x y v u Q I rx ry h
  obtain ⟨d, ds, hd, he, sd, se, z0, q⟩ := h
  obtain ⟨as, r1⟩ := Dp.reads I d x v hd rx
  obtain ⟨bs, r2⟩ := Dp.reads I (.tuple ds) y u he ry
  exact SeqAt.notIn_tuple_reads r2 r1 se sd (by omega) ⟨.bl _, H, I, rfl, q⟩
end
abbrev NmOk (z : Str) : Prop := z.cps.all (· < 0x110000) = true
section
variable {K : PySem.W.Frag} {H H' : Hp}
theorem dps_app : ∀ {vs ws : List V} {ds es : List PyData}, DpAll K H vs ds → DpAll K H ws es → DpAll K H (vs ++ ws) (ds ++ es)
  | _, _, _, _, .nil, h => h
  | _, _, _, _, .cons a b, h => .cons a (dps_app b h)
theorem dps_take : ∀ (k : Nat) {vs : List V} {ds : List PyData}, DpAll K H vs ds → DpAll K H (vs.take k) (ds.take k)
  | 0, _, _, _ => .nil
  | k + 1, _, _, .nil => .nil
  | k + 1, _, _, .cons a b => .cons a (dps_take k b)
theorem dps_drop : ∀ (k : Nat) {vs : List V} {ds : List PyData}, DpAll K H vs ds → DpAll K H (vs.drop k) (ds.drop k)
  | 0, _, _, h => h
  | k + 1, _, _, .nil => .nil
  | k + 1, _, _, .cons a b => dps_drop k b
theorem dps_get : ∀ {vs : List V} {ds : List PyData} {i : Nat} {v : V}, DpAll K H vs ds → vs[i]? = some v → ∃ d, ds[i]? = some d ∧ Dp K H v d
  | _, _, _, _, .nil, h => by simp at h
  | _, _, 0, _, .cons a _, h => ⟨_, rfl, (Option.some.inj h) ▸ a⟩
  | _, _, i + 1, _, .cons _ t, h => dps_get (i := i) t (by simpa using h)
theorem dps_mem {vs : List V} {ds : List PyData} {v : V} (h : DpAll K H vs ds) (m : v ∈ vs) : ∃ d, d ∈ ds ∧ Dp K H v d := by
  obtain ⟨i, lt, e⟩ := List.getElem_of_mem m
  obtain ⟨d, e2, h2⟩ := dps_get h (by rw [List.getElem?_eq_getElem lt, e])
  exact ⟨d, List.mem_of_getElem? e2, h2⟩
end
/-! ### how great -/
mutual
def ats : PyData → Bool
  | .tuple ds => atss ds
  | .list ds => atss ds
  | .none => true
  | .bool _ => true
  | .int i => decide (i.natAbs < 10 ^ 62)
  | .str z => z.cps.all (· < 0x110000) && decide (z.length ≤ 10)
  | .dict _ => false
def atss : List PyData → Bool
  | [] => true
  | d :: ds => ats d && atss ds
end
mutual
def psz : PyData → Nat
  | .tuple ds => 1 + pszs ds
  | .list ds => 1 + pszs ds
  | .none => 1
  | .bool _ => 1
  | .int _ => 1
  | .str _ => 1
  | .dict _ => 1
def pszs : List PyData → Nat
  | [] => 0
  | d :: ds => psz d + pszs ds
end
theorem psz_pos : ∀ d, 1 ≤ psz d
  | .tuple ds => Nat.le_add_right _ _
  | .list ds => Nat.le_add_right _ _
  | .none => Nat.le_refl _
  | .bool _ => Nat.le_refl _
  | .int _ => Nat.le_refl _
  | .str _ => Nat.le_refl _
  | .dict _ => Nat.le_refl _
theorem pszs_app : ∀ xs ys : List PyData, pszs (xs ++ ys) = pszs xs + pszs ys
  | [], ys => (Nat.zero_add _).symm
  | x :: xs, ys => by
    have z := pszs_app xs ys
    show psz x + pszs (xs ++ ys) = psz x + pszs xs + pszs ys
    omega
theorem atss_app : ∀ xs ys : List PyData, atss (xs ++ ys) = (atss xs && atss ys)
  | [], ys => rfl
  | x :: xs, ys => by
    have z := atss_app xs ys
    show (ats x && atss (xs ++ ys)) = (ats x && atss xs && atss ys)
    rw [z, Bool.and_assoc]
theorem atss_mem : ∀ {ds : List PyData} {d : PyData}, atss ds = true → d ∈ ds → ats d = true
  | x :: xs, d, h, m => by
    have h2 : (ats x && atss xs) = true := h
    rw [Bool.and_eq_true] at h2
    rcases List.mem_cons.mp m with rfl | m
    · exact h2.1
    · exact atss_mem h2.2 m
theorem atss_of : ∀ {ds : List PyData}, (∀ d ∈ ds, ats d = true) → atss ds = true
  | [], _ => rfl
  | x :: xs, h => by
    show (ats x && atss xs) = true
    rw [h x List.mem_cons_self, atss_of fun d m => h d (List.mem_cons_of_mem _ m)]
    rfl
theorem pszs_mem : ∀ {ds : List PyData} {d : PyData}, d ∈ ds → psz d ≤ pszs ds
  | x :: xs, d, m => by
    show psz d ≤ psz x + pszs xs
    rcases List.mem_cons.mp m with rfl | m
    · exact Nat.le_add_right _ _
    · exact Nat.le_trans (pszs_mem m) (Nat.le_add_left _ _)
theorem dep_mem : ∀ {ds : List PyData} {d : PyData}, d ∈ ds → d.depth ≤ PyData.depthAll ds
  | x :: xs, d, m => by
    show d.depth ≤ max x.depth (PyData.depthAll xs)
    rcases List.mem_cons.mp m with rfl | m
    · exact Nat.le_max_left _ _
    · exact Nat.le_trans (dep_mem m) (Nat.le_max_right _ _)
theorem dep_of : ∀ {ds : List PyData} {n : Nat}, (∀ d ∈ ds, d.depth ≤ n) → PyData.depthAll ds ≤ n
  | [], n, _ => Nat.zero_le _
  | x :: xs, n, h => by
    show max x.depth (PyData.depthAll xs) ≤ n
    have a := h x List.mem_cons_self
    have b := dep_of fun d m => h d (List.mem_cons_of_mem _ m)
    omega
theorem len_pszs : ∀ ds : List PyData, ds.length ≤ pszs ds
  | [] => Nat.le_refl _
  | x :: xs => by
    have a := len_pszs xs
    have b := psz_pos x
    show xs.length + 1 ≤ psz x + pszs xs
    omega
structure Fit (d : PyData) (m : Nat) : Prop where
  lay : d.canLay0 = true
  show_ : d.showable = true
  dict : d.hasDict = false
  len : d.shown.length ≤ m
theorem fit_int {i : Int} (h : i.natAbs < 10 ^ 62) : Fit (.int i) 127 := by
  refine ⟨rfl, decide_eq_true ?_, rfl, ?_⟩
  · by_cases z : i.natAbs = 0
    · rw [z]
      decide
    · refine (Nat.log2_lt z).2 ?_
      exact Nat.lt_of_lt_of_le h (Nat.le_trans (show 10 ^ 62 ≤ 2 ^ 208 by decide) (Nat.pow_le_pow_right (by decide) (by decide)))
  · have e := int_text_length_le10 (k := 62) (by decide) h
    show (Str.ofString (toString i)).length ≤ 127
    rw [PySem.ofString_length]
    exact Nat.le_trans e (by decide)
theorem fit_str {z : Str} (h1 : NmOk z) (h2 : z.length ≤ 10) : Fit (.str z) 127 := by
  refine ⟨h1, rfl, rfl, ?_⟩
  have all : ∀ c ∈ z.cps.toList, c < 16 ^ 8 := fun c hc => by
    have q := (Array.all_eq_true_iff_forall_mem.mp h1) c (Array.mem_toList_iff.mp hc)
    have q2 : c < 0x110000 := by simpa using q
    exact Nat.lt_of_lt_of_le q2 (by decide)
  have y := StrLaws.reprText_len z all
  have e : (PyData.shown (.str z)).length = (reprText z).length := rfl
  rw [e]
  omega
mutual
theorem fit : ∀ d : PyData, ats d = true → Fit d (130 * psz d - 3)
  | .none, _ => ⟨rfl, rfl, rfl, by decide +kernel⟩
  | .bool b, _ => ⟨rfl, rfl, rfl, by cases b <;> decide +kernel⟩
  | .int i, h => fit_int (of_decide_eq_true h)
  | .str z, h => by
    have h2 : (z.cps.all (· < 0x110000) && decide (z.length ≤ 10)) = true := h
    rw [Bool.and_eq_true] at h2
    exact fit_str h2.1 (of_decide_eq_true h2.2)
  | .dict _, h => (Bool.false_ne_true h).elim
  | .tuple ds, h => by
    obtain ⟨a1, a2, a3, a4, a5⟩ := fits ds h
    have l2 := tupleText_len_le (PyData.shownAll ds)
    have e : psz (.tuple ds) = 1 + pszs ds := rfl
    refine ⟨a1, a2, a3, ?_⟩
    show (tupleText (PyData.shownAll ds)).length ≤ _
    omega
  | .list ds, h => by
    obtain ⟨a1, a2, a3, a4, a5⟩ := fits ds h
    have l1 := listText_len_le (PyData.shownAll ds)
    have e : psz (.list ds) = 1 + pszs ds := rfl
    refine ⟨a1, a2, a3, ?_⟩
    show (listText (PyData.shownAll ds)).length ≤ _
    omega
theorem fits : ∀ ds : List PyData, atss ds = true → PyData.canLayAll0 ds = true ∧ PyData.showableAll ds = true ∧ PyData.hasDictAll ds = false ∧ ((PyData.shownAll ds).map (·.length)).sum + 3 * ds.length ≤ 130 * pszs ds ∧ (PyData.shownAll ds).length = ds.length
  | [], _ => ⟨rfl, rfl, rfl, Nat.le_refl _, rfl⟩
  | d :: ds, h => by
    have h2 : (ats d && atss ds) = true := h
    rw [Bool.and_eq_true] at h2
    obtain ⟨b1, b2, b3, b4⟩ := fit d h2.1
    obtain ⟨a1, a2, a3, a4, a5⟩ := fits ds h2.2
    have p := psz_pos d
    refine ⟨?_, ?_, ?_, ?_, ?_⟩
    · show (d.canLay0 && PyData.canLayAll0 ds) = true
      rw [b1, a1]
      rfl
    · show (d.showable && PyData.showableAll ds) = true
      rw [b2, a2]
      rfl
    · show (d.hasDict || PyData.hasDictAll ds) = false
      rw [b3, a3]
      rfl
    · show d.shown.length + ((PyData.shownAll ds).map (·.length)).sum + 3 * (ds.length + 1) ≤ 130 * (psz d + pszs ds)
      omega
    · show (PyData.shownAll ds).length + 1 = ds.length + 1
      rw [a5]
end
/-- a thing: its atoms, how deep, how many parts at most -/
structure Th (n m : Nat) (d : PyData) : Prop where
  ats : ats d = true
  deep : d.depth ≤ n
  sz : psz d ≤ m
theorem Th.mono {n m n2 m2 : Nat} {d : PyData} (h : Th n m d) (a : n ≤ n2) (b : m ≤ m2) : Th n2 m2 d := ⟨h.ats, Nat.le_trans h.deep a, Nat.le_trans h.sz b⟩
theorem Th.line {n m : Nat} {d : PyData} (h : Th n m d) (b : m ≤ 4000) : d.shown.length ≤ sizeLine := by
  have a := (fit d h.ats).len
  have c := h.sz
  exact Nat.le_trans (m := 520000) (by omega) (by decide)
theorem dep_tup (ds : List PyData) : (PyData.tuple ds).depth = PyData.depthAll ds + 1 := rfl
theorem dep_lst (ds : List PyData) : (PyData.list ds).depth = PyData.depthAll ds + 1 := rfl
theorem psz_tup (ds : List PyData) : psz (.tuple ds) = 1 + pszs ds := rfl
theorem psz_lst (ds : List PyData) : psz (.list ds) = 1 + pszs ds := rfl
theorem cut_one (x : V) (r : List V) : cutV (x :: r) (some 1) none = r := by
  unfold cutV
  have e1 : HT.sIx (x :: r).length 0 (some 1) = 1 := by
    rw [show HT.sIx (x :: r).length 0 (some 1) = min 1 (x :: r).length from HT.sIx_nat _ 0 1, List.length_cons]
    omega
  rw [e1, HT.sIx_none]
  show List.take ((x :: r).length - 1) r = r
  rw [List.length_cons, Nat.add_sub_cancel]
  exact List.take_length
theorem cut_not (x : V) (r : List V) : ¬ (HT.sIx (x :: r).length 0 (some 1) = 0 ∧ HT.sIx (x :: r).length (x :: r).length none = (x :: r).length) := by
  intro h
  have e1 : HT.sIx (x :: r).length 0 (some 1) = 1 := by
    rw [show HT.sIx (x :: r).length 0 (some 1) = min 1 (x :: r).length from HT.sIx_nat _ 0 1, List.length_cons]
    omega
  rw [e1] at h
  exact absurd h.1 (by decide)
theorem same_own {H H1 : Hp} {p : Addr} {o : HO} (s : Same H H1) (n : H p = none) : Same H (upd H1 p o) := fun b u q => by
  rw [upd_ne (ne_of_none q n)]
  exact s b u q
section
variable {K : PySem.W.Frag} {H : Hp}
theorem dps_rev : ∀ {vs : List V} {ds : List PyData}, DpAll K H vs ds → DpAll K H vs.reverse ds.reverse
  | _, _, .nil => .nil
  | _, _, .cons a b => by
    rw [List.reverse_cons, List.reverse_cons]
    exact dps_app (dps_rev b) (.cons a .nil)
theorem dps_last {vs : List V} {v : V} {ds : List PyData} (h : DpAll K H (vs ++ [v]) ds) : ∃ es e, ds = es ++ [e] ∧ DpAll K H vs es ∧ Dp K H v e := by
  have q := dps_rev h
  rw [List.reverse_append, List.reverse_singleton, List.singleton_append] at q
  generalize hr : ds.reverse = r at q
  cases q with
  | @cons _ _ e es a b =>
    have b2 := dps_rev b
    rw [List.reverse_reverse] at b2
    refine ⟨es.reverse, e, ?_, b2, a⟩
    have z := congrArg List.reverse hr
    rw [List.reverse_reverse, List.reverse_cons] at z
    exact z
end
theorem pszs_rev : ∀ xs : List PyData, pszs xs.reverse = pszs xs
  | [] => rfl
  | x :: xs => by
    rw [List.reverse_cons, pszs_app, pszs_rev xs]
    show pszs xs + (psz x + 0) = psz x + pszs xs
    omega
theorem head_at (x : V) (us : List V) : atI (x :: us) 0 = some x := atI_nat (j := 0) rfl
/-- the tuples alone -/
def tups (H : Hp) : Hp := fun a => match H a with
  | some (.tup xs) => some (.tup xs)
  | _ => none
theorem tups_is {H : Hp} {a : Addr} {o : HO} (h : tups H a = some o) : ∃ xs, o = .tup xs ∧ H a = some (.tup xs) := by
  unfold tups at h
  split at h
  · rename_i xs e
    cases h
    exact ⟨xs, rfl, e⟩
  · cases h
theorem tups_of {H : Hp} {a : Addr} {xs : List V} (h : H a = some (.tup xs)) : tups H a = some (.tup xs) := by
  unfold tups
  rw [h]
theorem tups_le {H H' : Hp} (k : Tups H H') : Same (tups H) (tups H') := fun a o e => by
  obtain ⟨xs, rfl, h⟩ := tups_is e
  exact tups_of (k _ _ h)
theorem tups_in {H : Hp} : Same (tups H) H := fun a o e => by
  obtain ⟨xs, rfl, h⟩ := tups_is e
  exact h
section
variable {K : PySem.W.Frag} {C : Addr} {H0 H : Hp} {p dx l : Addr} {rs : List Addr} {v : V}
theorem tups_lst {q : Addr} {xs : List V} {o : HO} (h : H q = some (.lst xs)) : Tups H (upd H q o) := tups_put fun ys e => by
  rw [h] at e
  cases e
theorem tups_ins {q C dx : Addr} {fs : List (Str × V)} {o : HO} (h : H q = some (.ins C dx fs)) : Tups H (upd H q o) := tups_put fun ys e => by
  rw [h] at e
  cases e
theorem all2_mono2 {α β : Type} {F G : α → β → Prop} : ∀ {xs : List α} {ys : List β}, (∀ a ∈ xs, ∀ b, F a b → G a b) → All2 F xs ys → All2 G xs ys
  | _, _, _, .nil => .nil
  | _, _, h, .cons r t => .cons (h _ List.mem_cons_self _ r) (all2_mono2 (fun a ha => h a (List.mem_cons_of_mem _ ha)) t)
theorem all2_mem {α β : Type} {F : α → β → Prop} : ∀ {xs : List α} {ys : List β} {a : α}, All2 F xs ys → a ∈ xs → ∃ b, F a b
  | _, _, _, .nil, h => nomatch h
  | _, _, _, .cons r t, h => by
    rcases List.mem_cons.mp h with rfl | h
    · exact ⟨_, r⟩
    · exact all2_mem t h
end
theorem eqS {a b : Str} {A B : Prop} (t : a = b → A) (f : a ≠ b → B) : if decide (V.str a = V.str b) = true then A else B := by
  by_cases e : a = b
  · rw [if_pos (by rw [e]; exact decide_eq_true rfl)]
    exact t e
  · rw [if_neg (fun z => e (by injection of_decide_eq_true z))]
    exact f e
theorem V_str (a b : Str) : decide (V.str a = V.str b) = decide (a = b) := by
  by_cases e : a = b
  · rw [e, decide_eq_true rfl, decide_eq_true rfl]
  · rw [decide_eq_false e, decide_eq_false fun z => e (by injection z)]
theorem andWays {c1 : Bool} {M : Prop} (c2 : Bool) {B R : Prop} (m : c1 = true → (if c2 = true then B else R) → M) (t : (c1 && c2) = true → B) (f : ¬ (c1 && c2) = true → R) : if c1 = true then M else (if false = true then B else R) := by
  cases c1 with
  | false =>
    rw [if_neg Bool.false_ne_true, if_neg Bool.false_ne_true]
    exact f Bool.false_ne_true
  | true =>
    rw [if_pos rfl]
    refine m rfl ?_
    cases c2 with
    | true => exact iteT (t rfl)
    | false => exact iteF (f Bool.false_ne_true)
theorem joinS {C G : L2.St → Hp → Prop} {M : Prop} (main : (∀ σ H, C σ H → G σ H) → M) (rest : ∀ σ H, C σ H → G σ H) : M := main rest
theorem no_calls {P : Program} {w : World} {K : PySem.W.Frag} {mg : Str → Option Value} {base : Heap} {f : Addr} {fd : FuncData} {k : Nat} {ps : List Str} {sp : Sp} (no : ∀ vs H Q E, ¬ sp vs H Q E) : FnOk P w K mg base CX0 k f fd ps sp :=
  ⟨fun vs H Q E h => absurd h (no vs H Q E), fun A outer s H args us vs Q E _ _ _ _ h => absurd h (no vs H Q E)⟩

theorem ways2 {C1 C2 G1 G2 M : Prop} (main : (C1 → G1) → (C2 → G2) → M) (b : C1 → G1) (r : C2 → G2) : M := main b r
theorem few_of' {n : Nat} (h : n ≤ 200000) : n < sizeLine := Nat.lt_of_le_of_lt h (by decide)
theorem cut63 {xs : List V} (h : xs.length ≤ 63) : cutV xs none (some 63) = xs := by
  unfold cutV
  have e1 : HT.sIx xs.length xs.length (some 63) = min 63 xs.length := HT.sIx_nat _ _ 63
  rw [e1, HT.sIx_none]
  show List.take (min 63 xs.length - 0) (xs.drop 0) = xs
  rw [List.drop_zero]
  exact List.take_of_length_le (by omega)
/-- data of tuples that stand -/
def Dt (K : PySem.W.Frag) (H : Hp) (v : V) (d : PyData) : Prop := Dp K (tups H) v d
def DtAll (K : PySem.W.Frag) (H : Hp) (vs : List V) (ds : List PyData) : Prop := DpAll K (tups H) vs ds
section
variable {K : PySem.W.Frag} {H H' : Hp}
theorem Dt.keep {v : V} {d : PyData} (h : Dt K H v d) (k : Tups H H') : Dt K H' v d := dp_up (tups_le k) _ _ h
theorem DtAll.keep {vs : List V} {ds : List PyData} (h : DtAll K H vs ds) (k : Tups H H') : DtAll K H' vs ds := dps_up (tups_le k) _ _ h
theorem Dt.dp {v : V} {d : PyData} (h : Dt K H v d) : Dp K H v d := dp_up tups_in _ _ h
theorem DtAll.dp {vs : List V} {ds : List PyData} (h : DtAll K H vs ds) : DpAll K H vs ds := dps_up tups_in _ _ h
theorem sqT_tups {a : Addr} {xs : List V} (h : H a = some (.tup xs)) : SqT K (tups H) a xs := .inl (.inl (tups_of h))
theorem dt_tup {a : Addr} {xs : List V} {ds : List PyData} (h : H a = some (.tup xs)) (g : DtAll K H xs ds) : Dt K H (.ref a) (.tuple ds) := .tup (sqT_tups h) g
/-- a tuple's parts -/
theorem Dt.view {v : V} {ds : List PyData} (h : Dt K H v (.tuple ds)) : ∃ a xs, v = .ref a ∧ SqT K H a xs ∧ DtAll K H xs ds := by
  cases h with
  | @tup a xs _ hs ha => exact ⟨a, xs, rfl, sqT_up tups_in hs, ha⟩
theorem sqT_keep {a : Addr} {xs : List V} (k : Tups H H') (h : SqT K (tups H) a xs) : SqT K (tups H') a xs := sqT_up (tups_le k) h
end
theorem but_tups {f : Addr} {H H' : Hp} (b : But f H H') (n : ∀ xs, H f ≠ some (.tup xs)) : Tups H H' := fun c xs e => b _ _ (fun z => n xs (by rw [← z]; exact e)) e
end Kf
set_option Elab.async false
set_option linter.all false
set_option maxRecDepth 100000
set_option maxHeartbeats 4000000
/-! The defs by which the law makes its inputs. -/
namespace Kf
open PySem PySem.Spec PyProof.Rows L2 Sx
def top (i : Nat) : Stmt := PySem.Challenge.pw_prooffruit_k42_what_bears_a_saying.main.body.getD i (.Pass ⟨0, 0, 0, 0⟩)
abbrev sFeed : Stmt := top 36
abbrev sTake : Stmt := top 37
abbrev sPick : Stmt := top 38
theorem scFeed : FnScope ["script", "k", "seed", "digits"] ["script", "k"] (defScope sFeed) := ⟨rfl, rfl, rfl, by decide +kernel, rfl, by decide +kernel, by decide +kernel⟩
theorem scTake : FnScope ["feed", "many", "found"] ["feed", "many"] (defScope sTake) := ⟨rfl, rfl, rfl, by decide +kernel, rfl, by decide +kernel, by decide +kernel⟩
theorem scPick : FnScope ["feed", "some"] ["feed", "some"] (defScope sPick) := ⟨rfl, rfl, rfl, by decide +kernel, rfl, by decide +kernel, by decide +kernel⟩
/-- the feed at f: two numbers, the second below 2 ^ 61 - 1 -/
def FeedAt (H : Hp) (f : Addr) : Prop := ∃ a b : Int, H f = some (.lst [.int a, .int b]) ∧ 0 ≤ b ∧ b < 2305843009213693951
theorem FeedAt.keep {H H' : Hp} {f g : Addr} (h : FeedAt H f) (n : f ≠ g) (b : But g H H') : FeedAt H' f := by
  obtain ⟨x, y, e, q⟩ := h
  exact ⟨x, y, b _ _ n e, q⟩
theorem FeedAt.same {H H' : Hp} {f : Addr} (h : FeedAt H f) (b : Same H H') : FeedAt H' f := by
  obtain ⟨x, y, e, q⟩ := h
  exact ⟨x, y, b _ _ e, q⟩
theorem FeedAt.tups {H H' : Hp} {f : Addr} (h : FeedAt H f) (b : But f H H') : Tups H H' := by
  obtain ⟨x, y, e, q⟩ := h
  exact b.tups e
/-- a list of the call's own -/
theorem FeedAt.ne {H : Hp} {f p : Addr} (h : FeedAt H f) (e : H p = none) : p ≠ f := fun z => by
  obtain ⟨x, y, e2, q⟩ := h
  rw [z, e2] at e
  cases e
section
variable {P : Program} {w : World} {K : PySem.W.Frag} {mg : Str → Option Value} {base : Heap}
/-! ### _law_feed -/
def spFeed (K : PySem.W.Frag) : Sp := fun vs H Q _ => ∃ (a : Addr) (ns : List Int) (k : Nat), vs = [.ref a, .int (k : Int)] ∧ SqL K H a (ns.map V.int) ∧ (∀ z ∈ ns, Builtin.Int.intBits z ≤ 1048576) ∧ k ≤ 100 ∧
  ∀ p H', Same H H' → H p = none → FeedAt H' p → Q (.ref p) H'
theorem notM : (2305843009213693951 : Int) ≠ 0 := by decide
theorem modM (i : Int) : 0 ≤ i.fmod 2305843009213693951 ∧ i.fmod 2305843009213693951 < 2305843009213693951 := by
  rw [Int.fmod_eq_emod_of_nonneg _ (by decide)]
  exact ⟨Int.emod_nonneg _ (by decide), Int.emod_lt_of_pos _ (by decide)⟩
theorem seed_ok {z : Int} (h : Builtin.Int.intBits z ≤ 1048576) : CMulX z 6364136223846793005 := by
  unfold CMulX
  have e : Builtin.Int.intBits 6364136223846793005 = 63 := by decide +kernel
  rw [e]
  omega
theorem ok_feed {f : Addr} {fd : FuncData} {j : Nat} (F : Fun K "_law_feed" "_law_feed" sFeed f fd) (ml : mg "len" = none) (ma : mg "abs" = none) : FnOk P w K mg base CX0 (j + 1) f fd ["script", "k"] (spFeed K) := by
  refine F.ok scFeed (fun vs H Q E h => ?_) (fun cdv A outer s H vs Q E hr h => ?_)
  · obtain ⟨a, ns, k, rfl, _⟩ := h
    rfl
  obtain ⟨a, ns, k, rfl, hS, hb, hk, q⟩ := h
  refine ⟨_, pss_cons (ps_set (i := 2) scFeed.nd rfl (.inl rfl) (pe_op op_add (pe_op op_mul pe_int (pv 1)) pe_int))
    (pss_cons (ps_if (pt_cmpR op_lt (pv 1) (pe_callB call_len_seq (by rfl) ml PySem.boot_len (pa_cons (pv 0) pa_nil)) (nomark _)) (pss_one (ps_set (i := 2) scFeed.nd rfl (.inl rfl) (pe_ix ix_list (pv 0) (pv 1) (fun _ _ => rfl)))) pss_nil)
    (pss_cons (ps_set (i := 3) scFeed.nd rfl (.inl rfl) pe_int)
    (pss_cons (ps_if (pt_cmpR op_ge (pe_callB call_abs (by rfl) ma (by decide +kernel) (pa_cons (pv 2) pa_nil)) (pe_op op_pow pe_int pe_int) (nomark _)) (pss_one (ps_set (i := 3) scFeed.nd rfl (.inl rfl) (pe_op op_sub (pe_callB call_abs (by rfl) ma (by decide +kernel) (pa_cons (pv 2) pa_nil)) (pe_op op_pow pe_int pe_int)))) pss_nil)
    (pss_one (ps_ret (pe_lst (pa_cons (pv 3) (pa_cons (pe_op op_modN (pe_op op_add (pe_op op_add (pe_op op_mulX (pv 2) pe_int) (pe_op op_mul pe_int (pv 1))) pe_int) pe_int) pa_nil)))))))), ?_⟩
  refine ⟨_, rfl, _, _, rfl, rfl, .inl ⟨by decide, by decide⟩, _, _, rfl, rfl, ?_⟩
  refine ⟨_, rfl, _, rfl, a, _, rfl, .inl hS, _, _, rfl, rfl, _, rfl, ?_⟩
  have fin : ∀ (z d : Int), Builtin.Int.intBits z ≤ 1048576 → ∀ p, H p = none → Q (.ref p) (upd H p (.lst [.int d, .int ((z * 6364136223846793005 + 7919 * (k : Int) + 1442695040888963407).fmod 2305843009213693951)])) := fun z d _ p hp => by
    refine q p _ (same_new hp) hp ⟨_, _, upd_same, (modM _).1, (modM _).2⟩
  have two : ∀ (z : Int), Builtin.Int.intBits z ≤ 1048576 → CMulX z 6364136223846793005 ∧ CMul 7919 (k : Int) := fun z hz => ⟨seed_ok hz, .inl ⟨by decide, by decide⟩⟩
  refine ite2 (fun c => ?_) (fun c => ?_)
  · have c' : (k : Int) < (((ns.map V.int).length : Nat) : Int) := of_decide_eq_true c
    have lt : k < ns.length := by
      rw [List.length_map] at c'
      omega
    have item : atI (ns.map V.int) (k : Int) = some (.int ns[k]) := atI_nat (by rw [List.getElem?_map, List.getElem?_eq_getElem lt]; rfl)
    have hz := hb ns[k] (List.getElem_mem lt)
    refine ⟨_, rfl, _, rfl, a, _, _, _, rfl, rfl, hS, item, ?_⟩
    refine ⟨_, rfl, _, rfl, _, _, rfl, rfl, ⟨by decide, by decide, by decide⟩, _, _, rfl, rfl, _, rfl, ?_⟩
    refine ite2 (fun _ => ?_) (fun _ => ?_)
    · refine ⟨_, rfl, _, rfl, _, _, rfl, rfl, ⟨by decide, by decide, by decide⟩, _, _, rfl, rfl, ?_⟩
      exact ⟨_, rfl, _, rfl, _, _, rfl, rfl, (two _ hz).1, _, rfl, _, _, rfl, rfl, (two _ hz).2, _, _, rfl, rfl, _, _, rfl, rfl, _, _, rfl, rfl, notM, (by show 2 ≤ sizeLine; decide), fin _ _ hz⟩
    · exact ⟨_, rfl, _, rfl, _, _, rfl, rfl, (two _ hz).1, _, rfl, _, _, rfl, rfl, (two _ hz).2, _, _, rfl, rfl, _, _, rfl, rfl, _, _, rfl, rfl, notM, (by show 2 ≤ sizeLine; decide), fin _ _ hz⟩
  · have hz : Builtin.Int.intBits (67 * (k : Int) + 19) ≤ 1048576 := by
      refine Nat.le_trans (PyProof.Rows.intBits_le (k := 20) ?_) (by decide)
      have : (67 * (k : Int) + 19).natAbs ≤ 6719 := by omega
      exact Nat.lt_of_le_of_lt this (by decide)
    refine ⟨_, rfl, _, rfl, _, _, rfl, rfl, ⟨by decide, by decide, by decide⟩, _, _, rfl, rfl, _, rfl, ?_⟩
    refine ite2 (fun _ => ?_) (fun _ => ?_)
    · refine ⟨_, rfl, _, rfl, _, _, rfl, rfl, ⟨by decide, by decide, by decide⟩, _, _, rfl, rfl, ?_⟩
      exact ⟨_, rfl, _, rfl, _, _, rfl, rfl, (two _ hz).1, _, rfl, _, _, rfl, rfl, (two _ hz).2, _, _, rfl, rfl, _, _, rfl, rfl, _, _, rfl, rfl, notM, (by show 2 ≤ sizeLine; decide), fin _ _ hz⟩
    · exact ⟨_, rfl, _, rfl, _, _, rfl, rfl, (two _ hz).1, _, rfl, _, _, rfl, rfl, (two _ hz).2, _, _, rfl, rfl, _, _, rfl, rfl, _, _, rfl, rfl, notM, (by show 2 ≤ sizeLine; decide), fin _ _ hz⟩
/-! ### _law_take -/
def spTake : Sp := fun vs H Q _ => ∃ (f : Addr) (many : Int), vs = [.ref f, .int many] ∧ 0 < many ∧ many.natAbs < 2 ^ 200 ∧ FeedAt H f ∧
  ∀ (r : Int) H', 0 ≤ r → r < many → But f H H' → FeedAt H' f → Q (.int r) H'
theorem mod_in {i m : Int} (h : 0 < m) : 0 ≤ i.fmod m ∧ i.fmod m < m := by
  rw [Int.fmod_eq_emod_of_nonneg _ (Int.le_of_lt h)]
  exact ⟨Int.emod_nonneg _ (Int.ne_of_gt h), Int.emod_lt_of_pos _ h⟩
theorem ok_take {f : Addr} {fd : FuncData} {j : Nat} (F : Fun K "_law_take" "_law_take" sTake f fd) : FnOk P w K mg base CX0 (j + 1) f fd ["feed", "many"] spTake := by
  refine F.ok scTake (fun vs H Q E h => ?_) (fun cdv A outer s H vs Q E hr h => ?_)
  · obtain ⟨a, m, rfl, _⟩ := h
    rfl
  obtain ⟨f, m, rfl, pos, small, ⟨x, y, hf, y0, y1⟩, q⟩ := h
  refine ⟨_, pss_cons (ps_if (pt_cmpR op_gt (pe_ix ix_list (pv 0) pe_int (fun _ _ => rfl)) pe_int (nomark _))
      (pss_cons (ps_set (i := 2) scTake.nd rfl (.inl rfl) (pe_op op_modN (pe_ix ix_list (pv 0) pe_int (fun _ _ => rfl)) (pv 1)))
      (pss_cons (ps_asg (pe_op op_fdivW (pe_ix ix_list (pv 0) pe_int (fun _ _ => rfl)) (pv 1)) (pg_sub (pv 0) pe_int set_list)) (pss_one (ps_ret (pv 2))))) pss_nil)
    (pss_cons (ps_asg (pe_op op_modN (pe_op op_add (pe_op op_mul (pe_ix ix_list (pv 0) pe_int (fun _ _ => rfl)) pe_int) pe_int) pe_int) (pg_sub (pv 0) pe_int set_list))
    (pss_one (ps_ret (pe_op op_modN (pe_op op_fdiv (pe_ix ix_list (pv 0) pe_int (fun _ _ => rfl)) pe_int) (pv 1))))), ?_⟩
  have s0 : SqL K H f [.int x, .int y] := .inl (.inl hf)
  refine ⟨_, rfl, f, _, 0, .int x, rfl, rfl, s0, rfl, _, _, rfl, rfl, _, rfl, ?_⟩
  refine ite2 (fun c => ?_) (fun c => ?_)
  · refine ⟨_, rfl, f, _, 0, .int x, rfl, rfl, s0, rfl, _, rfl, _, _, rfl, rfl, Int.ne_of_gt pos, ?_⟩
    refine ⟨_, rfl, f, _, 0, .int x, rfl, rfl, s0, rfl, _, rfl, _, _, rfl, rfl, wide_div pos small (by decide) (by decide), ?_⟩
    refine ⟨_, rfl, f, _, 0, 0, rfl, rfl, hf, rfl, _, rfl, ?_⟩
    exact q _ _ (mod_in pos).1 (mod_in pos).2 ((But.refl f H).own) ⟨_, _, upd_same, y0, y1⟩
  · refine ⟨_, rfl, f, _, 1, .int y, rfl, rfl, s0, rfl, _, _, rfl, rfl, .inr ⟨by decide, by decide⟩, _, _, rfl, rfl, _, _, rfl, rfl, notM, ?_⟩
    refine ⟨_, rfl, f, _, 1, 1, rfl, rfl, hf, rfl, ?_⟩
    refine ⟨_, rfl, f, _, 1, _, rfl, rfl, .inl (.inl upd_same), rfl, _, _, rfl, rfl, ⟨by decide, by decide⟩, _, rfl, _, _, rfl, rfl, Int.ne_of_gt pos, ?_⟩
    exact q _ _ (mod_in pos).1 (mod_in pos).2 ((But.refl f H).own) ⟨_, _, upd_same, (modM _).1, (modM _).2⟩
/-! ### _law_pick -/
theorem atI_in {α : Type} {xs : List α} {r : Int} (h0 : 0 ≤ r) (h1 : r < (xs.length : Int)) : ∃ x ∈ xs, atI xs r = some x := by
  have lt : r.toNat < xs.length := by omega
  have er : ((r.toNat : Nat) : Int) = r := by omega
  have q : atI xs ((r.toNat : Nat) : Int) = some xs[r.toNat] := atI_nat (List.getElem?_eq_getElem lt)
  rw [er] at q
  exact ⟨_, List.getElem_mem lt, q⟩
/-- from a list -/
def spPick (K : PySem.W.Frag) : Sp := fun vs H Q _ => ∃ (f l : Addr) (xs : List V), vs = [.ref f, .ref l] ∧ l ≠ f ∧ SqL K H l xs ∧ 0 < xs.length ∧ xs.length ≤ 1000 ∧ FeedAt H f ∧
  ∀ x ∈ xs, ∀ H', But f H H' → FeedAt H' f → Q x H'
theorem seq_but {K : PySem.W.Frag} {f l : Addr} {H H' : Hp} {xs : List V} (n : l ≠ f) (b : But f H H') (h : SqL K H l xs) : SqL K H' l xs := by
  rcases h with (h | ⟨o, h⟩) | h
  · exact .inl (.inl (b _ _ n h))
  · exact .inl (.inr ⟨o, b _ _ n h⟩)
  · exact .inr h
theorem len200 {n : Nat} (h : n ≤ 1000) : ((n : Nat) : Int).natAbs < 2 ^ 200 := Nat.lt_of_le_of_lt (by rw [Int.natAbs_natCast]; exact h) (by decide)
theorem ok_pick {f g : Addr} {fd gd : FuncData} {j : Nat} (F : Fun K "_law_pick" "_law_pick" sPick f fd) (G : FnOk P w K mg base CX0 (j + 1) g gd ["feed", "many"] spTake) (bG : Binds K gd ["feed", "many"] []) (kG : PySem.W.keepIn K (.ref g) = true) (mG : mg "_law_take" = some (.ref g)) (ml : mg "len" = none) :
    FnOk P w K mg base CX0 (j + 2) f fd ["feed", "some"] (spPick K) := by
  refine F.ok scPick (fun vs H Q E h => ?_) (fun cdv A outer s H vs Q E hr h => ?_)
  · obtain ⟨a, l, xs, rfl, _⟩ := h
    rfl
  obtain ⟨f, l, xs, rfl, apart, hS, pos, few, hF, q⟩ := h
  refine ⟨_, pss_one (ps_ret (pe_ix ix_list (pv 1) (pe_call G hr (by rfl) mG kG bG .nil pass0 (pa_cons (pv 0) (pa_cons (pe_callB call_len_seq (by rfl) ml PySem.boot_len (pa_cons (pv 1) pa_nil)) pa_nil))) (fun _ _ => rfl))), ?_⟩
  refine ⟨_, rfl, _, rfl, _, rfl, l, xs, rfl, .inl hS, f, _, rfl, (by omega), len200 few, hF, fun r H' r0 r1 b hF' => ?_⟩
  obtain ⟨x, hx, item⟩ := atI_in r0 r1
  exact ⟨l, xs, r, _, rfl, rfl, seq_but apart b hS, item, q _ hx H' b hF'⟩
/-- from a text -/
def spPickS : Sp := fun vs H Q _ => ∃ (f : Addr) (z : Str), vs = [.ref f, .str z] ∧ 0 < z.length ∧ z.length ≤ 1000 ∧ FeedAt H f ∧ ∀ c ∈ z.cps.toList, ∀ H', But f H H' → FeedAt H' f → Q (.str ⟨#[c]⟩) H'
theorem ok_pickS {f g : Addr} {fd gd : FuncData} {j : Nat} (F : Fun K "_law_pick" "_law_pick" sPick f fd) (G : FnOk P w K mg base CX0 (j + 1) g gd ["feed", "many"] spTake) (bG : Binds K gd ["feed", "many"] []) (kG : PySem.W.keepIn K (.ref g) = true) (mG : mg "_law_take" = some (.ref g)) (ml : mg "len" = none) :
    FnOk P w K mg base CX0 (j + 2) f fd ["feed", "some"] spPickS := by
  refine F.ok scPick (fun vs H Q E h => ?_) (fun cdv A outer s H vs Q E hr h => ?_)
  · obtain ⟨a, z, rfl, _⟩ := h
    rfl
  obtain ⟨f, z, rfl, pos, few, hF, q⟩ := h
  refine ⟨_, pss_one (ps_ret (pe_ix ix_str (pv 1) (pe_call G hr (by rfl) mG kG bG .nil pass0 (pa_cons (pv 0) (pa_cons (pe_callB call_len_str (by rfl) ml PySem.boot_len (pa_cons (pv 1) pa_nil)) pa_nil))) (fun _ _ => rfl))), ?_⟩
  have line : z.length ≤ sizeLine := Nat.le_trans few (by decide)
  refine ⟨_, rfl, _, rfl, _, rfl, z, rfl, line, f, _, rfl, (by omega), len200 few, hF, fun r H' r0 r1 b hF' => ?_⟩
  have ln : z.cps.toList.length = z.length := Array.length_toList
  obtain ⟨x, hx, item⟩ := atI_in (xs := z.cps.toList) r0 (by omega)
  exact ⟨z, r, _, rfl, rfl, line, item, q _ hx H' b hF'⟩
end
end Kf
set_option Elab.async false
set_option linter.all false
set_option maxRecDepth 100000
set_option maxHeartbeats 4000000
/-! The program's own defs: beneath, pieces_of, names_in; the law's walk _law_names. -/
namespace Kf
open PySem PySem.Spec PyProof.Rows L2 Sx
abbrev sBeneath : Stmt := top 4
abbrev sPieces : Stmt := top 5
theorem scBeneath : FnScope ["piece", "around"] ["piece", "around"] (defScope sBeneath) := ⟨rfl, rfl, rfl, by decide +kernel, rfl, by decide +kernel, by decide +kernel⟩
theorem scPieces : FnScope ["thing", "found", "todo", "piece", "around", "inner", "part"] ["thing"] (defScope sPieces) := ⟨rfl, rfl, rfl, by decide +kernel, rfl, by decide +kernel, by decide +kernel⟩
/-! ### rows: a tree and how many stand around it -/
def Row (H : Hp) (e : Tr × Nat) (v : V) : Prop := ∃ q x, v = .ref q ∧ H q = some (.tup [x, .int (e.2 : Int)]) ∧ At H e.1 x
theorem Row.keep {H H' : Hp} (k : Tups H H') (e : Tr × Nat) (v : V) (h : Row H e v) : Row H' e v := by
  obtain ⟨q, x, e1, e2, a⟩ := h
  exact ⟨q, x, e1, k _ _ e2, a.keep k⟩
def visits (es : List (Tr × Nat)) : List (Tr × Nat) := es.reverse.flatMap fun e => (e.1.post e.2).reverse
theorem visits_last (es : List (Tr × Nat)) (e : Tr × Nat) : visits (es ++ [e]) = (e.1.post e.2).reverse ++ visits es := by
  unfold visits
  rw [List.reverse_append, List.reverse_singleton, List.singleton_append, List.flatMap_cons]
theorem visits_kids (r : Nat) : ∀ (ks : List Tr) (es : List (Tr × Nat)), visits (es ++ ks.map fun k => (k, r)) = (ks.flatMap fun a => a.post r).reverse ++ visits es
  | [], es => by simp
  | k :: ks, es => by
    rw [List.map_cons, show es ++ (k, r) :: ks.map (fun k => (k, r)) = (es ++ [(k, r)]) ++ ks.map (fun k => (k, r)) by simp, visits_kids r ks, visits_last, List.flatMap_cons, List.reverse_append, List.append_assoc]
theorem visits_step (es : List (Tr × Nat)) (t : Tr) (r : Nat) : visits (es ++ [(t, r)]) = (t, r) :: visits (es ++ t.kids.map fun k => (k, inner t.word r)) := by
  rw [visits_last, visits_kids]
  show (t.post r).reverse ++ visits es = _
  rw [post_kids, List.reverse_append, List.reverse_singleton]
  rfl
theorem post_pos (t : Tr) (r : Nat) : 1 ≤ (t.post r).length := by
  rw [post_kids, List.length_append]
  exact Nat.le_add_left _ _
theorem flat_len {α β : Type} (g : α → List β) (h : ∀ a, 1 ≤ (g a).length) : ∀ l : List α, l.length ≤ (l.flatMap g).length
  | [] => Nat.zero_le _
  | a :: l => by
    have h1 := flat_len g h l
    have h2 := h a
    rw [List.flatMap_cons, List.length_append, List.length_cons]
    omega
theorem visits_len (es : List (Tr × Nat)) : es.length ≤ (visits es).length := by
  have h := flat_len (fun (e : Tr × Nat) => (e.1.post e.2).reverse) (fun e => by rw [List.length_reverse]; exact post_pos e.1 e.2) es.reverse
  rw [List.length_reverse] at h
  exact h
/-! ### the top's names -/
structure Txt (K : PySem.W.Frag) (mg : Str → Option Value) (L B : Addr) : Prop where
  mL : mg "LEAVES" = some (.ref L)
  mB : mg "BINDERS" = some (.ref B)
  leaf : ∀ H, SqT K H L leafVs
  bind : ∀ H, SqT K H B bindVs
section
variable {P : Program} {w : World} {K : PySem.W.Frag} {mg : Str → Option Value} {base : Heap} {L B : Addr}
def spBeneath : Sp := fun vs H Q _ => ∃ (p : Addr) (wd : Str) (us : List V) (r : Nat), vs = [.ref p, .int (r : Int)] ∧ H p = some (.tup (.str wd :: us)) ∧ Q (.int (inner wd r : Nat)) H
theorem ok_beneath {f : Addr} {fd : FuncData} {j : Nat} (F : Fun K "beneath" "beneath" sBeneath f fd) (T : Txt K mg L B) : FnOk P w K mg base CX0 (j + 1) f fd ["piece", "around"] spBeneath := by
  refine F.ok scBeneath (fun vs H Q E h => ?_) (fun cdv A outer s H vs Q E hr h => ?_)
  · obtain ⟨p, wd, us, r, rfl, _⟩ := h
    rfl
  obtain ⟨p, wd, us, r, rfl, hp, q⟩ := h
  refine ⟨_, pss_one (ps_ret (pe_ifExp (pt_cmpR op_in_seq (pe_ix ix_tup (pv 0) pe_int (fun _ _ => rfl)) (pe_glob (v := .ref B) (by rfl) T.mB rfl) (by rfl)) (pe_op op_add (pv 1) pe_int) (pv 1))), ?_⟩
  refine ⟨_, rfl, p, _, 0, _, rfl, rfl, .inl (.inl hp), head_at _ _, B, bindVs, rfl, .inr (T.bind H), rfl, rfl, _, rfl, ?_⟩
  show if binds wd = true then _ else _
  unfold inner at q
  by_cases c : binds wd = true
  · rw [if_pos c] at q ⊢
    exact ⟨_, rfl, _, _, rfl, rfl, q⟩
  · rw [if_neg c] at q ⊢
    exact ⟨_, rfl, q⟩
/-! ### pieces_of -/
def spPieces : Sp := fun vs H Q _ => ∃ (v : V) (t : Tr), vs = [v] ∧ At H t v ∧ t.Ok ∧ t.deep ≤ 12 ∧
  ∀ (p : Addr) (H' : Hp) (vf : List V), Same H H' → H p = none → H' p = some (.lst vf) → All2 (Row H') (t.post 0) vf → Q (.ref p) H'
theorem line_of {n : Nat} (h : n ≤ 4096) : n < sizeLine := Nat.lt_of_le_of_lt h (by decide)
/-- between two turns -/
structure Turn (H H' : Hp) (pf pt : Addr) (all : List (Tr × Nat)) (m : Nat) (ef es : List (Tr × Nat)) (vf vt : List V) : Prop where
  same : Same H H'
  lf : H' pf = some (.lst vf)
  lt : H' pt = some (.lst vt)
  rf : All2 (Row H') ef vf
  rt : All2 (Row H') es vt
  sum : ef ++ visits es = all
  ok : ∀ e ∈ es, e.1.Ok
  m : m = (visits es).length
theorem ok_pieces {f g : Addr} {fd gd : FuncData} (F : Fun K "pieces_of" "pieces_of" sPieces f fd) (T : Txt K mg L B) (G : FnOk P w K mg base CX0 1 g gd ["piece", "around"] spBeneath) (bG : Binds K gd ["piece", "around"] []) (kG : PySem.W.keepIn K (.ref g) = true) (mG : mg "beneath" = some (.ref g)) :
    FnOk P w K mg base CX0 2 f fd ["thing"] spPieces := by
  refine F.ok scPieces (fun vs H Q E h => ?_) (fun cdv A outer s H vs Q E hr h => ?_)
  · obtain ⟨v, t, rfl, _⟩ := h
    rfl
  obtain ⟨v, t, rfl, hA, hO, hd, q⟩ := h
  refine ⟨_, pss_cons (ps_set (i := 1) scPieces.nd rfl (.inl rfl) (pe_lst pa_nil))
    (pss_cons (ps_set (i := 2) scPieces.nd rfl (.inl rfl) (pe_lst (pa_cons (pe_tup (pa_cons (pv 0) (pa_cons pe_int pa_nil))) pa_nil)))
    (pss_cons (ps_while PassesOwn.never (pt_truth (pv 2) (by intro _; rfl))
      (pss_cons (ps_asg (pe_bm0 PySem.F.plainAttrs_list PySem.F.slot_list_pop PySem.F.type_list_pop mt_pop (pv 2)) (pg_tup (by rfl) (pgs_cons (pg_name (i := 3) scPieces.nd rfl (.inl rfl)) (pgs_cons (pg_name (i := 4) scPieces.nd rfl (.inl rfl)) pgs_nil))))
      (pss_cons (ps_expr (pe_bm PySem.F.plainAttrs_list PySem.F.slot_list_append PySem.F.type_list_append mt_append (pv 1) (pa_cons (pe_tup (pa_cons (pv 3) (pa_cons (pv 4) pa_nil))) pa_nil)))
      (pss_one (ps_if (pt_cmpR op_notIn_seq (pe_ix ix_tup (pv 3) pe_int (fun _ _ => rfl)) (pe_glob (v := .ref L) (by rfl) T.mL rfl) (by rfl))
        (pss_cons (ps_set (i := 5) scPieces.nd rfl (.inl rfl) (pe_call G hr (by rfl) mG kG bG .nil pass0 (pa_cons (pv 3) (pa_cons (pv 4) pa_nil))))
        (pss_one (ps_for PassesOwn.never rfl (pi_tup (pe_slice sl_tup (pv 3) (po_some pe_int) po_none)) (pg_name (i := 6) scPieces.nd rfl (.inl rfl))
          (pss_one (ps_expr (pe_bm PySem.F.plainAttrs_list PySem.F.slot_list_append PySem.F.type_list_append mt_append (pv 2) (pa_cons (pe_tup (pa_cons (pv 6) (pa_cons (pv 5) pa_nil))) pa_nil)))))))
        pss_nil)))))
    (pss_cons (ps_expr (pe_bm0 PySem.F.plainAttrs_list PySem.F.slot_list_reverse PySem.F.type_list_reverse mt_reverse (pv 1)))
    (pss_one (ps_ret (pv 1)))))), ?_⟩
  refine ⟨Nat.zero_le _, fun pf nf => ?_⟩
  refine ⟨_, rfl, (by show 2 ≤ sizeLine; decide), fun q0 nq => ?_⟩
  refine ⟨(by show 1 ≤ sizeLine; decide), fun pt nt => ?_⟩
  have s1 : Same H (upd H pf (.lst [])) := same_new nf
  have s2 := same_put (o := .tup [v, .int 0]) s1 nq
  have s3 := same_put (o := .lst [.ref q0]) s2 nt
  have nft : pf ≠ pt := fun z => by
    rw [← z, upd_ne (fun z2 => by rw [z2, upd_same] at nq; cases nq), upd_same] at nt
    cases nt
  have nfq : pf ≠ q0 := fun z => by
    rw [← z, upd_same] at nq
    cases nq
  have nqt : q0 ≠ pt := fun z => by
    rw [← z, upd_same] at nt
    cases nt
  have big : ∀ (ef es : List (Tr × Nat)), ef ++ visits es = (t.post 0).reverse → ef.length + es.length ≤ 4096 := fun ef es e => by
    have l1 := congrArg List.length e
    rw [List.length_append, List.length_reverse, post_len] at l1
    have l2 := visits_len es
    have l3 := size_deep t
    have l4 : 2 ^ t.deep ≤ 2 ^ 12 := Nat.pow_le_pow_right (by decide) hd
    omega
  refine ⟨fun m σ H' => ∃ (ef es : List (Tr × Nat)) (vf vt : List V) (y3 y4 y5 y6 : Option V), σ = [some v, some (.ref pf), some (.ref pt), y3, y4, y5, y6] ∧ Turn H H' pf pt (t.post 0).reverse m ef es vf vt,
    ⟨_, [], [(t, 0)], [], [.ref q0], none, none, none, none, rfl, ⟨s3, ?_, upd_same, .nil, .one ⟨q0, v, rfl, ?_, hA.keep (tups_same s3)⟩, ?_, fun e he => by rw [List.mem_singleton.mp he]; exact hO, rfl⟩⟩, fun m σ H1 hW => ?_⟩
  · rw [upd_ne nft, upd_ne nfq, upd_same]
  · rw [upd_ne nqt, upd_same]
    rfl
  · show visits [(t, 0)] = _
    unfold visits
    simp
  obtain ⟨ef, es, vf, vt, y3, y4, y5, y6, rfl, W⟩ := hW
  refine ⟨_, rfl, !vt.isEmpty, .inl ⟨vt, .inl (.inl W.lt), rfl⟩, ?_⟩
  rcases List.eq_nil_or_concat vt with en | ⟨vt0, y, en⟩
  · subst en
    refine iteF ?_
    have ee : es = [] := by
      have l := W.rt.len
      exact List.length_eq_zero_iff.mp l
    subst ee
    have e2 : ef = (t.post 0).reverse := by
      have e3 := W.sum
      rw [show visits [] = [] from rfl, List.append_nil] at e3
      exact e3
    refine ⟨_, rfl, .inl ⟨rfl, _, .inl (.inl W.lf)⟩, pf, vf, rfl, rfl, W.lf, ?_⟩
    refine ⟨_, rfl, q pf _ vf.reverse (fun b u e => ?_) nf upd_same ?_⟩
    · rw [upd_ne (ne_of_none e nf)]
      exact W.same _ _ e
    · have r1 := W.rf.rev
      rw [e2, List.reverse_reverse] at r1
      exact r1.mono fun e v h => Row.keep (tups_put fun xs z => by rw [W.lf] at z; cases z) e v h
  · rw [List.concat_eq_append] at en
    subst en
    rw [show (!(vt0 ++ [y]).isEmpty) = true by simp]
    refine iteT ?_
    obtain ⟨es0, ⟨t1, r1⟩, rfl, rt0, ⟨q1, x1, rfl, h1, a1⟩⟩ := W.rt.last
    have ok1 : t1.Ok := W.ok _ (List.mem_append.mpr (.inr (List.mem_singleton.mpr rfl)))
    refine ⟨fun σ' H' => ∃ m', m' < m ∧ ∃ (ef es : List (Tr × Nat)) (vf vt : List V) (y3 y4 y5 y6 : Option V), σ' = [some v, some (.ref pf), some (.ref pt), y3, y4, y5, y6] ∧ Turn H H' pf pt (t.post 0).reverse m' ef es vf vt,
      fun σ' H' h => h, ?_⟩
    -- piece, around = todo.pop()
    refine ⟨_, rfl, .inl ⟨rfl, _, .inl (.inl W.lt)⟩, pt, _, .ref q1, rfl, rfl, W.lt, by simp, ?_⟩
    rw [List.dropLast_concat]
    have nqt1 : q1 ≠ pt := ne_of h1 W.lt (by intro z; cases z)
    have k2 : Tups H1 (upd H1 pt (.lst vt0)) := tups_put fun xs z => by
      rw [W.lt] at z
      cases z
    refine ⟨q1, [x1, .int (r1 : Int)], rfl, .inl (.inl (k2 _ _ h1)), rfl, x1, [.int (r1 : Int)], rfl, .int (r1 : Int), [], rfl, rfl, ?_⟩
    -- found.append((piece, around))
    have lf2 : (upd H1 pt (.lst vt0)) pf = some (.lst vf) := by
      rw [upd_ne nft]
      exact W.lf
    have bigN := big ef (es0 ++ [(t1, r1)]) W.sum
    rw [List.length_append, List.length_singleton] at bigN
    refine ⟨_, rfl, .inl ⟨rfl, _, .inl (.inl lf2)⟩, _, rfl, _, rfl, (by show 2 ≤ sizeLine; decide), fun q2 nq2 => ?_⟩
    have nfq2 : pf ≠ q2 := ne_of_none lf2 nq2
    have ntq2 : pt ≠ q2 := ne_of_none (show (upd H1 pt (.lst vt0)) pt = _ from upd_same) nq2
    refine ⟨pf, vf, .ref q2, rfl, rfl, (by rw [upd_ne nfq2]; exact lf2), line_of (by have := W.rf.len; omega), ?_⟩
    generalize hH2 : upd (upd (upd H1 pt (.lst vt0)) q2 (.tup [x1, .int (r1 : Int)])) pf (.lst (vf ++ [.ref q2])) = H2
    have k3 : Tups H1 H2 := by
      rw [← hH2]
      refine k2.trans ((tups_same (same_new nq2)).trans (tups_put fun xs z => ?_))
      rw [upd_ne nfq2, lf2] at z
      cases z
    have same2 : Same H H2 := fun b u e => by
      rw [← hH2, upd_ne (ne_of_none e nf)]
      have nbt : b ≠ pt := fun z => by
        have z2 := s2.free nt
        rw [← z, e] at z2
        cases z2
      have e2 : (upd H1 pt (.lst vt0)) b = some u := by
        rw [upd_ne nbt]
        exact W.same _ _ e
      rw [upd_ne (ne_of_none e2 nq2)]
      exact e2
    have lf3 : H2 pf = some (.lst (vf ++ [.ref q2])) := by
      rw [← hH2, upd_same]
    have lt3 : H2 pt = some (.lst vt0) := by
      rw [← hH2, upd_ne nft.symm, upd_ne ntq2, upd_same]
    have hq2 : H2 q2 = some (.tup [x1, .int (r1 : Int)]) := by
      rw [← hH2, upd_ne nfq2.symm, upd_same]
    have a3 : At H2 t1 x1 := At.keep k3 a1
    have rf3 : All2 (Row H2) (ef ++ [(t1, r1)]) (vf ++ [.ref q2]) := (W.rf.mono (Row.keep k3)).app (.one ⟨q2, x1, rfl, hq2, a3⟩)
    have rt3 : All2 (Row H2) es0 vt0 := rt0.mono (Row.keep k3)
    obtain ⟨p1, us, rfl, hp1, lus, kids, leafs⟩ := a3.view ok1
    have e0 := W.sum
    rw [visits_step] at e0
    have em := W.m
    rw [visits_step, List.length_cons] at em
    -- if piece[0] not in LEAVES
    refine ⟨_, rfl, p1, _, 0, _, rfl, rfl, .inl (.inl hp1), head_at _ _, L, leafVs, rfl, .inr (T.leaf H2), rfl, rfl, _, rfl, ?_⟩
    show if (!leafy t1.word) = true then _ else _
    cases hl : leafy t1.word with
    | true =>
      refine iteF ?_
      obtain ⟨x, et, _⟩ := leafs hl
      have noK : t1.kids = [] := by
        rw [et]
        rfl
      rw [noK] at e0 em
      rw [show es0 ++ ([] : List Tr).map (fun k => (k, inner t1.word r1)) = es0 by simp] at e0 em
      refine ⟨(visits es0).length, by omega, ef ++ [(t1, r1)], es0, _, vt0, _, _, y5, y6, rfl, ⟨same2, lf3, lt3, rf3, rt3, ?_, fun e he => W.ok e (List.mem_append.mpr (.inl he)), rfl⟩⟩
      rw [List.append_assoc]
      exact e0
    | false =>
      refine iteT ?_
      have kd := kids hl
      -- inner = beneath(piece, around)
      refine ⟨_, rfl, _, rfl, p1, t1.word, us, r1, rfl, hp1, ?_⟩
      -- piece[1:]
      refine ⟨_, rfl, 1, rfl, p1, _, rfl, .inl (.inl hp1), cut_not _ _, fun c nc => ?_⟩
      rw [cut_one]
      have k4 : Tups H2 (upd H2 c (.tup us)) := tups_same (same_new nc)
      have ncf : c ≠ pf := fun z => by
        rw [z, lf3] at nc
        cases nc
      have nct : c ≠ pt := fun z => by
        rw [z, lt3] at nc
        cases nc
      have len1 := kd.len
      refine ⟨c, rfl, ⟨_, .inl (.inl upd_same)⟩, for_tup (K := K) (a := c) (xs := us) (fun i σ' H' => ∃ (vt : List V) (y6 : Option V), σ' = [some v, some (.ref pf), some (.ref pt), some (.ref p1), some (.int (r1 : Int)), some (.int (inner t1.word r1 : Nat)), y6] ∧
          Same H H' ∧ Tups (upd H2 c (.tup us)) H' ∧ H' pf = some (.lst (vf ++ [.ref q2])) ∧ H' pt = some (.lst vt) ∧ All2 (Row H') (es0 ++ (t1.kids.take i).map fun k => (k, inner t1.word r1)) vt)
        ⟨vt0, y6, rfl, same_put same2 nc, Tups.refl _, (by rw [upd_ne ncf.symm]; exact lf3), (by rw [upd_ne nct.symm]; exact lt3), ?_⟩ (fun i σ' H' _ ⟨_, _, _, _, kt, _⟩ => .inl (.inl (kt _ _ upd_same))) ?_ ?_⟩
      · rw [show (t1.kids.take 0).map (fun k => (k, inner t1.word r1)) = [] by simp, List.append_nil]
        exact rt3.mono (Row.keep k4)
      · rintro i x σ' H' hx ⟨vt, y6', rfl, sm, kt, gf, gt, rr⟩
        obtain ⟨tk, htk, hax⟩ := kd.get hx
        have hax' : At H' tk x := hax.keep (k4.trans kt)
        have bnd : vt.length ≤ 4096 := by
          have l1 := rr.len
          have l2 : ((t1.kids.take i).map fun k => (k, inner t1.word r1)).length ≤ 2 := by
            rw [List.length_map, List.length_take]
            omega
          have l3 := big (ef ++ [(t1, r1)]) (es0 ++ t1.kids.map fun k => (k, inner t1.word r1)) (by rw [List.append_assoc]; exact e0)
          rw [List.length_append, List.length_append, List.length_map] at l3
          rw [List.length_append, List.length_map, List.length_take] at l1
          omega
        -- todo.append((part, inner))
        refine ⟨_, rfl, .inl ⟨rfl, _, .inl (.inl gt)⟩, _, rfl, _, rfl, (by show 2 ≤ sizeLine; decide), fun q3 nq3 => ?_⟩
        have ntq3 : pt ≠ q3 := ne_of_none gt nq3
        have nfq3 : pf ≠ q3 := ne_of_none gf nq3
        refine ⟨pt, vt, .ref q3, rfl, rfl, (by rw [upd_ne ntq3]; exact gt), line_of bnd, ?_⟩
        have k5 : Tups H' (upd (upd H' q3 (.tup [x, .int (inner t1.word r1 : Nat)])) pt (.lst (vt ++ [.ref q3]))) := (tups_same (same_new nq3)).trans (tups_put fun xs z => by
          rw [upd_ne ntq3, gt] at z
          cases z)
        refine ⟨vt ++ [.ref q3], some x, rfl, fun b u e => ?_, kt.trans k5, ?_, upd_same, ?_⟩
        · have nbt : b ≠ pt := fun z => by
            have z2 := s2.free nt
            rw [← z, e] at z2
            cases z2
          rw [upd_ne nbt, upd_ne (ne_of_none (sm _ _ e) nq3)]
          exact sm _ _ e
        · rw [upd_ne nft, upd_ne nfq3]
          exact gf
        · have et : t1.kids.take (i + 1) = t1.kids.take i ++ [tk] := by
            rw [List.take_add_one, htk]
            rfl
          rw [et, List.map_append, ← List.append_assoc]
          refine (rr.mono (Row.keep k5)).app (.one ⟨q3, x, rfl, ?_, hax'.keep k5⟩)
          rw [upd_ne ntq3.symm, upd_same]
      · rintro σ' H' ⟨vt, y6', rfl, sm, kt, gf, gt, rr⟩
        rw [← len1, List.take_length] at rr
        refine ⟨_, ?_, ef ++ [(t1, r1)], es0 ++ t1.kids.map (fun k => (k, inner t1.word r1)), _, vt, _, _, _, y6', rfl, ⟨sm, gf, gt, rf3.mono (Row.keep (k4.trans kt)), rr, by rw [List.append_assoc]; exact e0, fun e he => ?_, rfl⟩⟩
        · omega
        · rcases List.mem_append.mp he with z | z
          · exact W.ok e (List.mem_append.mpr (.inl z))
          · obtain ⟨k, hk, rfl⟩ := List.mem_map.mp z
            exact kids_ok ok1 k hk
end
end Kf
set_option Elab.async false
set_option linter.all false
set_option maxRecDepth 100000
set_option maxHeartbeats 3900000
/-! A lambda with parameters and captured names, handed as the second of two to a def, called there. Its frame is begun as that of a def within a def. -/
namespace LmY
open PySem PySem.Spec PyProof.Rows L2 LamX NdefX
/-- the lambda as a def within the def of X, whose code object is k -/
abbrev lamF (X : Cx) (ar : Arguments) (sc : Scope) (k : Addr) : NF := ⟨"<lambda>", X.env.qual ++ "<lambda>", ar, [], sc, cloFrom X.env.cells sc.names [], k⟩
/-- where its body runs: its names are N -/
abbrev lamX (X : Cx) (N : List Str) (ar : Arguments) (sc : Scope) (fo k : Addr) (A : Around) (outer : List Env) (sh : Shared) (hp : Hp) : Cx := ncx L2.CX0 X.prog X.w X.K X.mg X.base N (lamF X ar sc k) fo A outer sh hp L2.E0
/-- where the def runs that got it, entered from X's frame -/
abbrev gotX (X : Cx) (Ng : List Str) (x : Str) (sg : Scope) (g : Addr) (cg : Value) (sh : Shared) (hp : Hp) : Cx := (cxOf L2.CX0 X.prog X.w X.K X.mg X.base Ng x sg g cg X.A X.stack sh hp L2.E0).nox
/-- cells that no def of the text writes hold what they held -/
theorem cells_stay {cl : List (Str × Addr)} {fr : List Str} {ws : List (Option V)} {g g2 : Heap} {hp hp2 : Hp} {fs : List Addr} (un : Un fs [] hp hp2 g g2) (cs : CellsAt cl fr ws g hp) : CellsAt cl fr ws g2 hp2 := by
  have still : ∀ a, hp a = none → ∀ val, g.IsCell a val → g2.IsCell a val := fun a off val ⟨ob, at1, dat⟩ => by
    obtain ⟨_, at2⟩ := un.any at1 off List.not_mem_nil
    exact ⟨_, at2, dat⟩
  refine ⟨cs.len, fun nm a e => ?_, cs.inj, fun j nm e => ?_⟩
  · obtain ⟨off, val, cell⟩ := cs.all nm a e
    obtain ⟨ob, at1, _⟩ := id cell
    exact ⟨un.free a ob at1 off List.not_mem_nil, val, still a off val cell⟩
  · obtain ⟨a, e1, has⟩ := cs.has j nm e
    refine ⟨a, e1, fun z ez => ?_⟩
    obtain ⟨u, rz, cell⟩ := has z ez
    exact ⟨u, rz, still a (cs.all nm a e1).1 _ cell⟩
section
variable {X : Cx} {pins : List (Addr × Obj)} {σ : L2.St} {H : Hp} {s : Shared}
/-- a call that ends without an exception, told to its caller -/
theorem land {fo : Addr} {us : List Value} {Q : VK} (I : Inv X pins σ H s) (run : codeAny (model X.prog X.w) X.A (.call (.ref fo) ⟨us, []⟩) (CR L2.CX0 X.stack X.prog X.w H s Q L2.E0) s) :
    wpAny (model X.prog X.w) X.A (call (.ref fo) us) (EP X pins σ Q) X.xe s :=
  wpAny_call (codeAny_mono run fun res s2 told => match res, told with
    | .ok (.ret _), told => I.after told
    | .ok .next, told => told.elim
    | .ok .brk, told => told.elim
    | .ok .cont, told => told.elim
    | .error _, told => (show False from told).elim)
/-- x(e, ..), in the def that got the lambda as x -/
theorem pe_lact {N ps fr Ng : List Str} {js : List Nat} {qg : Str} {sg : Scope} {g fo k : Addr} {cg pm ctv : Value} {ar : Arguments} {body : Expr} {sc : Scope} {m i : Nat} {a : Str} {tb : TE} {p1 p2 : Pos} {e : Expr} {es : List Expr} {t : TA}
    (I : Inv X pins σ H s) (S : NScope N ps fr sc) (cp : Caps X (cloFrom X.env.cells sc.names []) fr js)
    (at_ : s.heap.get? fo = some (PySem.W.kla_obj "<lambda>" (X.env.qual ++ "<lambda>") ar body sc (cloFrom X.env.cells sc.names []) pm k ctv)) (off : H fo = none) (noF : fo ∉ frs X.stack)
    (bind : ∀ us : List Value, us.length = ps.length → bindArgs (PySem.W.kla_fn "<lambda>" (X.env.qual ++ "<lambda>") ar body sc (cloFrom X.env.cells sc.names []) pm (.ref k) ctv) ⟨us, []⟩ = pure (ps.zip us))
    (room : Room (m + 1) (X.A.deeper (envOfC qg sg s.heap.objs.size g cg)))
    (inner : ∀ (A : Around) (outer : List Env) (sh : Shared) (hp : Hp), Room m (A.deeper (envF (lamF X ar sc k) fo sh.heap.objs.size)) → PE (lamX X N ar sc fo k A outer sh hp) body tb)
    (hN : Ng[i]? = some a) (hv : Vis sg a) (pa : PA (gotX X Ng qg sg g cg s H) (e :: es) t)
    (h1 : (a == ("__debug__" : Str)) = false := by decide) (h2 : (a == ("__classdict__" : Str)) = false := by decide)
    (h3 : starEach (e :: es) (envOfC qg sg s.heap.objs.size g cg) = (false, eval e (envOfC qg sg s.heap.objs.size g cg)) :: starEach es (envOfC qg sg s.heap.objs.size g cg) := by rfl)
    (h4 : (backTo p2 (starEach es (envOfC qg sg s.heap.objs.size g cg))).any (·.1) = false := by rfl) :
    PE (gotX X Ng qg sg g cg s H) (.Call (.Name a p1) (e :: es) [] p2)
      (fun σZ HZ Q => σZ[i]? = some (some (.ref fo)) ∧ t σZ HZ fun vs H1 => vs.length = ps.length ∧ H1 k = some (CodeO k (X.env.qual ++ "<lambda>")) ∧ tb (startF N vs (js.map (slotAt σ))) H1 Q) := by
  refine ⟨fun pinsZ sZ σZ HZ Q IZ ⟨slot, rest⟩ => ?_⟩
  have same : ∀ {pn : List (Addr × Obj)} {τ : L2.St} {hp : Hp} {sh : Shared}, Inv (gotX X Ng qg sg g cg s H) pn τ hp sh → sh.heap.get? fo = some (PySem.W.kla_obj "<lambda>" (X.env.qual ++ "<lambda>") ar body sc (cloFrom X.env.cells sc.names []) pm k ctv) :=
    fun J => J.base.keep fo _ at_ off noF List.not_mem_nil
  have name := (pe_var (X := gotX X Ng qg sg g cg s H) (pos := p1) (i := i) hN hv h1 h2).run pinsZ sZ σZ HZ (fun val hp => val = .ref fo ∧ hp = HZ) IZ ⟨.ref fo, slot, rfl, rfl⟩
  refine wpAny_Call_Name_kw (thn name fun val s1 ⟨_, _, I1, rel, ev, eh⟩ => ?_)
  subst ev eh
  cases (show val = Value.ref fo from rel)
  refine PySem.W.callWith_F (first := []) ⟨_, _, _, _, same I1⟩ (thn (pa.run p2 pinsZ s1 σZ _ _ I1 rest) fun us s2 ⟨vs, H2, I2, rv, len, code, ht⟩ => ⟨⟨_, _, _, _, same I2⟩, land (us := us) I2 ?_⟩) h3 h4
  obtain ⟨⟨oc, fields, tq, o1, o2, o3⟩, _, _⟩ := I2.hok k _ code
  refine PySem.W.kla_callFunE room.depth (same I2) rfl S.co S.gen rfl ⟨k, oc, fields, tq, rfl, o1, o2, o3⟩ ?_
  rw [bind us (rv.length.symm.trans len)]
  refine wpAny_pure (wpAny_newFunctionEnv (fun y hy => S.nocell y hy) (fun y hy => S.par y.1 (List.of_mem_zip hy).1) (fun g1 ns1 more => ⟨I2.nolimit.fresh _ more, ?_⟩) S.kind)
  have grown : ∀ b ob, s2.heap.get? b = some ob → g1.get? b = some ob := fun b ob eb => more.extBut b ob (Nat.ne_of_lt (Heap.lt_size eb)) (Heap.get?_push_of_some _ eb)
  have J := inv_startN (CX := L2.CX0) (E := L2.E0) (tk := s2.toks + (ps.zip us).length) (F := lamF X ar sc k) (f := fo) S room.hd I2.env0 len rv (cells_stay I2.base (cells_of I cp)) ns1 grown
  refine PySem.W.kla_codeExpr (wpAny_mono ((inner _ _ s2 H2 (room.deeper _)).run [] _ _ H2 Q J ht) (fun _ s3 ⟨w3, H3, J3, r3, q3⟩ => ?_) fun _ _ bad => bad)
  exact ⟨w3, H3, J3.os, J3.bare, J3.base, J3.hok, r3, q3⟩
end
/-- what the def that got the lambda makes of its calls: TT -/
def Gives2 (X : Cx) (Ng : List Str) (x : Str) (sg : Scope) (g : Addr) (cg : Value) (bg : List Stmt) (a : Str) (q : Str) (ps : List Str) (m : Nat) (TT : (List V → Hp → VK → Prop) → V → Hp → VK → Prop) : Prop :=
  ∀ (fo k : Addr) (s : Shared) (H : Hp) (v : V) (Q : VK) (tl : List V → Hp → VK → Prop),
    (∀ (p1 p2 : Pos) (e : Expr) (es : List Expr) (t : TA), PA (gotX X Ng x sg g cg s H) (e :: es) t →
      starEach (e :: es) (envOfC x sg s.heap.objs.size g cg) = (false, eval e (envOfC x sg s.heap.objs.size g cg)) :: starEach es (envOfC x sg s.heap.objs.size g cg) → (backTo p2 (starEach es (envOfC x sg s.heap.objs.size g cg))).any (·.1) = false →
      PE (gotX X Ng x sg g cg s H) (.Call (.Name a p1) (e :: es) [] p2) (fun σZ HZ Q => σZ[1]? = some (some (.ref fo)) ∧ t σZ HZ fun vs H1 => vs.length = ps.length ∧ H1 k = some (CodeO k q) ∧ tl vs H1 Q)) →
    Room (m + 1) (X.A.deeper (envOfC x sg s.heap.objs.size g cg)) → H k = some (CodeO k q) → TT tl v H Q →
    ∃ t, PSs (gotX X Ng x sg g cg s H) bg t ∧ t { nx := fun _ H' => Q .non H', rt := Q } (L2.start Ng [v, .ref fo]) H
def tLam2 (T : List (Addr × Str)) (N : List Str) (js : List Nat) (TT : (List V → Hp → VK → Prop) → V → Hp → VK → Prop) (te : TE) (t : TE) : TE := fun σ H Q => te σ H fun v H0 => Tabs T H0 ∧ ∀ H1, ExtN H0 H1 → Tabs T H1 → TT (fun vs H' Q' => t (startF N vs (js.map (slotAt σ))) H' Q') v H1 Q
section
variable {X : Cx}
/-- x(e, lambda ..: body) -/
theorem pe_lamcall2 {T : List (Addr × Str)} {TT : (List V → Hp → VK → Prop) → V → Hp → VK → Prop} {x a0 a : Str} {g c tab : Addr} {m : Nat} {pg : Arguments} {bg : List Stmt} {sg : Scope} {dV kV doc pm cdv ct oc : Value} {an od : Option Addr} {osl : Array (Option Value)} {N Ng ps fr : List Str} {js : List Nat}
    {ar : Arguments} {body e : Expr} {sc : Scope} {te t : TE} {p0 p1 p2 : Pos} (gx : Gl X x) (mx : X.mg x = some (.ref g)) (kx : PySem.W.keepIn X.K (.ref g) = true)
    (look : X.K.lookup g = some ⟨oc, od, .func (PySem.W.fnOf x x pg bg sg dV kV doc pm an cdv ct), osl⟩) (code : PySem.W.codeIn X.K cdv x = true) (bx : L2.Binds X.K (PySem.W.fnOf x x pg bg sg dV kV doc pm an cdv ct) [a0, a] []) (Sg : FnScope Ng [a0, a] sg) (second : Ng[1]? = some a) (seen : Vis sg a)
    (gives : Gives2 X Ng x sg g cdv bg a (X.env.qual ++ "<lambda>") ps m TT) (pe : PE X e te)
    (own : TabB X.base X.mg c tab) (mine : X.env.code = .ref c) (inT : (tab, X.env.qual ++ "<lambda>") ∈ T) (sole : ∀ p ∈ T, p.1 = tab → p.2 = X.env.qual ++ "<lambda>") (room : Room (m + 2) X.A)
    (S : NScope N ps fr sc) (held : ndefB X.env.scope sc fr = true) (slots : js.map (fun j => X.N[j]?) = fr.map some) (plain : defaultsOf ar X.env = ([], []))
    (bind : ∀ (q : Str) (cl : List (Str × Addr)) (pm cv ctv : Value) (us : List Value), us.length = ps.length → bindArgs (PySem.W.kla_fn "<lambda>" q ar body sc cl pm cv ctv) ⟨us, []⟩ = pure (ps.zip us))
    (inner : ∀ (A : Around) (outer : List Env) (sh : Shared) (hp : Hp) (fo k : Addr), Room m (A.deeper (envF (lamF X ar sc k) fo sh.heap.objs.size)) → PE (lamX X N ar sc fo k A outer sh hp) body t)
    (h0 : (x == ("__debug__" : Str)) = false := by decide) (h1 : (a == ("__debug__" : Str)) = false := by decide) (h2 : (a == ("__classdict__" : Str)) = false := by decide)
    (h3 : starEach (e :: [.Lambda ar body sc p1]) X.env = (false, eval e X.env) :: starEach [.Lambda ar body sc p1] X.env := by rfl) :
    PE X (.Call (.Name x p0) [e, .Lambda ar body sc p1] [] p2) (tLam2 T N js TT te t) := by
  refine ⟨fun pins s σ H Q I reading => wpAny_Call_Name_kw (ld_glob I gx mx (PySem.W.callWith_K (h₀ := X.base) I.ok.mod.kin kx ?_ h3 (by rfl)) h0)⟩
  rw [h3]
  show wpAny _ _ (spliced ((false, eval e X.env) :: backTo p2 (starEach [.Lambda ar body sc p1] X.env))) _ _ s
  refine Calls.spliced_cons (thn (pe.run pins s σ H _ I reading) fun u s0 ⟨v, H0, I0, r0, tabs0, later⟩ => ?_)
  show wpAny _ _ (spliced ((false, eval (.Lambda ar body sc p1) X.env) :: backTo p2 (starEach [] X.env))) _ _ s0
  refine Calls.spliced_cons (lam_make2 I0 own mine inT sole tabs0 plain (fun y hy e => (ndef_free held y hy e).elim (fun z => I0.ok.has _ (.inl z)) fun z => I0.ok.has _ (.inr z)) fun fo k pmF ctF H1 s1 I1 grown tabs1 at_ off noF codeK => Calls.spliced_nil ⟨I1.kIn, land I1 ?_⟩)
  refine run_ofS (N := Ng) (ps := [a0, a]) (us := [u, .ref fo]) (vs := [v, .ref fo]) look code Sg room I1.env0 (bx s1 [u, .ref fo] I1.kIn rfl) (.cons r0 (.cons rfl .nil)) rfl fun room1 => ?_
  obtain ⟨ts, run, told⟩ := gives fo k s1 H1 v Q _ (fun q1 q2 e1 es1 t1 pa he hp => pe_lact (i := 1) (js := js) I1 S (Caps.made I1.ok (ndef_free held) (ndef_fr held) slots) at_ off noF (fun us hl => bind _ _ _ _ _ us hl) room1 (fun A outer sh hp2 r2 => inner A outer sh hp2 fo k r2) second seen pa h1 h2 he hp) room1 codeK (later H1 grown tabs1)
  exact ⟨ts, run.nox, told⟩
end
end LmY
set_option Elab.async false
set_option linter.all false
set_option maxRecDepth 100000
set_option maxHeartbeats 4000000
/-! del xs[a:] of a list. -/
namespace L2
open PySem PySem.Spec PyProof.Rows
open PySem.SeqAt
open PySem.AutoSeq1 (wpAny_loadPart')
open PySem.MeetsSeq PySem.MeetsSeq2 PySem.MeetsSeq3
theorem keep_first (a : Nat) (f : Nat → Bool) : ∀ (its : List Value) (m : Nat), (∀ k, k < m + its.length → f k = decide (a ≤ k)) → (its.zipIdx m).filterMap (fun p => if f p.2 = true then none else some p.1) = its.take (a - m)
  | [], m, _ => by simp
  | x :: r, m, h => by
    have ih := keep_first a f r (m + 1) fun k hk => h k (by rw [List.length_cons]; omega)
    have hm := h m (by rw [List.length_cons]; omega)
    rw [List.zipIdx_cons]
    by_cases c : a ≤ m
    · rw [List.filterMap_cons_none (by show (if f m = true then none else some x) = none; rw [hm, decide_eq_true c]; rfl), ih, show a - (m + 1) = 0 by omega, show a - m = 0 by omega]
      rfl
    · rw [List.filterMap_cons_some (b := x) (by show (if f m = true then none else some x) = some x; rw [hm, decide_eq_false c]; rfl), ih, show a - m = (a - (m + 1)) + 1 by omega]
      rfl
section
variable {prog : Program} {w : World} {A : Around} {E : Value → Shared → Prop} {s : Shared}
theorem bounds_from {a n : Nat} (ha : a ≤ n) : sliceBounds (some (a : Int)) none none n = ((a : Int), (n : Int), 1) := by
  simp only [sliceBounds, Option.getD_none]
  have h1 : ¬ ((a : Int) < 0) := by omega
  simp only [h1, if_false, show (1 : Int) > 0 by decide, if_true]
  congr 1
  omega
theorem sel_from {a n k : Nat} (hk : k < n) : (decide ((a : Int) ≤ (k : Int)) && decide ((k : Int) < (n : Int)) && (((k : Int) - (a : Int)) % 1 == 0)) = decide (a ≤ k) := by
  have e1 : decide ((k : Int) < (n : Int)) = true := decide_eq_true (by omega)
  have e2 : ((((k : Int) - (a : Int)) % 1) == 0) = true := by rw [Int.emod_one]; rfl
  rw [e1, e2, Bool.and_true, Bool.and_true]
  by_cases c : a ≤ k
  · rw [decide_eq_true c, decide_eq_true (by omega)]
  · rw [decide_eq_false c, decide_eq_false (by omega)]
/-- list.__delitem__ with a slice from a to the end -/
theorem delItem_from {l sl : Addr} {items : Array Value} {n : Nat} {vl vu : Value} {a : Nat} {Q : Unit → Shared → Prop}
    (here : s.heap.get? l = some { cls := .type "list", data := .seq items n })
    (cut : s.heap.IsSliceOf sl vl vu .none) (low : IsPart vl (some (a : Int))) (high : IsPart vu none) (within : a ≤ items.size)
    (room : items.size ≤ sizeLine) (h : ∀ f : Array Value → Array Value, f items = (items.toList.take a).toArray → Q () { s with heap := s.heap.update l (Obj.mapSeq f) }) :
    wpAny (model prog w) A (delItem (.ref l) (.ref sl)) Q E s := by
  have lst : s.heap.IsList l items := PySem.IsL.isList here
  obtain ⟨cutO, cutAt, cutCls, cutDat⟩ := id cut
  have slT : s.TypeIs (.ref sl) "slice" := ⟨cutO, cutAt, cutCls⟩
  have noStep : ¬ ((rawPart none == rawInt 0) = true) := fun z => by cases z
  refine wpAny_delItem_slot lst.typeIs (by decide) F.slot_list_delitem (wpAny_call_entry F.slot_list_delitem lst.typeIs F.entry_list_delitem ?_ (F.args_list_delitem_2 _ _))
  refine wpAny_bind (m := Builtin.List.listSubscript? (.ref sl)) ?_
  rw [Builtin.List.listSubscript?]
  refine wpAny_bind (wpAny_specialOf slT slice_no_index ?_)
  rw [if_pos (show (none : Option Value).isNone = true from rfl)]
  refine wpAny_pure (wpAny_bind (m := typeOf (.ref sl)) (wpAny_typeOf slT ?_))
  first
    | rw [if_neg (by decide)]
    | refine (PySem.W.KFB.if_not (by decide) ?_)
  rw [listSliceParts_eq]
  refine wpAny_bind (wpAny_bind (wpAny_field cutAt cutDat (x := .none) rfl (wpAny_bind (wpAny_listPart .none ?_))))
  rw [if_neg noStep]
  refine wpAny_bind (wpAny_field cutAt cutDat (x := vl) rfl (wpAny_bind (wpAny_listPart low (wpAny_bind (wpAny_field cutAt cutDat (x := vu) rfl (wpAny_bind (wpAny_listPart high (wpAny_pure ?_))))))))
  unfold Builtin.List.listItems
  refine wpAny_bind (wpAny_bind (wpAny_seqItems here rfl (wpAny_pure (wpAny_bind (wpAny_of_eq ((sliceIndices_raw (some (a : Int)) none none items.size (by simp)).trans (congrArg (pure : Int × Int × Int → Sem (Int × Int × Int)) (bounds_from within))) (wpAny_bind (wpAny_rule ?_)))))))
  refine wpAny_bind (m := updateSeq l _) (wpAny_updateSeq (hz := room) (_hz' := ?_) here rfl ?_)
  · refine wpAny_bind (wpAny_letGo (wpAny_pure ⟨.none, rfl, h _ ?_⟩))
    exact congrArg List.toArray (keep_first a _ items.toList 0 fun k hk => (if_pos (show (1 : Int) > 0 by decide)).trans (sel_from (by rw [Nat.zero_add, Array.length_toList] at hk; exact hk)))
  · refine Nat.le_trans (Nat.le_trans (by rw [List.size_toArray]; exact List.length_filterMap_le _ _) ?_) (Nat.le_add_right _ _)
    rw [List.length_zipIdx, Array.length_toList]
    exact room
end
section
variable {X : Cx}
/-- del xs[a:], at the value level -/
theorem del_from {pins : List (Addr × Obj)} {s : Shared} {σ : St} {H : Hp} {l sl : Addr} {xs : List V} {a : Int} {vl vu : Value} {Q : Unit → Shared → Prop} (I : Inv X pins σ H s)
    (hH : H l = some (.lst xs)) (hs : s.heap.IsSliceOf sl vl vu .none) (pl : IsPart vl (some a)) (pu : IsPart vu none) (h0 : 0 ≤ a) (ha : a ≤ xs.length)
    (h : ∀ s', Inv X pins σ (upd H l (.lst (xs.take a.toNat))) s' → Q () s') :
    wpAny (model X.prog X.w) X.A (delItem (.ref l) (.ref sl)) Q X.xe s := by
  obtain ⟨z, its, n, r, hl, e⟩ := I.lstM hH
  obtain ⟨a', rfl⟩ := Int.eq_ofNat_of_zero_le h0
  simp only [Int.toNat_natCast] at h
  refine delItem_from (a := a') e hs pl pu (by rw [List.size_toArray]; omega) (by rw [List.size_toArray]; omega) fun f hf => h _ ?_
  refine I.lset (its' := its.take a') (t' := s.toks) hH e hf (r.take _) ?_
  rw [List.length_take]
  omega
/-- del xs[a:] -/
def tDelF (to : TE) (tl : TO) : TS := fun D σ H => to σ H fun x H1 => tl σ H1 fun lo H2 => ∃ (l : Addr) (xs : List V) (a : Int), x = .ref l ∧ lo = some a ∧ H2 l = some (.lst xs) ∧ 0 ≤ a ∧ a ≤ xs.length ∧ D.nx σ (upd H2 l (.lst (xs.take a.toNat)))
theorem ps_delF {o : Expr} {lo : Option Expr} {to : TE} {tl : TO} {tpos p2 pos : Pos} (ho : PE X o to) (hl : PO X lo tl) : PS X (.Delete [.Subscript o (.Slice lo none none p2) tpos] pos) (tDelF to tl) := by
  refine ⟨fun pins s σ H D I h => ?_⟩
  refine wpAny_Delete (wpAny_deleteEach_cons (wpAny_delete_Subscript (thn (ho.run pins s σ H _ I h) fun u s1 ⟨x, H1, I1, rx, q1⟩ => ?_)))
  refine wpAny_Slice (thn (hl.run pins s1 σ H1 _ I1 q1) fun vl s2 ⟨l, H2, I2, pl, q2⟩ => ?_)
  rw [evalPart_none]
  refine wpAny_pure ?_
  refine wpAny_pure ?_
  obtain ⟨a, xs, k, rfl, rfl, hH, h0, ha, q⟩ := q2
  cases (show u = Value.ref a from rx)
  have I4 : Inv X pins σ H2 { s2 with heap := s2.heap.push { cls := .type "slice", data := .fields #[vl, .none, .none] } } := I2.kept (t' := s2.toks) fun b ob q => Heap.get?_push_of_some _ q
  exact del_from I4 hH (Heap.IsSliceOf.new ..) pl .none h0 ha fun s3 I3 => wpAny_deleteEach_nil ⟨σ, _, I3, q⟩
end
end L2
set_option Elab.async false
set_option linter.all false
set_option maxRecDepth 100000
set_option maxHeartbeats 4000000
set_option pp.maxSteps 400
/-! changed, with a lambda. -/
namespace Kf
open PySem PySem.Spec PyProof.Rows L2 Sx LmY
abbrev sChanged : Stmt := top 6
theorem scChanged : FnScope ["thing", "leaf", "done", "piece", "around", "first", "parts"] ["thing", "leaf"] (defScope sChanged) := ⟨rfl, rfl, rfl, by decide +kernel, rfl, by decide +kernel, by decide +kernel⟩
/-! ### what it makes -/
def chg (g : Tr → Nat → Tr) : Tr → Nat → Tr
  | .leaf w x, r => g (.leaf w x) r
  | .n0 w, _ => .n0 w
  | .n1 w a, r => .n1 w (chg g a (inner w r))
  | .n2 w a b, r => .n2 w (chg g a (inner w r)) (chg g b (inner w r))
def node (w : Str) : List Tr → Tr
  | [a] => .n1 w a
  | [a, b] => .n2 w a b
  | _ => .n0 w
def stp (g : Tr → Nat → Tr) (st : List Tr) (e : Tr × Nat) : List Tr :=
  if leafy e.1.word = true then st ++ [g e.1 e.2] else st.take (st.length - e.1.kids.length) ++ [node e.1.word (st.drop (st.length - e.1.kids.length))]
def Runs (g : Tr → Nat → Tr) (res : List Tr) : List (Tr × Nat) → List Tr → Prop
  | [], st => st = res
  | e :: es, st => (leafy e.1.word = false → e.1.kids.length ≤ st.length) ∧ Runs g res es (stp g st e)
theorem runs_post {g : Tr → Nat → Tr} {res : List Tr} : ∀ (t : Tr) (r : Nat) (es : List (Tr × Nat)) (st : List Tr), t.Ok → Runs g res es (st ++ [chg g t r]) → Runs g res (t.post r ++ es) st
  | .leaf w x, r, es, st, ok, h => ⟨fun z => (no_leaf z ok.1).elim, by
    show Runs g res es (if leafy w = true then _ else _)
    rw [if_pos ok.1]
    exact h⟩
  | .n0 w, r, es, st, ok, h => ⟨fun _ => Nat.zero_le _, by
    show Runs g res es (if leafy w = true then _ else _)
    rw [if_neg (fun z => no_leaf ok z)]
    show Runs g res es (st.take (st.length - 0) ++ [node w (st.drop (st.length - 0))])
    rw [Nat.sub_zero, List.take_length, List.drop_length]
    exact h⟩
  | .n1 w a, r, es, st, ok, h => by
    show Runs g res (a.post (inner w r) ++ [(.n1 w a, r)] ++ es) st
    rw [List.append_assoc]
    refine runs_post a _ _ _ ok.2 ⟨fun _ => ?_, ?_⟩
    · rw [List.length_append]
      exact Nat.le_add_left 1 _
    · show Runs g res es (if leafy w = true then _ else _)
      rw [if_neg (fun z => no_leaf ok.1 z)]
      show Runs g res es (List.take ((st ++ [chg g a (inner w r)]).length - 1) (st ++ [chg g a (inner w r)]) ++ [node w (List.drop ((st ++ [chg g a (inner w r)]).length - 1) (st ++ [chg g a (inner w r)]))])
      rw [show (st ++ [chg g a (inner w r)]).length - 1 = st.length by simp, List.take_left, List.drop_left]
      exact h
  | .n2 w a b, r, es, st, ok, h => by
    show Runs g res (a.post (inner w r) ++ b.post (inner w r) ++ [(.n2 w a b, r)] ++ es) st
    rw [List.append_assoc, List.append_assoc]
    refine runs_post a _ _ _ ok.2.1 (runs_post b _ _ _ ok.2.2 ⟨fun _ => ?_, ?_⟩)
    · show 2 ≤ (st ++ [chg g a (inner w r)] ++ [chg g b (inner w r)]).length
      rw [List.length_append, List.length_append]
      exact Nat.le_add_left 2 _
    · show Runs g res es (if leafy w = true then _ else _)
      rw [if_neg (fun z => no_leaf ok.1 z)]
      rw [List.append_assoc]
      show Runs g res es (List.take ((st ++ ([chg g a (inner w r)] ++ [chg g b (inner w r)])).length - 2) (st ++ ([chg g a (inner w r)] ++ [chg g b (inner w r)])) ++ [node w (List.drop ((st ++ ([chg g a (inner w r)] ++ [chg g b (inner w r)])).length - 2) (st ++ ([chg g a (inner w r)] ++ [chg g b (inner w r)])))])
      rw [show (st ++ ([chg g a (inner w r)] ++ [chg g b (inner w r)])).length - 2 = st.length by simp, List.take_left, List.drop_left]
      exact h
theorem stp_len {g : Tr → Nat → Tr} {st : List Tr} {e : Tr × Nat} : (stp g st e).length ≤ st.length + 1 := by
  unfold stp
  split
  · rw [List.length_append]
    exact Nat.le_refl _
  · rw [List.length_append, List.length_take, List.length_singleton]
    omega
theorem at_node {H : Hp} {t : Tr} (ok : t.Ok) (nl : leafy t.word = false) {ks : List Tr} {vs : List V} {p : Addr} (len : ks.length = t.kids.length) (h : All2 (At H) ks vs) (hp : H p = some (.tup (.str t.word :: vs))) : At H (node t.word ks) (.ref p) := by
  cases t with
  | leaf w x => exact (no_leaf nl ok.1).elim
  | n0 w =>
    have e : ks = [] := List.length_eq_zero_iff.mp len
    subst e
    cases h
    exact ⟨p, rfl, hp⟩
  | n1 w a =>
    obtain ⟨k, rfl⟩ := List.length_eq_one_iff.mp len
    cases h with
    | cons h1 h2 =>
      cases h2
      exact ⟨p, _, rfl, hp, h1⟩
  | n2 w a b =>
    obtain ⟨k, l, rfl⟩ : ∃ k l, ks = [k, l] := by
      match ks, len with
      | [k, l], _ => exact ⟨k, l, rfl⟩
    cases h with
    | cons h1 h2 =>
      cases h2 with
      | cons h3 h4 =>
        cases h4
        exact ⟨p, _, _, rfl, hp, h1, h3⟩
theorem All2.take {α β : Type} {F : α → β → Prop} : ∀ {l : List α} {m : List β} (n : Nat), All2 F l m → All2 F (l.take n) (m.take n)
  | _, _, 0, _ => by rw [List.take_zero, List.take_zero]; exact .nil
  | _, _, n + 1, .nil => by rw [List.take_nil, List.take_nil]; exact .nil
  | _, _, n + 1, .cons r t => .cons r (t.take n)
theorem All2.drop {α β : Type} {F : α → β → Prop} : ∀ {l : List α} {m : List β} (n : Nat), All2 F l m → All2 F (l.drop n) (m.drop n)
  | _, _, 0, h => h
  | _, _, n + 1, .nil => .nil
  | _, _, n + 1, .cons r t => t.drop n
/-- what changed makes of the lambda's reading tl -/
def TTc : (List V → Hp → VK → Prop) → V → Hp → VK → Prop := fun tl v H Q => ∃ (t : Tr) (g : Tr → Nat → Tr), At H t v ∧ t.Ok ∧ t.deep ≤ 12 ∧
  (∀ (H' : Hp) (t1 : Tr) (v1 : V) (r : Nat) (Q' : VK), (t1, r) ∈ t.post 0 → Same H H' → At H' t1 v1 → leafy t1.word = true → (∀ w H2, Same H' H2 → At H2 (g t1 r) w → Q' w H2) → tl [v1, .int (r : Int)] H' Q') ∧
  ∀ w H', Same H H' → At H' (chg g t 0) w → Q w H'
theorem cut_from (xs : List V) {a : Nat} (h : a ≤ xs.length) : cutV xs (some (a : Int)) none = xs.drop a := by
  unfold cutV
  rw [show HT.sIx xs.length 0 (some (a : Int)) = min a xs.length from HT.sIx_nat _ 0 a, HT.sIx_none, Nat.min_eq_left h]
  exact List.take_of_length_le (by rw [List.length_drop]; exact Nat.le_refl _)
theorem changed_gives {X : Cx} {gp g L : Addr} {dp : FuncData} {cdg : Value} {q : Str} (G : FnOk X.prog X.w X.K X.mg X.base CX0 2 gp dp ["thing"] spPieces) (bG : Binds X.K dp ["thing"] []) (kG : PySem.W.keepIn X.K (.ref gp) = true) (mG : X.mg "pieces_of" = some (.ref gp))
    (mL : X.mg "LEAVES" = some (.ref L)) (tL : ∀ H, SqT X.K H L leafVs) (ml : X.mg "len" = none) :
    Gives2 X ["thing", "leaf", "done", "piece", "around", "first", "parts"] "changed" (defScope sChanged) g cdg (defBody sChanged) "leaf" q ["piece", "around"] 1 TTc := by
  intro f c' s H v Q tl act hr hc h
  obtain ⟨t, gg, hA, hO, hd, hl, q⟩ := h
  refine ⟨_, pss_cons (ps_set (i := 2) scChanged.nd rfl (.inl rfl) (pe_lst pa_nil))
    (pss_cons (ps_for PassesOwn.never rfl (pi_list (pe_call G hr (by rfl) mG kG bG .nil pass0 (pa_cons (pv 0) pa_nil))) (pg_tup (by rfl) (pgs_cons (pg_name (i := 3) scChanged.nd rfl (.inl rfl)) (pgs_cons (pg_name (i := 4) scChanged.nd rfl (.inl rfl)) pgs_nil)))
      (pss_one (ps_if (pt_cmpR op_in_seq (pe_ix ix_tup (pv 3) pe_int (fun _ _ => rfl)) (pe_glob (v := .ref L) (by rfl) mL rfl) (by rfl))
        (pss_one (ps_expr (pe_bm PySem.F.plainAttrs_list PySem.F.slot_list_append PySem.F.type_list_append mt_append (pv 2) (pa_cons (act _ _ _ _ _ (pa_cons (pv 3) (pa_cons (pv 4) pa_nil)) (by rfl) (by rfl)) pa_nil))))
        (pss_cons (ps_set (i := 5) scChanged.nd rfl (.inl rfl) (pe_op op_add (pe_op op_sub (pe_callB call_len_seq (by rfl) ml PySem.boot_len (pa_cons (pv 2) pa_nil)) (pe_callB call_len_seq (by rfl) ml PySem.boot_len (pa_cons (pv 3) pa_nil))) pe_int))
        (pss_cons (ps_set (i := 6) scChanged.nd rfl (.inl rfl) (pe_slice sl_list (pv 2) (po_some (pv 5)) po_none))
        (pss_cons (ps_delF (pv 2) (po_some (pv 5)))
        (pss_one (ps_expr (pe_bm PySem.F.plainAttrs_list PySem.F.slot_list_append PySem.F.type_list_append mt_append (pv 2) (pa_cons (pe_tup (pa_cons (pe_ix ix_tup (pv 3) pe_int (fun _ _ => rfl)) (StX.pa_star (pv 6) pa_nil))) pa_nil))))))))))
    (pss_one (ps_ret (pe_ix ix_list (pv 2) pe_int (fun _ _ => rfl))))), ?_⟩
  refine ⟨Nat.zero_le _, fun pd nd => ?_⟩
  have s1 : Same H (upd H pd (.lst [])) := same_new nd
  refine ⟨_, rfl, v, t, rfl, hA.keep (tups_same s1), hO, hd, fun p H1 vf sm np hp rows => ?_⟩
  have hD1 : H1 pd = some (.lst []) := sm _ _ upd_same
  have npd : p ≠ pd := fun z => by
    rw [z, upd_same] at np
    cases np
  have lenP : vf.length ≤ 4096 := by
    have l1 := rows.len
    rw [post_len] at l1
    have l3 := size_deep t
    have l4 : 2 ^ t.deep ≤ 2 ^ 12 := Nat.pow_le_pow_right (by decide) hd
    omega
  have sH : ∀ {H' : Hp}, But pd H1 H' → Same H H' := fun b c u e => b c u (ne_of_none e nd) (sm _ _ (s1 _ _ e))
  refine ⟨p, rfl, ⟨_, .inl (.inl hp)⟩, for_list (K := X.K) (a := p) (xs := vf) (fun i σ H' => ∃ (st : List Tr) (vd : List V) (y3 y4 y5 y6 : Option V), σ = [some v, some (.ref f), some (.ref pd), y3, y4, y5, y6] ∧ But pd H1 H' ∧ H' pd = some (.lst vd) ∧ All2 (At H') st vd ∧ Runs gg [chg gg t 0] ((t.post 0).drop i) st ∧ st.length ≤ i)
    ⟨[], [], none, none, none, none, rfl, But.refl _ _, hD1, .nil, ?_, Nat.le_refl _⟩ (fun i σ H' _ ⟨_, _, _, _, _, _, _, b, _⟩ => .inl (.inl (b _ _ npd hp))) ?_ ?_⟩
  · have z := runs_post (g := gg) (res := [chg gg t 0]) t 0 [] [] hO rfl
    rw [List.append_nil] at z
    exact z
  · rintro i y σ H' hy ⟨st, vd, y3, y4, y5, y6, rfl, b, hD, all, runs, lst⟩
    obtain ⟨⟨t1, r1⟩, he, ⟨q1, x1, rfl, h1, a1⟩⟩ := rows.get hy
    have k1 : Tups H1 H' := b.tups hD1
    have a2 : At H' t1 x1 := At.keep k1 a1
    have mem1 := List.mem_of_getElem? he
    have ok1 : t1.Ok := post_ok t 0 hO (t1, r1) mem1
    obtain ⟨p1, us, rfl, hp1, lus, kids, leafs⟩ := a2.view ok1
    have il : i < (t.post 0).length := (List.getElem?_eq_some_iff.mp he).1
    have ed : (t.post 0).drop i = (t1, r1) :: (t.post 0).drop (i + 1) := by
      rw [List.drop_eq_getElem_cons il, (List.getElem?_eq_some_iff.mp he).2]
    rw [ed] at runs
    obtain ⟨enough, runs⟩ := runs
    have lenI : i < vf.length := by rw [← rows.len]; exact il
    have lvd := all.len
    refine ⟨q1, [.ref p1, .int (r1 : Int)], rfl, .inl (.inl (k1 _ _ h1)), rfl, .ref p1, [.int (r1 : Int)], rfl, .int (r1 : Int), [], rfl, rfl, ?_⟩
    refine ⟨_, rfl, p1, _, 0, _, rfl, rfl, .inl (.inl hp1), head_at _ _, L, leafVs, rfl, .inr (tL H'), rfl, rfl, _, rfl, ?_⟩
    show if leafy t1.word = true then _ else _
    cases lf : leafy t1.word with
    | true =>
      refine iteT ?_
      have es : stp gg st (t1, r1) = st ++ [gg t1 r1] := if_pos lf
      rw [es] at runs
      refine ⟨_, rfl, .inl ⟨rfl, _, .inl (.inl hD)⟩, rfl, _, rfl, _, rfl, rfl, sH b _ _ hc, hl H' t1 (.ref p1) r1 _ mem1 (sH b) a2 lf fun w H2 sm2 aw => ?_⟩
      refine ⟨pd, vd, w, rfl, rfl, sm2 _ _ hD, line_of (by omega), ?_⟩
      have k3 : Tups H2 (upd H2 pd (.lst (vd ++ [w]))) := tups_put fun xs z => by
        rw [sm2 _ _ hD] at z
        cases z
      refine ⟨st ++ [gg t1 r1], vd ++ [w], _, _, _, _, rfl, (b.trans (but_same sm2)).own, upd_same, (all.mono fun a c h => h.keep ((tups_same sm2).trans k3)).app (.one (aw.keep k3)), runs, ?_⟩
      rw [List.length_append, List.length_singleton]
      omega
    | false =>
      refine iteF ?_
      have kd := kids lf
      have len1 := kd.len
      have en : t1.kids.length ≤ st.length := enough lf
      have es : stp gg st (t1, r1) = st.take (st.length - t1.kids.length) ++ [node t1.word (st.drop (st.length - t1.kids.length))] := if_neg (by rw [lf]; exact Bool.false_ne_true)
      rw [es] at runs
      refine ⟨_, rfl, pd, vd, rfl, .inl (.inl (.inl hD)), _, rfl, p1, _, rfl, .inr (.inl (.inl hp1)), _, _, rfl, rfl, _, _, rfl, rfl, ?_⟩
      show gName 5 (.int (((vd.length : Nat) : Int) - ((V.str t1.word :: us).length : Nat) + 1)) _ _ _
      rw [show ((vd.length : Int) - ((V.str t1.word :: us).length : Nat) + 1) = ((vd.length - us.length : Nat) : Int) by rw [List.length_cons]; omega]
      refine ⟨_, rfl, _, rfl, _, rfl, pd, vd, rfl, .inl (.inl hD), fun c nc => ?_⟩
      rw [cut_from vd (by omega : vd.length - us.length ≤ vd.length)]
      have ncd : c ≠ pd := fun z => by
        rw [z, hD] at nc
        cases nc
      refine ⟨_, rfl, _, rfl, _, rfl, pd, vd, _, rfl, rfl, (by rw [upd_ne ncd.symm]; exact hD), by omega, by omega, ?_⟩
      rw [Int.toNat_natCast]
      generalize hH2 : upd (upd H' c (.lst (vd.drop (vd.length - us.length)))) pd (.lst (vd.take (vd.length - us.length))) = H2
      have k2 : Tups H' H2 := by
        rw [← hH2]
        refine (tups_same (same_new nc)).trans (tups_put fun xs z => ?_)
        rw [upd_ne ncd.symm, hD] at z
        cases z
      have hD2 : H2 pd = some (.lst (vd.take (vd.length - us.length))) := by rw [← hH2, upd_same]
      have hc2 : H2 c = some (.lst (vd.drop (vd.length - us.length))) := by rw [← hH2, upd_ne ncd, upd_same]
      have b2 : But pd H1 H2 := by
        rw [← hH2]
        exact (b.new nc).own
      have hp2 := k2 _ _ hp1
      refine ⟨_, rfl, .inl ⟨rfl, _, .inl (.inl hD2)⟩, _, rfl, p1, _, 0, _, rfl, rfl, .inl (.inl hp2), head_at _ _, _, rfl, c, _, rfl, .inr (.inl (.inl hc2)), ?_⟩
      have hn : st.length - t1.kids.length = vd.length - us.length := by omega
      have cutl : (vd.drop (vd.length - us.length)).length ≤ 4096 := by rw [List.length_drop]; omega
      refine ⟨(by show (V.str t1.word :: (vd.drop (vd.length - us.length) ++ [])).length ≤ sizeLine; rw [List.append_nil]; exact Nat.le_trans (Nat.succ_le_succ cutl) (by decide)), fun q2 nq2 => ?_⟩
      have ndq2 : pd ≠ q2 := ne_of_none hD2 nq2
      refine ⟨pd, vd.take (vd.length - us.length), .ref q2, rfl, rfl, (by rw [upd_ne ndq2]; exact hD2), line_of (by rw [List.length_take]; omega), ?_⟩
      generalize hH3 : upd (upd H2 q2 (.tup (.str t1.word :: (vd.drop (vd.length - us.length) ++ [])))) pd (.lst (vd.take (vd.length - us.length) ++ [.ref q2])) = H3
      rw [List.append_nil] at hH3
      have k3 : Tups H2 H3 := by
        rw [← hH3]
        refine (tups_same (same_new nq2)).trans (tups_put fun xs z => ?_)
        rw [upd_ne ndq2, hD2] at z
        cases z
      have hq3 : H3 q2 = some (.tup (.str t1.word :: vd.drop (vd.length - us.length))) := by rw [← hH3, upd_ne ndq2.symm, upd_same]
      have hD3 : H3 pd = some (.lst (vd.take (vd.length - us.length) ++ [.ref q2])) := by rw [← hH3, upd_same]
      have all3 : All2 (At H3) st vd := all.mono fun a c h => h.keep (k2.trans k3)
      rw [hn] at runs
      refine ⟨_, _, _, _, _, _, rfl, ?_, hD3, (all3.take _).app (.one (at_node ok1 lf ?_ (all3.drop (vd.length - us.length)) hq3)), runs, ?_⟩
      · rw [← hH3]
        exact (b2.new nq2).own
      · rw [List.length_drop]
        omega
      · rw [List.length_append, List.length_take, List.length_singleton]
        omega
  · rintro σ H' ⟨st, vd, y3, y4, y5, y6, rfl, b, hD, all, runs, lst⟩
    rw [← rows.len, List.drop_length] at runs
    have e2 : st = [chg gg t 0] := runs
    subst e2
    cases all with
    | cons h1 h2 =>
      cases h2
      refine ⟨_, rfl, pd, _, 0, _, rfl, rfl, .inl (.inl hD), atI_nat (j := 0) rfl, ?_⟩
      exact q _ _ (sH b) h1
end Kf
set_option Elab.async false
set_option linter.all false
set_option maxRecDepth 100000
set_option maxHeartbeats 4000000
set_option pp.maxSteps 400
/-! Trees as data; put_in, taken, put_for. -/
namespace Kf
open PySem PySem.Spec PyProof.Rows L2 Sx LmY
/-! ### trees as data -/
def datV : V → PyData
  | .int i => .int i
  | .str z => .str z
  | _ => .none
def Tr.dat : Tr → PyData
  | .leaf w x => .tuple [.str w, datV x]
  | .n0 w => .tuple [.str w]
  | .n1 w a => .tuple [.str w, a.dat]
  | .n2 w a b => .tuple [.str w, a.dat, b.dat]
theorem leaf_val {w : Str} {x : V} (ok : (Tr.leaf w x).Ok) : (∃ i, x = .int i) ∨ ∃ z, x = .str z := ok.2.elim (fun h => .inl h.1) (fun h => .inr h.1)
theorem At.dp {K : PySem.W.Frag} {H : Hp} : ∀ {t : Tr} {v : V}, t.Ok → At H t v → Dp K H v t.dat
  | .leaf w x, _, ok, ⟨p, e, h⟩ => by
    subst e
    refine .tup (.inl (.inl h)) (.cons (.str w) (.cons ?_ .nil))
    rcases leaf_val ok with ⟨i, rfl⟩ | ⟨z, rfl⟩
    · exact .int i
    · exact .str z
  | .n0 w, _, ok, ⟨p, e, h⟩ => by
    subst e
    exact .tup (.inl (.inl h)) (.cons (.str w) .nil)
  | .n1 w a, _, ok, ⟨p, y, e, h, ha⟩ => by
    subst e
    exact .tup (.inl (.inl h)) (.cons (.str w) (.cons (ha.dp ok.2) .nil))
  | .n2 w a b, _, ok, ⟨p, y, z, e, h, ha, hb⟩ => by
    subst e
    exact .tup (.inl (.inl h)) (.cons (.str w) (.cons (ha.dp ok.2.1) (.cons (hb.dp ok.2.2) .nil)))
theorem eqv_val {x y : V} (hx : (∃ i, x = .int i) ∨ ∃ z, x = .str z) (hy : (∃ i, y = .int i) ∨ ∃ z, y = .str z) : PyData.eqv (datV x) (datV y) = decide (x = y) := by
  rcases hx with ⟨i, rfl⟩ | ⟨z, rfl⟩ <;> rcases hy with ⟨j, rfl⟩ | ⟨u, rfl⟩
  · show (i == j) = _
    by_cases e : i = j
    · subst e
      simp
    · rw [beq_eq_false_iff_ne.mpr e, decide_eq_false (fun z => e (by injection z))]
  · show false = _
    rw [decide_eq_false (fun z => by cases z)]
  · show false = _
    rw [decide_eq_false (fun z => by cases z)]
  · show (z == u) = _
    by_cases e : z = u
    · subst e
      simp
    · rw [beq_eq_false_iff_ne.mpr e, decide_eq_false (fun z => e (by injection z))]
theorem val_tree {x : V} (hx : (∃ i, x = .int i) ∨ ∃ z, x = .str z) (t : Tr) : PyData.eqv (datV x) t.dat = false ∧ PyData.eqv t.dat (datV x) = false := by
  rcases hx with ⟨i, rfl⟩ | ⟨z, rfl⟩ <;> cases t <;> exact ⟨rfl, rfl⟩
theorem eqv_dat : ∀ t u : Tr, t.Ok → u.Ok → (PyData.eqv t.dat u.dat = true ↔ t = u)
  | .leaf w x, .leaf w2 x2, ht, hu => by
    show (w == w2 && (PyData.eqv (datV x) (datV x2) && true)) = true ↔ _
    rw [eqv_val (leaf_val ht) (leaf_val hu), Bool.and_true, Bool.and_eq_true, beq_iff_eq, decide_eq_true_eq]
    exact ⟨fun h => by rw [h.1, h.2], fun h => by injection h with a b; exact ⟨a, b⟩⟩
  | .leaf w x, .n0 w2, ht, hu => ⟨fun h => by
    have z : (w == w2 && false) = true := h
    rw [Bool.and_false] at z
    exact (Bool.false_ne_true z).elim, fun h => by cases h⟩
  | .leaf w x, .n1 w2 a, ht, hu => ⟨fun h => by
    have z : (w == w2 && (PyData.eqv (datV x) a.dat && true)) = true := h
    rw [(val_tree (leaf_val ht) a).1, Bool.false_and, Bool.and_false] at z
    exact (Bool.false_ne_true z).elim, fun h => by cases h⟩
  | .leaf w x, .n2 w2 a b, ht, hu => ⟨fun h => by
    have z : (w == w2 && (PyData.eqv (datV x) a.dat && false)) = true := h
    rw [Bool.and_false, Bool.and_false] at z
    exact (Bool.false_ne_true z).elim, fun h => by cases h⟩
  | .n0 w, .leaf w2 x, ht, hu => ⟨fun h => by
    have z : (w == w2 && false) = true := h
    rw [Bool.and_false] at z
    exact (Bool.false_ne_true z).elim, fun h => by cases h⟩
  | .n0 w, .n0 w2, ht, hu => by
    show (w == w2 && true) = true ↔ _
    rw [Bool.and_true, beq_iff_eq]
    exact ⟨fun h => by rw [h], fun h => by injection h⟩
  | .n0 w, .n1 w2 a, ht, hu => ⟨fun h => by
    have z : (w == w2 && false) = true := h
    rw [Bool.and_false] at z
    exact (Bool.false_ne_true z).elim, fun h => by cases h⟩
  | .n0 w, .n2 w2 a b, ht, hu => ⟨fun h => by
    have z : (w == w2 && false) = true := h
    rw [Bool.and_false] at z
    exact (Bool.false_ne_true z).elim, fun h => by cases h⟩
  | .n1 w a, .leaf w2 x, ht, hu => ⟨fun h => by
    have z : (w == w2 && (PyData.eqv a.dat (datV x) && true)) = true := h
    rw [(val_tree (leaf_val hu) a).2, Bool.false_and, Bool.and_false] at z
    exact (Bool.false_ne_true z).elim, fun h => by cases h⟩
  | .n1 w a, .n0 w2, ht, hu => ⟨fun h => by
    have z : (w == w2 && false) = true := h
    rw [Bool.and_false] at z
    exact (Bool.false_ne_true z).elim, fun h => by cases h⟩
  | .n1 w a, .n1 w2 a2, ht, hu => by
    show (w == w2 && (PyData.eqv a.dat a2.dat && true)) = true ↔ _
    rw [Bool.and_true, Bool.and_eq_true, beq_iff_eq, eqv_dat a a2 ht.2 hu.2]
    exact ⟨fun h => by rw [h.1, h.2], fun h => by injection h with a b; exact ⟨a, b⟩⟩
  | .n1 w a, .n2 w2 a2 b2, ht, hu => ⟨fun h => by
    have z : (w == w2 && (PyData.eqv a.dat a2.dat && false)) = true := h
    rw [Bool.and_false, Bool.and_false] at z
    exact (Bool.false_ne_true z).elim, fun h => by cases h⟩
  | .n2 w a b, .leaf w2 x, ht, hu => ⟨fun h => by
    have z : (w == w2 && (PyData.eqv a.dat (datV x) && false)) = true := h
    rw [Bool.and_false, Bool.and_false] at z
    exact (Bool.false_ne_true z).elim, fun h => by cases h⟩
  | .n2 w a b, .n0 w2, ht, hu => ⟨fun h => by
    have z : (w == w2 && false) = true := h
    rw [Bool.and_false] at z
    exact (Bool.false_ne_true z).elim, fun h => by cases h⟩
  | .n2 w a b, .n1 w2 a2, ht, hu => ⟨fun h => by
    have z : (w == w2 && (PyData.eqv a.dat a2.dat && false)) = true := h
    rw [Bool.and_false, Bool.and_false] at z
    exact (Bool.false_ne_true z).elim, fun h => by cases h⟩
  | .n2 w a b, .n2 w2 a2 b2, ht, hu => by
    show (w == w2 && (PyData.eqv a.dat a2.dat && (PyData.eqv b.dat b2.dat && true))) = true ↔ _
    rw [Bool.and_true, Bool.and_eq_true, Bool.and_eq_true, beq_iff_eq, eqv_dat a a2 ht.2.1 hu.2.1, eqv_dat b b2 ht.2.2 hu.2.2]
    exact ⟨fun h => by rw [h.1, h.2.1, h.2.2], fun h => by injection h with a b c; exact ⟨a, b, c⟩⟩
/-- its texts can stand -/
def Tr.Lay : Tr → Prop
  | .leaf w x => NmOk w ∧ ∀ z, x = .str z → NmOk z
  | .n0 w => NmOk w
  | .n1 w a => NmOk w ∧ a.Lay
  | .n2 w a b => NmOk w ∧ a.Lay ∧ b.Lay
theorem lay_dat : ∀ t : Tr, t.Ok → t.Lay → PyData.canLay0 t.dat = true ∧ PyData.depth t.dat = t.deep
  | .leaf w x, ok, h => by
    rcases leaf_val ok with ⟨i, rfl⟩ | ⟨z, rfl⟩
    · refine ⟨?_, rfl⟩
      show (w.cps.all (· < 0x110000) && (true && true)) = true
      rw [h.1]
      rfl
    · refine ⟨?_, rfl⟩
      show (w.cps.all (· < 0x110000) && (z.cps.all (· < 0x110000) && true)) = true
      rw [h.1, h.2 z rfl]
      rfl
  | .n0 w, ok, h => by
    refine ⟨?_, rfl⟩
    show (w.cps.all (· < 0x110000) && true) = true
    rw [show w.cps.all (· < 0x110000) = true from h]
    rfl
  | .n1 w a, ok, h => by
    obtain ⟨h1, h2⟩ := lay_dat a ok.2 h.2
    refine ⟨?_, ?_⟩
    · show (w.cps.all (· < 0x110000) && (PyData.canLay0 a.dat && true)) = true
      rw [h.1, h1]
      rfl
    · show max 0 (max (PyData.depth a.dat) 0) + 1 = a.deep + 1
      rw [h2]
      omega
  | .n2 w a b, ok, h => by
    obtain ⟨h1, h2⟩ := lay_dat a ok.2.1 h.2.1
    obtain ⟨h3, h4⟩ := lay_dat b ok.2.2 h.2.2
    refine ⟨?_, ?_⟩
    · show (w.cps.all (· < 0x110000) && (PyData.canLay0 a.dat && (PyData.canLay0 b.dat && true))) = true
      rw [h.1, h1, h3]
      rfl
    · show max 0 (max (PyData.depth a.dat) (max (PyData.depth b.dat) 0)) + 1 = max a.deep b.deep + 1
      rw [h2, h4]
      omega
theorem shaped_dat {t : Tr} (ok : t.Ok) (h : t.Lay) (d : t.deep ≤ 64) : SeqAt.shaped t.dat = true := by
  obtain ⟨h1, h2⟩ := lay_dat t ok h
  show (PyData.canLay0 t.dat && decide (PyData.depth t.dat ≤ 64)) = true
  rw [h1, h2, decide_eq_true d]
  rfl
theorem post_lay : ∀ (t : Tr) (r : Nat), t.Lay → ∀ e ∈ t.post r, e.1.Lay
  | .leaf w x, r, h, e, he => by rw [List.mem_singleton.mp he]; exact h
  | .n0 w, r, h, e, he => by rw [List.mem_singleton.mp he]; exact h
  | .n1 w a, r, h, e, he => by
    rcases List.mem_append.mp he with z | z
    · exact post_lay a _ h.2 e z
    · rw [List.mem_singleton.mp z]
      exact h
  | .n2 w a b, r, h, e, he => by
    rcases List.mem_append.mp he with z | z
    · rcases List.mem_append.mp z with z | z
      · exact post_lay a _ h.2.1 e z
      · exact post_lay b _ h.2.2 e z
    · rw [List.mem_singleton.mp z]
      exact h
end Kf
set_option Elab.async false
set_option linter.all false
set_option maxRecDepth 100000
set_option maxHeartbeats 4000000
set_option pp.maxSteps 400
/-! put_in, taken, put_for. -/
namespace Kf
open PySem PySem.Spec PyProof.Rows L2 Sx LmY LamX NdefX
abbrev sPutIn : Stmt := top 27
theorem scPutIn : FnScope ["body", "term"] ["body", "term"] (defScope sPutIn) := ⟨rfl, rfl, rfl, by decide +kernel, rfl, by decide +kernel, by decide +kernel⟩
/-- the tree new where the tree old stands -/
def sub (old new : Nat → Tr) (t : Tr) (r : Nat) : Tr := if PyData.eqv t.dat (old r).dat = true then new r else t
abbrev bnd (r : Nat) : Tr := .leaf "bound" (.int (r : Int))
abbrev nme (z : Str) : Tr := .leaf "name" (.str z)
def putB (u t : Tr) : Tr := chg (sub bnd fun _ => u) t 0
def takeN (z : Str) (t : Tr) : Tr := chg (sub (fun _ => nme z) bnd) t 0
def putN (z : Str) (u t : Tr) : Tr := chg (sub (fun _ => nme z) fun _ => u) t 0
abbrev lq (x : Str) : Str := x ++ ".<locals>." ++ "<lambda>"
theorem same_extN {H H' : Hp} (s : Same H H') : ExtN H H' := fun b o e _ => s b o e
theorem extN_tups {H H' : Hp} (s : ExtN H H') : Tups H H' := fun b xs e => s b _ e fun ps z => by cases z
def spPutIn (T : List (Addr × Str)) : Sp := fun vs H Q _ => ∃ (v1 v2 : V) (t u : Tr), vs = [v1, v2] ∧ At H t v1 ∧ t.Ok ∧ t.Lay ∧ t.deep ≤ 12 ∧ At H u v2 ∧ Tabs T H ∧ ∀ w H', ExtN H H' → Tabs T H' → At H' (putB u t) w → Q w H'
theorem ok_bnd (r : Nat) : (bnd r).Ok := ⟨by decide +kernel, .inl ⟨⟨_, rfl⟩, by decide +kernel⟩⟩
theorem ok_nme (z : Str) : (nme z).Ok := ⟨by decide +kernel, .inr ⟨⟨_, rfl⟩, rfl⟩⟩
theorem sh_bnd (r : Nat) : SeqAt.shaped (bnd r).dat = true := shaped_dat (ok_bnd r) ⟨by decide +kernel, fun z e => by cases e⟩ (by show 1 ≤ 64; decide)
theorem sh_nme {z : Str} (h : NmOk z) : SeqAt.shaped (nme z).dat = true := shaped_dat (ok_nme z) ⟨by decide +kernel, fun y e => by injection e with e; rw [← e]; exact h⟩ (by show 1 ≤ 64; decide)
/-- what the three rest on -/
structure Put (P : Program) (w : World) (K : PySem.W.Frag) (mg : Str → Option Value) (base : Heap) (T : List (Addr × Str)) (gc gp L : Addr) (dc dp : FuncData) : Prop where
  C : Fun K "changed" "changed" sChanged gc dc
  bC : Binds K dc ["thing", "leaf"] []
  mC : mg "changed" = some (.ref gc)
  G : FnOk P w K mg base CX0 2 gp dp ["thing"] spPieces
  bG : Binds K dp ["thing"] []
  kG : PySem.W.keepIn K (.ref gp) = true
  mG : mg "pieces_of" = some (.ref gp)
  mL : mg "LEAVES" = some (.ref L)
  tL : ∀ H, SqT K H L leafVs
  ml : mg "len" = none
theorem leaf_deep {t : Tr} (ok : t.Ok) (h : leafy t.word = true) : t.deep ≤ 64 := by
  cases t with
  | leaf w x => show 1 ≤ 64; decide
  | n0 w => show 1 ≤ 64; decide
  | n1 w a => exact (no_leaf ok.1 h).elim
  | n2 w a b => exact (no_leaf ok.1 h).elim
section
variable {P : Program} {w : World} {K : PySem.W.Frag} {mg : Str → Option Value} {base : Heap} {T : List (Addr × Str)} {gc gp L : Addr} {dc dp : FuncData}
theorem ok_putin {f c PT : Addr} {oc kV dcv pm ct : Value} {od an : Option Addr} {osl : Array (Option Value)}
    (lk : K.lookup f = some ⟨oc, od, .func (PySem.W.fnOf "put_in" "put_in" (defArgs sPutIn) (defBody sPutIn) (defScope sPutIn) .none kV dcv pm an (.ref c) ct), osl⟩) (hcd : PySem.W.codeIn K (.ref c) "put_in" = true) (tab : TabB base mg c PT)
    (hm : (PT, lq "put_in") ∈ T) (hu : ∀ p ∈ T, p.1 = PT → p.2 = lq "put_in") (W : Put P w K mg base T gc gp L dc dp) :
    FnOk P w K mg base CX0 4 f (PySem.W.fnOf "put_in" "put_in" (defArgs sPutIn) (defBody sPutIn) (defScope sPutIn) .none kV dcv pm an (.ref c) ct) ["body", "term"] (spPutIn T) := by
  obtain ⟨oc2, od2, kV2, doc2, pm2, an2, cdv2, ct2, osl2, rfl, lk2, hcd2⟩ := W.C.ex
  refine fn_of lk hcd scPutIn (fun vs H Q E h => ?_) fun A outer s H vs Q E hr h => ?_
  · obtain ⟨v1, v2, t, u, rfl, _⟩ := h
    rfl
  obtain ⟨v1, v2, t, u, rfl, hA, hO, hL, hd, hB, hT, q⟩ := h
  refine ⟨_, pss_one (ps_ret (pe_lamcall2 (T := T) (js := [1]) (ps := ["piece", "around"]) (a0 := "thing") (a := "leaf") (by rfl) W.mC W.C.kp lk2 hcd2 W.bC scChanged rfl (.inl rfl)
    (changed_gives W.G W.bG W.kG W.mG W.mL W.tL W.ml) (pv 0) tab rfl hm hu hr (nscope_by (N := ["piece", "around", "term"]) (fr := ["term"]) (by decide +kernel)) (show ndefB (defScope sPutIn) _ ["term"] = true from by decide +kernel) rfl (by rfl)
    (fun _ _ _ _ _ us hl => match us, hl with | [_, _], _ => rfl)
    (fun A outer sh hp fo k hr2 => pe_ifExp (pt_cmpR (show OpR _ (compareOp .Eq) (rEqD K) from op_eqD hr2.units) (pv 0) (pe_tup (pa_cons pe_str (pa_cons (pv 1) pa_nil))) (nomark _)) (pv 2) (pv 0)))), ?_⟩
  refine ⟨_, rfl, hT, fun H1 e1 hT1 => ?_⟩
  refine ⟨t, sub bnd fun _ => u, hA.keep (extN_tups e1), hO, hd, fun H' t1 v1 r Q' mem sm a1 lf k => ?_, fun w H' sm a => q w H' (e1.trans (same_extN sm)) (hT1.ext sm) a⟩
  have ok1 : t1.Ok := post_ok t 0 hO (t1, r) mem
  have ly1 : t1.Lay := post_lay t 0 hL (t1, r) mem
  refine ⟨_, rfl, _, rfl, (by show 2 ≤ sizeLine; decide), fun p np => ?_⟩
  have sp : Same H' (upd H' p (.tup [.str "bound", .int (r : Int)])) := same_new np
  refine ⟨t1.dat, (bnd r).dat, (a1.keep (tups_same sp)).dp ok1, At.dp (ok_bnd r) ⟨p, rfl, upd_same⟩, shaped_dat ok1 ly1 (leaf_deep ok1 lf), sh_bnd r, _, rfl, ?_⟩
  have e2 : ∀ {b : Bool}, PyData.eqv t1.dat (bnd r).dat = b → sub bnd (fun _ => u) t1 r = if b = true then u else t1 := fun {b} e => by
    unfold sub
    rw [e]
  cases eb : PyData.eqv t1.dat (bnd r).dat with
  | true =>
    refine iteT ⟨_, rfl, k _ _ sp ?_⟩
    rw [e2 eb]
    exact hB.keep ((extN_tups e1).trans ((tups_same sm).trans (tups_same sp)))
  | false =>
    refine iteF ⟨_, rfl, k _ _ sp ?_⟩
    rw [e2 eb]
    exact a1.keep (tups_same sp)
end
end Kf
set_option Elab.async false
set_option linter.all false
set_option maxRecDepth 100000
set_option maxHeartbeats 4000000
/-! An exception that its suite keeps under another name: it is tracked behind the suite. -/
namespace Xk
open PySem PySem.Spec PyProof.Rows L2
/-- an exception of the class c, with the own dict d, at a -/
def ExK (c : Value) (d : Option Addr) (a : Addr) : HO := .ext fun h => ∃ (ob : Obj) (us : Array Value), h.get? a = some ob ∧ Zc c d ob ∧ ob.data = .fields us
theorem exK_ok {P : Program} {w : World} {H : Hp} {h : Heap} {a : Addr} {c : Value} {d : Option Addr} {ob : Obj} {us : Array Value} (e : h.get? a = some ob) (z : Zc c d ob) (dat : ob.data = .fields us) : ObjOk P w H h a (ExK c d a) :=
  ⟨⟨ob, us, e, z, dat⟩, ⟨ob, e⟩, fun _ _ ⟨o2, u2, q1, q2⟩ keep => ⟨o2, u2, keep o2 q1, q2⟩⟩
section
variable {X : Cx} {pins : List (Addr × Obj)} {σ : L2.St} {H : Hp} {s : Shared}
/-- an object that no one speaks of comes to be tracked -/
theorem inv_track {a : Addr} {o : HO} (I : Inv X pins σ H s) (away : X.s_0.heap.get? a = none) (free : H a = none) (nL : a ≠ X.env.locals) (nC : ∀ x c, X.env.cells.lookup x = some c → c ≠ a) (nP : ∀ p ∈ X.pn ++ pins, p.1 ≠ a) (new : ObjOk X.prog X.w (upd H a o) s.heap a o) :
    Inv X pins σ (upd H a o) s := by
  have far : ∀ {b : Addr} {u : HO}, H b = some u → b ≠ a := fun e z => by
    rw [z, free] at e
    cases e
  have un : Un X.fs X.ex X.H_0 (upd H a o) X.s_0.heap s.heap := {
    keep := I.base.keep
    slot := I.base.slot
    free := fun b ob e n m => by
      rw [upd_ne (fun z => by rw [z, away] at e; cases e)]
      exact I.base.free b ob e n m
    there := I.base.there
    tups := fun b xs e => by
      have q := I.base.tups b xs e
      rw [upd_ne (far q)]
      exact q
    frzs := fun b ob u e => by
      have q := I.base.frzs b ob u e
      rw [upd_ne (far q)]
      exact q
    tbls := fun b ps e => by
      obtain ⟨more, q⟩ := I.base.tbls b ps e
      exact ⟨more, by rw [upd_ne (far q)]; exact q⟩ }
  refine ⟨I.ok, I.os, I.bare, un, I.loc, I.cell, ?_, fun x c e => ?_, fun p hp => ?_, I.hok.laidN (fun _ _ e => e) free new, I.len⟩
  · rw [upd_ne nL.symm]
    exact I.free
  · rw [upd_ne (nC x c e)]
    exact I.freeC x c e
  · obtain ⟨q1, q2, q3⟩ := I.pin p hp
    exact ⟨q1, by rw [upd_ne (nP p hp)]; exact q2, q3⟩
end
/-- what the clause wishes, where its suite falls through with the exception kept -/
def wHold (K : PySem.W.Frag) (c : Value) (i : Nat) (ts : Addr → Value → Option Addr → TS) (Wout : WX) (D : Ends) : WX := fun cls d σ H =>
  ∃ yes, PySem.W.exmOne K cls c = some yes ∧
    (yes = true → ∀ a, H a = none → ts a cls d { nx := fun τ G => G a = none → D.nx (τ.set i none) (upd G a (ExK cls d a)), rt := fun _ _ => False, bk := fun _ _ => False, ct := fun _ _ => False } (σ.set i (some (.ref a))) H) ∧ (yes = false → Wout cls d σ H)
section
variable {X : Cx} {x n : Str} {c : Value} {i : Nat} {body suite : List Stmt} {one : Stmt} {np pos pos' : Pos} {tb : WX → TS} {ts : Addr → Value → Option Addr → TS} {Wout : WX}
/-- try: body / except x as n: suite; behind the suite the exception's object is tracked -/
theorem ps_try_hold (stk : X.stack = X.env :: X.outer) (fr : X.env.frame = some X.env.locals) (nd : X.N.Nodup) (at_ : X.N[i]? = some n) (loc : X.env.kindOf n = some .local) (cls_ : Names X x c) (tk : Takes X Wout) (noEx : X.ex = [])
    (doBody : ∀ (W : WX) (pn : List (Addr × Obj)) (xe : Value → Shared → Prop), Takes (X.tr pn xe) W → PassesOwn (model X.prog X.w) X.A X.env xe → PSs (X.tr pn xe) body (tb W))
    (doSuite : ∀ (a : Addr) (ob : Obj) (cls : Value) (d : Option Addr) (pn : List (Addr × Obj)), Zc cls d ob → (∃ us, ob.data = .fields us) → PSs (X.suite a ((a, ob) :: pn)) (one :: suite) (ts a cls d)) :
    PS X (.Try body [.ExceptHandler (some (.Name x np)) (some n) (one :: suite) pos'] [] [] pos) (fun D σ H => tb (wHold X.K c i ts Wout D) D σ H) := by
  refine ⟨fun pins s σ H D I reading => wpAny_Try_except ?_⟩
  have good := I.ok
  have frames : X.A.frames = some (X.env :: X.outer) := good.frames.trans (congrArg some stk)
  have ran := (doBody (wHold X.K c i ts Wout D) (X.pn ++ pins)
    (fun e z1 => wpAny (model X.prog X.w) X.A (noteFrame e X.env)
      (fun _ z2 => wpAny (model X.prog X.w) X.A (setFlight e none)
        (fun _ z3 => wpAny (model X.prog X.w) X.A (handleBy e X.env [.ExceptHandler (some (.Name x np)) (some n) (one :: suite) pos']) (SP X pins D) X.xe z3) X.xe z2) X.xe z1)
    (fun u z thrown => ?caught) PassesOwn.looking).run [] s σ H D (I.toTry _) reading
  refine wpAny_mono ran (fun f z over => ?through) fun e z q => q
  case caught =>
    obtain ⟨a, ground, before, pins2, τ, G, cls, d, rfl, J0, kept, grown, sky, free, os, bare, yes, match_, onYes, onNo⟩ := thrown
    have J : Inv X pins τ G before := J0.ofTry good
    rw [stk] at sky
    show wpAny (model X.prog X.w) X.A (noteFrame (.ref a) X.env) _ _ _
    refine Sky.land Zc.steady frames fr sky fun h1 fly1 up1 => ?_
    have J1 : Inv X pins τ G { z with heap := h1 } := J.landed kept fly1.1 (grown.trans up1) os bare
    obtain ⟨ob1, us1, at1, z1, dat1⟩ := fly1.there
    have offFrames : a ∉ frs (X.env :: X.outer) := fun hm => by
      obtain ⟨_, o2, at2, not2⟩ := fly1.2.2.1.mem hm
      cases at1.symm.trans at2
      exact not2 _ dat1
    have nL : a ≠ X.env.locals := fun q => offFrames (List.mem_filterMap.mpr ⟨X.env, List.mem_cons_self, by rw [fr, q]⟩)
    have nF : a ∉ X.fs := fun hm => by
      obtain ⟨e, he, q⟩ := List.mem_filterMap.mp hm
      exact offFrames (List.mem_filterMap.mpr ⟨e, List.mem_cons_of_mem _ he, q⟩)
    -- it is new since the try began
    have newHere : before.heap.get? a = none := by
      cases q : before.heap.get? a with
      | none => rfl
      | some o =>
        have q2 := kept a o q (show a ∉ frs X.stack by rw [stk]; exact offFrames)
        rw [fly1.2.1] at q2
        cases q2
    have away : X.s_0.heap.get? a = none := by
      cases q : X.s_0.heap.get? a with
      | none => rfl
      | some o =>
        obtain ⟨o2, q2⟩ := J.base.there a o q (by rw [noEx]; exact List.not_mem_nil)
        rw [newHere] at q2
        cases q2
    have nC : ∀ y k, X.env.cells.lookup y = some k → k ≠ a := fun y k e q => by
      obtain ⟨v, o, ho, _⟩ := J.cell y k e
      rw [q, newHere] at ho
      cases ho
    have nP : ∀ p ∈ X.pn ++ pins, p.1 ≠ a := fun p hp q => by
      have e := (J.pin p hp).1
      rw [q, newHere] at e
      cases e
    have S1 := J1.suite at1 dat1 free nL nF
    refine wpAny_handleBy_cons (codeAny_handlers_test ?_) fun q => by cases q
    have typed : PySem.W.Looks (model X.prog X.w) h1 (typeOf (.ref a)) cls := fun A Q E s k q => wpAny_typeOf_ref (k _ _ at1) (by rw [z1.1]; exact q)
    have matched := PySem.W.exm_one (M := model X.prog X.w) J1.kIn typed match_
    have named : ∀ {Q : Value → Shared → Prop} {E : Value → Shared → Prop}, Q c { z with heap := h1 } → wpAny (model X.prog X.w) (X.A.mark (some (.ref a))) (eval (.Name x np) X.env) Q E { z with heap := h1 } := fun {Q E} q => by
      obtain ⟨gl, dbg, here | ⟨none_, boot, nm⟩⟩ := cls_
      · exact ld_glob (X := X.suite a ((a, ob1) :: (X.pn ++ pins))) S1 gl here q dbg
      · exact ld_blt (X := X.suite a ((a, ob1) :: (X.pn ++ pins))) S1 gl none_ boot q nm dbg
    refine named (matched.here ?_)
    cases yes with
    | true =>
      refine codeAny_handlers_suite_as (HandSPX.lands_againZ fly1 fun h2 fly2 up2 => ?_)
      have J2 : Inv X pins τ G { z with heap := h2 } := J.landed kept fly2.1 ((grown.trans up1).trans up2) os bare
      obtain ⟨ob2, us2, at2, z2, dat2⟩ := fly2.there
      have S2 := J2.suite at2 dat2 free nL nF
      refine store_ok (X := X.suite a ((a, ob2) :: (X.pn ++ pins))) (v := .ref a) S2 nd at_ (.inl loc) rfl (fun z5 S5 => ?_) (.inr loc)
      refine wpAny_mono ((doSuite a ob2 cls d (X.pn ++ pins) z2 ⟨_, dat2⟩).run [] z5 _ G _ S5 (onYes rfl a free)) (fun f z6 over => ?_) fun _ _ q => q.elim
      match f, over with
      | .next, ⟨τ6, G6, S6, q6⟩ =>
        obtain ⟨at6, free6, _⟩ := S6.pin (a, ob2) (List.mem_append.mpr (.inl List.mem_cons_self))
        have K6 := inv_track (o := ExK cls d a) (S6.unsuite good) away free6 nL nC nP (exK_ok at6 z2 dat2)
        exact gone_ok K6 nd at_ loc fun z7 J7 => ⟨_, _, J7, q6 free6⟩
      | .brk, ⟨_, _, _, q6⟩ => exact q6.elim
      | .cont, ⟨_, _, _, q6⟩ => exact q6.elim
      | .ret _, ⟨_, _, _, _, _, q6⟩ => exact q6.elim
    | false =>
      show wpAny _ X.A (handleBy (.ref a) X.env []) _ _ _
      refine wpAny_handleBy_nil ?_
      obtain ⟨w1, w2, w3, ob, us, tb_, oT, rows, hb, zb, db, f1, more⟩ := id fly1
      unfold PySem.passOn
      refine wpAny_bind (wpAny_field hb db f1 ?_)
      rw [if_neg (show ¬ ((Value.ref tb_ == Value.none) = true) from by simp)]
      have last : wpAny (model X.prog X.w) X.A (setFlight (.ref a) X.env.frame) (fun _ z4 => wpAny (model X.prog X.w) X.A (throw (.ref a) : Sem Flow) (SP X pins D) X.xe z4) X.xe { z with heap := h1 } := by
        rw [fr]
        refine HandSPX.setFlight_upZ fly1 fun h4 held4 up4 => wpAny_throw (tk _ _ ?_)
        exact ⟨a, ground, before, pins, τ, G, cls, d, rfl, J, kept, (grown.trans up1).trans up4, .inr (.inr (by rw [stk]; exact held4)), free, os, bare, onNo rfl⟩
      first
        | exact wpAny_bind (wpAny_pure (wpAny_bind last))
        | exact wpAny_bind last
  case through =>
    match f, over with
    | .next, ⟨τ, G, J, q⟩ => exact wpAny_execs_nil ⟨τ, G, J.ofTry good, q⟩
    | .brk, ⟨τ, G, J, q⟩ => exact ⟨τ, G, J.ofTry good, q⟩
    | .cont, ⟨τ, G, J, q⟩ => exact ⟨τ, G, J.ofTry good, q⟩
    | .ret _, ⟨v, τ, G, J, r, q⟩ => exact ⟨v, τ, G, J.ofTry good, r, q⟩
end
section
variable {X : Cx}
theorem inst_of {a D : Addr} {h : Heap} {ob : Obj} {us : Array Value} (e : h.get? a = some ob) (z : Zc (.ref D) none ob) (dat : ob.data = .fields us) : PySem.W.InstAt h a ob D none := by
  obtain ⟨oc, od, da, sl⟩ := ob
  obtain ⟨e1, e2⟩ := z
  dsimp only at e1 e2 dat
  subst e1 e2 dat
  exact ⟨e, rfl, rfl, trivial⟩
/-- isinstance(e, c), e a tracked exception of the class D, without a dict -/
def rIsH (K : PySem.W.Frag) : List V → Hp → VK → Prop := fun xs H Q => ∃ (a D : Addr) (c : V) (u : Value) (b : Bool), xs = [.ref a, c] ∧ H a = some (ExK (.ref D) none a) ∧ ExcC K D ∧ ClsV c u ∧ PySem.W.kitOne K (.ref D) u = some b ∧ Q (.bl b) H
theorem call_isH : CallR X (.builtin "isinstance") (rIsH X.K) := by
  intro pins s σ H xs us Q I r h
  obtain ⟨a, D, c, u, b, rfl, at_, C, k, e, q⟩ := h
  obtain ⟨u1, u2, rfl, r1, r2⟩ := vals2 r
  have e2 := k.eq r2
  subst e2
  cases (show u1 = Value.ref a from r1)
  obtain ⟨⟨ob, fs, o1, o2, o3⟩, _⟩ := I.hok a _ at_
  exact PySem.W.kia_one (PySem.W.handS_kitx_exc C.hg C.hk C.hs C.hd C.ha C.hn C.ht C.hm) I.kIn (inst_of o1 o2 o3) e (fun z => nomatch z) fun tk => ⟨.bl b, H, I.tok tk, rfl, q⟩
/-- isinstance(e, (c1, ..)) -/
def rIsHT (K : PySem.W.Frag) : List V → Hp → VK → Prop := fun xs H Q => ∃ (a D tp : Addr) (cs : List V) (us : List Value) (b : Bool), xs = [.ref a, .ref tp] ∧ H a = some (ExK (.ref D) none a) ∧ ExcC K D ∧ H tp = some (.tup cs) ∧ Paired ClsV cs us ∧ PySem.W.kitAny K (.ref D) us = some b ∧ Q (.bl b) H
theorem call_isHT : CallR X (.builtin "isinstance") (rIsHT X.K) := by
  intro pins s σ H xs us Q I r h
  obtain ⟨a, D, tp, cs, ws, b, rfl, at_, C, hT, k, e, q⟩ := h
  obtain ⟨u1, u2, rfl, r1, r2⟩ := vals2 r
  cases (show u1 = Value.ref a from r1)
  cases (show u2 = Value.ref tp from r2)
  obtain ⟨⟨ob, fs, o1, o2, o3⟩, _⟩ := I.hok a _ at_
  obtain ⟨_, its, rv, ot, h1, h2, n, h3⟩ := (show ObjOk X.prog X.w H s.heap tp (.tup cs) from I.hok tp _ hT)
  have e3 := ClsV.all k rv
  subst e3
  obtain ⟨oc, od, dt, sl⟩ := ot
  simp only at h2 h3
  subst h2 h3
  exact PySem.W.kia_tup (PySem.W.handS_kitx_exc C.hg C.hk C.hs C.hd C.ha C.hn C.ht C.hm) I.kIn (inst_of o1 o2 o3) h1 e (fun z => nomatch z) fun tk => ⟨.bl b, H, I.tok tk, rfl, q⟩
end
end Xk
set_option Elab.async false
set_option linter.all false
set_option maxRecDepth 100000
set_option maxHeartbeats 4000000
set_option pp.maxSteps 400
/-! worth: a refusal made without parts, the worths of terms. -/
namespace Kf
open PySem PySem.Spec PyProof.Rows L2 Sx
/-- X(), X an own exception class without own __init__ -/
theorem pmk_own0 {X : Cx} {C : Addr} {bmB : List Value} {B newId initId : String} {x : Str} {p pos : Pos} (F : ExcBaseFacts B newId initId bmB) (isC : PySem.W.excIn X.K C bmB newId = true) (at_ : X.mg x = some (.ref C)) (kept : PySem.W.keepIn X.K (.ref C) = true) (can : Raises X (.ref C)) (gl : Gl X x)
    (nd : (x == ("__debug__" : Str)) = false := by decide) : PMk X (.Call (.Name x p) [] [] pos) (fun _ H Q => Q (.ref C) none H) := by
  intro pins s σ H Q I told
  refine wpAny_Call_Name_kw (ld_glob I gl at_ (PySem.W.callWith_K0 (first := []) I.kIn kept ?_) nd)
  obtain ⟨bm, N, nm, qn, bs, hdct, sn, sub, ab, col, dd, k0, k1, k2, k3, k5, mN, hC, hN, hni, T⟩ := exc_obj I.kIn isC
  exact wpAny_call_exc_subT F T hC hN hni (fun h' e made => mk_of I made can told (I.hok.gone made.new)) (by decide)
/-! ### worths -/
abbrev TGr : Int := 10 ^ 60
def cap (n : Int) : Option Int := if n < TGr then some n else none
def wt (v : Str → Int) : Tr → Option Int
  | .leaf _ x => match x with
    | .int n => cap n
    | .str z => cap (v z)
    | _ => none
  | .n0 _ => none
  | .n1 _ a => (wt v a).bind fun m => cap (m + 1)
  | .n2 w a b => (wt v a).bind fun m => (wt v b).bind fun n => cap (if w = "plus" then m + n else m * n)
/-- a term without bounds -/
def Tr.Tm : Tr → Prop
  | .leaf w x => (w = "num" ∧ ∃ n : Int, x = .int n ∧ 0 ≤ n) ∨ (w = "name" ∧ ∃ z, x = .str z)
  | .n0 _ => False
  | .n1 w a => w = "next" ∧ a.Tm
  | .n2 w a b => (w = "plus" ∨ w = "times") ∧ a.Tm ∧ b.Tm
/-- what comes of the pieces es behind the stack st -/
def RunsW (v : Str → Int) (res : Option Int) : List (Tr × Nat) → List Int → Prop
  | [], st => ∃ n, res = some n ∧ st = [n]
  | (.leaf _ x, _) :: es, st => ∃ n, ((x = .int n) ∨ ∃ z, x = .str z ∧ n = v z) ∧ (n < TGr → RunsW v res es (st ++ [n])) ∧ (¬ n < TGr → res = none)
  | (.n0 _, _) :: _, _ => False
  | (.n1 _ _, _) :: es, st => ∃ s0 a, st = s0 ++ [a] ∧ 0 ≤ a ∧ a < TGr ∧ (a + 1 < TGr → RunsW v res es (s0 ++ [a + 1])) ∧ (¬ a + 1 < TGr → res = none)
  | (.n2 w _ _, _) :: es, st => ∃ s0 a b, st = s0 ++ [a] ++ [b] ∧ 0 ≤ a ∧ a < TGr ∧ 0 ≤ b ∧ b < TGr ∧ ∀ c, c = (if w = "plus" then a + b else a * b) → (c < TGr → RunsW v res es (s0 ++ [c])) ∧ (¬ c < TGr → res = none)
theorem cap_some {n m : Int} (h : cap n = some m) : n = m ∧ n < TGr := by
  unfold cap at h
  split at h
  · rename_i c
    exact ⟨Option.some.inj h, c⟩
  · cases h
theorem wt_pos {v : Str → Int} (hv : ∀ z, 0 ≤ v z) : ∀ t : Tr, t.Tm → ∀ n, wt v t = some n → 0 ≤ n ∧ n < TGr
  | .leaf w x, tm, n, h => by
    rcases tm with ⟨_, m, e, p⟩ | ⟨_, z, e⟩
    · subst e
      obtain ⟨e2, lt⟩ := cap_some (show cap m = some n from h)
      subst e2
      exact ⟨p, lt⟩
    · subst e
      obtain ⟨e2, lt⟩ := cap_some (show cap (v z) = some n from h)
      rw [← e2]
      exact ⟨hv z, lt⟩
  | .n1 w a, tm, n, h => by
    obtain ⟨m, e1, e2⟩ := Option.bind_eq_some_iff.mp (show (wt v a).bind _ = some n from h)
    obtain ⟨e3, lt⟩ := cap_some e2
    have p := (wt_pos hv a tm.2 m e1).1
    rw [← e3]
    exact ⟨by omega, lt⟩
  | .n2 w a b, tm, n, h => by
    obtain ⟨m, e1, e2⟩ := Option.bind_eq_some_iff.mp (show (wt v a).bind _ = some n from h)
    obtain ⟨k, e4, e5⟩ := Option.bind_eq_some_iff.mp e2
    obtain ⟨e3, lt⟩ := cap_some e5
    have p := (wt_pos hv a tm.2.1 m e1).1
    have q := (wt_pos hv b tm.2.2 k e4).1
    rw [← e3]
    refine ⟨?_, lt⟩
    split
    · omega
    · exact Int.mul_nonneg p q
theorem runsW_post {v : Str → Int} (hv : ∀ z, 0 ≤ v z) {res : Option Int} : ∀ (t : Tr) (r : Nat) (es : List (Tr × Nat)) (st : List Int), t.Tm → (∀ n, wt v t = some n → RunsW v res es (st ++ [n])) → (wt v t = none → res = none) → RunsW v res (t.post r ++ es) st
  | .leaf w x, r, es, st, tm, yes, no => by
    have fin : ∀ n, wt v (.leaf w x) = cap n → (n < TGr → RunsW v res es (st ++ [n])) ∧ (¬ n < TGr → res = none) := fun n e =>
      ⟨fun c => yes n (by rw [e]; exact if_pos c), fun c => no (by rw [e]; exact if_neg c)⟩
    rcases tm with ⟨_, m, e, p⟩ | ⟨_, z, e⟩
    · subst e
      exact ⟨m, .inl rfl, fin m rfl⟩
    · subst e
      exact ⟨v z, .inr ⟨z, rfl, rfl⟩, fin (v z) rfl⟩
  | .n1 w a, r, es, st, tm, yes, no => by
    show RunsW v res (a.post _ ++ [(.n1 w a, r)] ++ es) st
    rw [List.append_assoc]
    refine runsW_post hv a _ _ _ tm.2 (fun m em => ?_) fun em => no (by show (wt v a).bind _ = none; rw [em]; rfl)
    obtain ⟨p, lt⟩ := wt_pos hv a tm.2 m em
    have e : wt v (.n1 w a) = cap (m + 1) := by
      show (wt v a).bind _ = _
      rw [em]
      rfl
    exact ⟨st, m, rfl, p, lt, fun c => yes _ (by rw [e]; exact if_pos c), fun c => no (by rw [e]; exact if_neg c)⟩
  | .n2 w a b, r, es, st, tm, yes, no => by
    show RunsW v res (a.post _ ++ b.post _ ++ [(.n2 w a b, r)] ++ es) st
    rw [List.append_assoc, List.append_assoc]
    refine runsW_post hv a _ _ _ tm.2.1 (fun m em => runsW_post hv b _ _ _ tm.2.2 (fun k ek => ?_) fun ek => no (by show (wt v a).bind _ = none; rw [em]; show (wt v b).bind _ = none; rw [ek]; rfl)) fun em => no (by show (wt v a).bind _ = none; rw [em]; rfl)
    obtain ⟨p, lt⟩ := wt_pos hv a tm.2.1 m em
    obtain ⟨p2, lt2⟩ := wt_pos hv b tm.2.2 k ek
    refine ⟨st, m, k, rfl, p, lt, p2, lt2, fun c ec => ?_⟩
    have e : wt v (.n2 w a b) = cap c := by
      show (wt v a).bind _ = _
      rw [em]
      show (wt v b).bind _ = _
      rw [ek, ec]
      rfl
    exact ⟨fun c => yes _ (by rw [e]; exact if_pos c), fun c => no (by rw [e]; exact if_neg c)⟩
/-! ### worth -/
abbrev sWorth : Stmt := top 22
abbrev wN : List Str := ["term", "numbers", "done", "piece", "_", "word", "number", "right", "left"]
theorem scWorth : FnScope wN ["term", "numbers"] (defScope sWorth) := ⟨rfl, rfl, rfl, by decide +kernel, rfl, by decide +kernel, by decide +kernel⟩
theorem post_tm : ∀ (t : Tr) (r : Nat), t.Tm → ∀ e ∈ t.post r, e.1.Tm
  | .leaf w x, r, h, e, he => by rw [List.mem_singleton.mp he]; exact h
  | .n1 w a, r, h, e, he => by
    rcases List.mem_append.mp he with z | z
    · exact post_tm a _ h.2 e z
    · rw [List.mem_singleton.mp z]
      exact h
  | .n2 w a b, r, h, e, he => by
    rcases List.mem_append.mp he with z | z
    · rcases List.mem_append.mp z with z | z
      · exact post_tm a _ h.2.1 e z
      · exact post_tm b _ h.2.2 e z
    · rw [List.mem_singleton.mp z]
      exact h
theorem post_sub : ∀ (t : Tr) (r : Nat), ∀ e ∈ t.post r, ∀ z ∈ e.1.names, z ∈ t.names
  | .leaf w x, r, e, he, z, hz => by rw [List.mem_singleton.mp he] at hz; exact hz
  | .n0 w, r, e, he, z, hz => by rw [List.mem_singleton.mp he] at hz; exact hz
  | .n1 w a, r, e, he, z, hz => by
    rcases List.mem_append.mp he with y | y
    · exact post_sub a _ e y z hz
    · rw [List.mem_singleton.mp y] at hz
      exact hz
  | .n2 w a b, r, e, he, z, hz => by
    rcases List.mem_append.mp he with y | y
    · rcases List.mem_append.mp y with y | y
      · exact List.mem_append.mpr (.inl (post_sub a _ e y z hz))
      · exact List.mem_append.mpr (.inr (post_sub b _ e y z hz))
    · rw [List.mem_singleton.mp y] at hz
      exact hz
/-- the module's TooMany -/
structure Many (K : PySem.W.Frag) (mg : Str → Option Value) (TM : Addr) : Prop where
  isC : ∃ bm nw ini, PySem.W.excIn K TM bm nw = true ∧ ExcBaseFacts "ValueError" nw ini bm
  at_ : mg "TooMany" = some (.ref TM)
  kept : PySem.W.keepIn K (.ref TM) = true
  sub : PySem.W.subIn K (.ref TM) (.type "BaseException") = some true
  ty : PySem.W.typeIn K (.ref TM) = some (.type "type")
  own : PySem.W.exmOne K (.ref TM) (.ref TM) = some true
def spWorth (TM : Addr) : Sp := fun vs H Q E => ∃ (v1 : V) (d : Addr) (t : Tr) (v : Str → Int) (kvs : List (Key × V)), vs = [v1, .ref d] ∧ At H t v1 ∧ t.Ok ∧ t.Tm ∧ t.deep ≤ 12 ∧ H d = some (.dK kvs) ∧ (∀ z ∈ t.names, valV kvs (.inr z) = some (.int (v z))) ∧ (∀ z, 0 ≤ v z) ∧
  (∀ n H', wt v t = some n → Same H H' → Q (.int n) H') ∧ ∀ H', wt v t = none → Same H H' → E (.ref TM) none H'
theorem same_wd {k : Str} {A B : Prop} (h : A) : if decide (V.str k = V.str k) = true then A else B := by
  rw [if_pos (decide_eq_true rfl)]
  exact h
theorem other_wd {k l : Str} {A B : Prop} (ne : k ≠ l) (h : B) : if decide (V.str k = V.str l) = true then A else B := by
  rw [if_neg fun z => ne (by have q := of_decide_eq_true z; injection q)]
  exact h
section
variable {P : Program} {w : World} {K : PySem.W.Frag} {mg : Str → Option Value} {base : Heap}
theorem ok_worth {f gp TM : Addr} {fd dp : FuncData} {tk : Tok} (F : Fun K "worth" "worth" sWorth f fd) (G : FnOk P w K mg base CX0 2 gp dp ["thing"] spPieces) (bG : Binds K dp ["thing"] []) (kG : PySem.W.keepIn K (.ref gp) = true) (mG : mg "pieces_of" = some (.ref gp))
    (M : Many K mg TM) (mT : mg "TOO_GREAT" = some (.int TGr tk)) : FnOk P w K mg base (L2.CX P w) 3 f fd ["term", "numbers"] (spWorth TM) := by
  obtain ⟨bm, nw, ini, isC, FB⟩ := M.isC
  refine F.okX scWorth (fun vs H Q E h => ?_) (fun cdv A outer s H vs Q E hr h => ?_)
  · obtain ⟨v1, d, t, v, kvs, rfl, _⟩ := h
    rfl
  obtain ⟨v1, d, t, v, kvs, rfl, hA, hO, hM, hd, hK, hv, pos, qy, qn⟩ := h
  have u1 : (A.deeper (envOfC "worth" (defScope sWorth) s.heap.objs.size f cdv)).units + 1 < cLine := by
    have := hr.units
    omega
  refine ⟨_, pss_cons (ps_set (i := 2) scWorth.nd rfl (.inl rfl) (pe_lst pa_nil))
    (pss_cons (ps_for (passes_of rfl) rfl (pi_list (pe_call G hr (by rfl) mG kG bG .nil pass0 (pa_cons (pv 0) pa_nil))) (pg_tup (by rfl) (pgs_cons (pg_name (i := 3) scWorth.nd rfl (.inl rfl)) (pgs_cons (pg_name (i := 4) scWorth.nd rfl (.inl rfl)) pgs_nil)))
      (pss_cons (ps_set (i := 5) scWorth.nd rfl (.inl rfl) (pe_ix ix_tup (pv 3) pe_int (fun _ _ => rfl)))
      (pss_cons (ps_if (pt_cmpR op_eq (pv 5) pe_str (nomark _)) (pss_one (ps_set (i := 6) scWorth.nd rfl (.inl rfl) (pe_ix ix_tup (pv 3) pe_int (fun _ _ => rfl))))
        (pss_one (ps_if (pt_cmpR op_eq (pv 5) pe_str (nomark _))
          (pss_cons (ps_if (pt_cmp (pc_dnotin u1 (pe_ix ix_tup (pv 3) pe_int (fun _ _ => rfl)) (pv 1))) (pss_one ps_never) pss_nil) (pss_one (ps_set (i := 6) scWorth.nd rfl (.inl rfl) (pe_dget u1 (pv 1) (pe_ix ix_tup (pv 3) pe_int (fun _ _ => rfl)) (fun _ _ => rfl)))))
          (pss_one (ps_if (pt_cmpR op_eq (pv 5) pe_str (nomark _)) (pss_one (ps_set (i := 6) scWorth.nd rfl (.inl rfl) (pe_op op_add (pe_bm0 PySem.F.plainAttrs_list PySem.F.slot_list_pop PySem.F.type_list_pop mt_pop (pv 2)) pe_int)))
            (pss_cons (ps_set (i := 7) scWorth.nd rfl (.inl rfl) (pe_bm0 PySem.F.plainAttrs_list PySem.F.slot_list_pop PySem.F.type_list_pop mt_pop (pv 2)))
            (pss_cons (ps_set (i := 8) scWorth.nd rfl (.inl rfl) (pe_bm0 PySem.F.plainAttrs_list PySem.F.slot_list_pop PySem.F.type_list_pop mt_pop (pv 2)))
            (pss_one (ps_set (i := 6) scWorth.nd rfl (.inl rfl) (pe_ifExp (pt_cmpR op_eq (pv 5) pe_str (nomark _)) (pe_op op_add (pv 8) (pv 7)) (pe_op op_mulX (pv 8) (pv 7))))))))))))
      (pss_cons (ps_if (pt_cmpR op_ge (pv 6) (pe_glob (v := .int TGr) (by rfl) mT ⟨_, rfl⟩) (nomark _)) (pss_one (ps_raise rfl (takes_of rfl rfl rfl rfl) (pmk_own0 FB isC M.at_ M.kept (raises_own M.sub M.ty) (by rfl)))) pss_nil)
      (pss_one (ps_expr (pe_bm PySem.F.plainAttrs_list PySem.F.slot_list_append PySem.F.type_list_append mt_append (pv 2) (pa_cons (pv 6) pa_nil))))))))
    (pss_one (ps_ret (pe_ix ix_list (pv 2) pe_int (fun _ _ => rfl))))), ?_⟩
  refine ⟨Nat.zero_le _, fun pd nd => ?_⟩
  have s1 : Same H (upd H pd (.lst [])) := same_new nd
  refine ⟨_, rfl, v1, t, rfl, hA.keep (tups_same s1), hO, hd, fun p H1 vf sm np hp rows => ?_⟩
  have hD1 : H1 pd = some (.lst []) := sm _ _ upd_same
  have npd : p ≠ pd := fun z => by
    rw [z, upd_same] at np
    cases np
  have ndd : d ≠ pd := ne_of_none hK nd
  have hK1 : H1 d = some (.dK kvs) := sm _ _ (s1 _ _ hK)
  have lenP : vf.length ≤ 4096 := by
    have l1 := rows.len
    rw [post_len] at l1
    have l3 := size_deep t
    have l4 : 2 ^ t.deep ≤ 2 ^ 12 := Nat.pow_le_pow_right (by decide) hd
    omega
  have sH : ∀ {H' : Hp}, But pd H1 H' → Same H H' := fun b c u e => b c u (ne_of_none e nd) (sm _ _ (s1 _ _ e))
  refine ⟨p, rfl, ⟨_, .inl (.inl hp)⟩, for_list (K := K) (a := p) (xs := vf) (fun i σ H' => ∃ (st : List Int) (y3 y4 y5 y6 y7 y8 : Option V), σ = [some v1, some (.ref d), some (.ref pd), y3, y4, y5, y6, y7, y8] ∧ But pd H1 H' ∧ H' pd = some (.lst (st.map V.int)) ∧ RunsW v (wt v t) ((t.post 0).drop i) st ∧ st.length ≤ i)
    ⟨[], none, none, none, none, none, none, rfl, But.refl _ _, hD1, ?_, Nat.le_refl _⟩ (fun i σ H' _ ⟨_, _, _, _, _, _, _, _, b, _⟩ => .inl (.inl (b _ _ npd hp))) ?_ ?_⟩
  · have z := runsW_post (v := v) pos (res := wt v t) t 0 [] [] hM (fun n e => ⟨n, e, rfl⟩) id
    rw [List.append_nil] at z
    exact z
  · rintro i y σ H' hy ⟨st, y3, y4, y5, y6, y7, y8, rfl, b, hD, runs, lst⟩
    obtain ⟨⟨t1, r1⟩, he, ⟨q1, x1, rfl, h1, a1⟩⟩ := rows.get hy
    have k1 : Tups H1 H' := b.tups hD1
    have a2 : At H' t1 x1 := At.keep k1 a1
    have mem1 := List.mem_of_getElem? he
    have ok1 : t1.Ok := post_ok t 0 hO (t1, r1) mem1
    have tm1 : t1.Tm := post_tm t 0 hM (t1, r1) mem1
    have il : i < (t.post 0).length := (List.getElem?_eq_some_iff.mp he).1
    have ed : (t.post 0).drop i = (t1, r1) :: (t.post 0).drop (i + 1) := by
      rw [List.drop_eq_getElem_cons il, (List.getElem?_eq_some_iff.mp he).2]
    rw [ed] at runs
    have lenI : i < vf.length := by rw [← rows.len]; exact il
    obtain ⟨p1, us, rfl, hp1, lus, kids, leafs⟩ := a2.view ok1
    refine ⟨q1, [.ref p1, .int (r1 : Int)], rfl, .inl (.inl (k1 _ _ h1)), rfl, .ref p1, [.int (r1 : Int)], rfl, .int (r1 : Int), [], rfl, rfl, ?_⟩
    refine ⟨_, rfl, p1, _, 0, _, rfl, rfl, .inl (.inl hp1), head_at _ _, ?_⟩
    apply joinS (C := fun σ X => ∃ (n : Int) (st2 : List Int) (y3 y4 y5 y7 y8 : Option V), σ = [some v1, some (.ref d), some (.ref pd), y3, y4, y5, some (.int n), y7, y8] ∧ But pd H1 X ∧ X pd = some (.lst (st2.map V.int)) ∧ st2.length ≤ i ∧ (n < TGr → RunsW v (wt v t) ((t.post 0).drop (i + 1)) (st2 ++ [n])) ∧ (¬ n < TGr → wt v t = none))
    · intro rest
      cases t1 with
      | leaf wd x =>
        obtain ⟨n, en, r1', r2'⟩ := runs
        obtain ⟨x2, ex, eu⟩ := leafs ok1.1
        have ex2 : x = x2 := by injection ex
        subst ex2
        subst eu
        rcases tm1 with ⟨rfl, m, em, _⟩ | ⟨rfl, z, ez⟩
        · subst em
          have e : n = m := by
            rcases en with e | ⟨z, e, _⟩
            · injection e with e
              exact e.symm
            · cases e
          subst e
          refine ⟨_, rfl, rfl, _, rfl, same_wd ?_⟩
          refine ⟨_, rfl, p1, _, 1, _, rfl, rfl, .inl (.inl hp1), atI_nat (j := 1) rfl, ?_⟩
          dsimp only [gName, List.set]
          exact rest _ H' ⟨n, st, _, _, _, _, _, rfl, b, hD, lst, r1', r2'⟩
        · subst ez
          have hz0 : z ∈ (Tr.leaf "name" (.str z)).names := by
            rw [show (Tr.leaf "name" (.str z)).names = [z] from if_pos rfl]
            exact List.mem_singleton.mpr rfl
          have hkz : valV kvs (.inr z) = some (.int (v z)) := hv z (post_sub t 0 _ mem1 z hz0)
          have e : n = v z := by
            rcases en with e | ⟨z2, e, e3⟩
            · cases e
            · injection e with e
              rw [e3, e]
          subst e
          have hKd : H' d = some (.dK kvs) := b _ _ ndd hK1
          refine ⟨_, rfl, rfl, _, rfl, other_wd (show Str.ofString "name" ≠ "num" by decide +kernel) ⟨_, rfl, rfl, _, rfl, same_wd ?_⟩⟩
          refine ⟨_, rfl, p1, _, 1, _, rfl, rfl, .inl (.inl hp1), atI_nat (j := 1) rfl, _, rfl, d, _, rfl, DGet.k (k := .inr z) hKd, ?_⟩
          have got : DGet H' d (.str z) (some (.int (v z))) := by
            have g0 := DGet.k (k := .inr z) hKd
            rw [hkz] at g0
            exact g0
          refine ⟨_, rfl, ?_⟩
          rw [hkz]
          refine iteF ?_
          refine ⟨_, rfl, _, rfl, p1, _, 1, _, rfl, rfl, .inl (.inl hp1), atI_nat (j := 1) rfl, d, _, rfl, got, ?_⟩
          dsimp only [gName, List.set]
          exact rest _ H' ⟨v z, st, _, _, _, _, _, rfl, b, hD, lst, r1', r2'⟩
      | n0 wd => exact tm1.elim
      | n1 wd a =>
        obtain ⟨rfl, _⟩ := tm1
        obtain ⟨s0, m, es, m0, m1, r1', r2'⟩ := runs
        subst es
        have hpop : ((s0 ++ [m]).map V.int)[((s0 ++ [m]).map V.int).length - 1]? = some (.int m) := by simp
        refine ⟨_, rfl, rfl, _, rfl, other_wd (show Str.ofString "next" ≠ "num" by decide +kernel) ⟨_, rfl, rfl, _, rfl, other_wd (show Str.ofString "next" ≠ "name" by decide +kernel) ⟨_, rfl, rfl, _, rfl, same_wd ?_⟩⟩⟩
        refine ⟨_, rfl, .inl ⟨rfl, _, .inl (.inl hD)⟩, pd, _, .int m, rfl, rfl, hD, hpop, ?_⟩
        refine ⟨_, _, rfl, rfl, ?_⟩
        dsimp only [gName, List.set]
        have k2 : But pd H1 (upd H' pd (.lst ((s0 ++ [m]).map V.int).dropLast)) := b.own
        refine rest _ _ ⟨m + 1, s0, _, _, _, _, _, rfl, k2, by rw [upd_same, List.map_append]; simp, by rw [List.length_append, List.length_singleton] at lst; omega, r1', r2'⟩
      | n2 wd a c =>
        obtain ⟨s0, m, k, es, m0, m1, n0, n1, fin⟩ := runs
        subst es
        have hpop : ((s0 ++ [m] ++ [k]).map V.int)[((s0 ++ [m] ++ [k]).map V.int).length - 1]? = some (.int k) := by simp
        have hpop2 : ((s0 ++ [m]).map V.int)[((s0 ++ [m]).map V.int).length - 1]? = some (.int m) := by simp
        have hw : wd ≠ "num" ∧ wd ≠ "name" ∧ wd ≠ "next" := by
          rcases tm1.1 with e | e <;> rw [e] <;> decide +kernel
        refine ⟨_, rfl, rfl, _, rfl, other_wd hw.1 ⟨_, rfl, rfl, _, rfl, other_wd hw.2.1 ⟨_, rfl, rfl, _, rfl, other_wd hw.2.2 ?_⟩⟩⟩
        refine ⟨_, rfl, .inl ⟨rfl, _, .inl (.inl hD)⟩, pd, _, .int k, rfl, rfl, hD, hpop, ?_⟩
        rw [show ((s0 ++ [m] ++ [k]).map V.int).dropLast = (s0 ++ [m]).map V.int by simp]
        refine ⟨_, rfl, .inl ⟨rfl, _, .inl (.inl upd_same)⟩, pd, _, .int m, rfl, rfl, upd_same, hpop2, ?_⟩
        rw [show ((s0 ++ [m]).map V.int).dropLast = s0.map V.int by simp]
        have k2 : But pd H1 (upd (upd H' pd (.lst ((s0 ++ [m]).map V.int))) pd (.lst (s0.map V.int))) := b.own.own
        have ls : s0.length ≤ i := by
          rw [List.length_append, List.length_append, List.length_singleton, List.length_singleton] at lst
          omega
        refine ⟨_, rfl, rfl, _, rfl, ?_⟩
        by_cases cw : wd = "plus"
        · subst cw
          have f := fin (m + k) (if_pos rfl).symm
          refine same_wd ⟨_, rfl, _, rfl, _, _, rfl, rfl, ?_⟩
          dsimp only [gName, List.set]
          exact rest _ _ ⟨m + k, s0, _, _, _, _, _, rfl, k2, upd_same, ls, f.1, f.2⟩
        · have f := fin (m * k) (if_neg cw).symm
          refine other_wd cw ⟨_, rfl, _, rfl, _, _, rfl, rfl, ?_, ?_⟩
          · have bits : ∀ x : Int, 0 ≤ x → x < TGr → Builtin.Int.intBits x ≤ 200 := fun x p q => PyProof.Rows.intBits_le (k := 200) (by
              have q2 : x < 10 ^ 60 := q
              have q3 : x.natAbs < 10 ^ 60 := by omega
              exact Nat.lt_of_lt_of_le q3 (by decide))
            have e1 := bits m m0 m1
            have e2 := bits k n0 n1
            unfold CMulX
            omega
          dsimp only [gName, List.set]
          exact rest _ _ ⟨m * k, s0, _, _, _, _, _, rfl, k2, upd_same, ls, f.1, f.2⟩
    · rintro σ X ⟨n, st2, y3, y4, y5, y7, y8, rfl, bX, hX, l2, f1, f2⟩
      refine ⟨_, rfl, _, _, rfl, rfl, _, rfl, ?_⟩
      refine ite2 (fun c => ?_) (fun c => ?_)
      · exact qn _ (f2 (by have := of_decide_eq_true c; omega)) (sH bX)
      · have lt : n < TGr := by
          have q : ¬ TGr ≤ n := fun z => c (decide_eq_true z)
          omega
        refine ⟨_, rfl, .inl ⟨rfl, _, .inl (.inl hX)⟩, _, rfl, pd, _, .int n, rfl, rfl, hX, line_of (by rw [List.length_map]; omega), ?_⟩
        refine ⟨st2 ++ [n], _, _, _, _, _, _, rfl, bX.own, by rw [upd_same, List.map_append]; rfl, f1 lt, ?_⟩
        rw [List.length_append, List.length_singleton]
        omega
  · rintro σ H' ⟨st, y3, y4, y5, y6, y7, y8, rfl, b, hD, runs, lst⟩
    rw [← rows.len, List.drop_length] at runs
    obtain ⟨n, en, rfl⟩ := runs
    refine ⟨_, rfl, pd, _, 0, _, rfl, rfl, .inl (.inl hD), atI_nat (j := 0) rfl, ?_⟩
    exact qy n _ en (sH b)
end
end Kf
set_option Elab.async false
set_option linter.all false
set_option maxRecDepth 100000
set_option maxHeartbeats 4000000
set_option pp.maxSteps 400
/-! k41: the closed terms and flat sayings that the law makes. -/
namespace Kf
open PySem PySem.Spec PyProof.Rows L2 Sx
/-- a closed term -/
def Tr.Cl : Tr → Prop
  | .leaf w x => w = "num" ∧ ∃ n : Int, x = .int n ∧ 0 ≤ n ∧ n < 10 ^ 60
  | .n0 _ => False
  | .n1 w a => w = "next" ∧ a.Cl
  | .n2 w a b => (w = "plus" ∨ w = "times") ∧ a.Cl ∧ b.Cl
/-- a closed flat saying -/
def Tr.Fl : Tr → Prop
  | .leaf _ _ => False
  | .n0 w => w = "no"
  | .n1 _ _ => False
  | .n2 w a b => (w = "same" ∧ a.Cl ∧ b.Cl) ∨ ((w = "and" ∨ w = "if") ∧ a.Fl ∧ b.Fl)
theorem cl_ok : ∀ {t : Tr}, t.Cl → t.Ok
  | .leaf w x, ⟨e, n, ex, _⟩ => by
    subst e ex
    exact ⟨by decide +kernel, .inl ⟨⟨n, rfl⟩, by decide +kernel⟩⟩
  | .n0 _, h => h.elim
  | .n1 w a, ⟨e, h⟩ => ⟨by rw [e]; decide +kernel, cl_ok h⟩
  | .n2 w a b, ⟨e, h, g⟩ => ⟨by rcases e with e | e <;> rw [e] <;> decide +kernel, cl_ok h, cl_ok g⟩
theorem cl_tm : ∀ {t : Tr}, t.Cl → t.Tm
  | .leaf w x, ⟨e, n, ex, p, _⟩ => .inl ⟨e, n, ex, p⟩
  | .n0 _, h => h.elim
  | .n1 w a, ⟨e, h⟩ => ⟨e, cl_tm h⟩
  | .n2 w a b, ⟨e, h, g⟩ => ⟨e, cl_tm h, cl_tm g⟩
theorem cl_names : ∀ {t : Tr}, t.Cl → t.names = []
  | .leaf w x, ⟨e, _⟩ => by
    subst e
    exact if_neg (by decide +kernel)
  | .n0 _, h => h.elim
  | .n1 w a, ⟨e, h⟩ => cl_names (t := a) h
  | .n2 w a b, ⟨e, h, g⟩ => by
    show a.names ++ b.names = []
    rw [cl_names h, cl_names g]
    rfl
theorem fl_ok : ∀ {t : Tr}, t.Fl → t.Ok
  | .leaf _ _, h => h.elim
  | .n0 w, h => by
    have e : w = "no" := h
    show leafy w = false
    rw [e]
    decide +kernel
  | .n1 _ _, h => h.elim
  | .n2 w a b, .inl ⟨e, h, g⟩ => ⟨by rw [e]; decide +kernel, cl_ok h, cl_ok g⟩
  | .n2 w a b, .inr ⟨e, h, g⟩ => ⟨by rcases e with e | e <;> rw [e] <;> decide +kernel, fl_ok h, fl_ok g⟩
def OutC (f : Addr) (H : Hp) (d : Nat) (Q : VK) : Prop := ∀ t v H', t.Cl → t.deep ≤ d → At H' t v → But f H H' → FeedAt H' f → Q v H'
def OutF (f : Addr) (H : Hp) (d : Nat) (Q : VK) : Prop := ∀ t v H', t.Fl → t.deep ≤ d → At H' t v → But f H H' → FeedAt H' f → Q v H'
/-- what stands behind several ways, shown once -/
theorem join {C G : Hp → Prop} {M : Prop} (main : (∀ H, C H → G H) → M) (rest : ∀ H, C H → G H) : M := main rest
theorem eqW {wd k : Str} {A B : Prop} (y : wd = k → A) (n : wd ≠ k → B) : if decide (V.str wd = V.str k) = true then A else B :=
  ite2 (fun c => y (by have q := of_decide_eq_true c; injection q)) (fun c => n (fun e => c (by rw [e]; exact decide_eq_true rfl)))
section
variable {P : Program} {w : World} {K : PySem.W.Frag} {mg : Str → Option Value} {base : Heap}
structure Draw (P : Program) (w : World) (K : PySem.W.Frag) (mg : Str → Option Value) (base : Heap) (ft fp : Addr) (dt dp : FuncData) : Prop where
  T : FnOk P w K mg base CX0 1 ft dt ["feed", "many"] spTake
  bT : Binds K dt ["feed", "many"] []
  kT : PySem.W.keepIn K (.ref ft) = true
  mT : mg "_law_take" = some (.ref ft)
  Pk : FnOk P w K mg base CX0 2 fp dp ["feed", "some"] (spPick K)
  bP : Binds K dp ["feed", "some"] []
  kP : PySem.W.keepIn K (.ref fp) = true
  mP : mg "_law_pick" = some (.ref fp)
theorem few1000 {n : Int} (h0 : 0 < n) (h : n ≤ 1000) : n.natAbs < 2 ^ 200 := Nat.lt_of_le_of_lt (show n.natAbs ≤ 1000 by omega) (by decide)
theorem words3 : ∀ x ∈ ([.str "next", .str "plus", .str "times"] : List V), ∃ wd : Str, x = .str wd ∧ (wd ≠ "next" → wd = "plus" ∨ wd = "times") := by
  intro x hx
  rcases List.mem_cons.mp hx with e | hx
  · exact ⟨_, e, by decide +kernel⟩
  rcases List.mem_cons.mp hx with e | hx
  · exact ⟨_, e, by decide +kernel⟩
  · exact ⟨_, List.mem_singleton.mp hx, by decide +kernel⟩
theorem wordsC : ∀ x ∈ ([.str "and", .str "if", .str "if"] : List V), ∃ wd : Str, x = .str wd ∧ (wd = "and" ∨ wd = "if") := by
  intro x hx
  rcases List.mem_cons.mp hx with e | hx
  · exact ⟨_, e, by decide +kernel⟩
  rcases List.mem_cons.mp hx with e | hx
  · exact ⟨_, e, by decide +kernel⟩
  · exact ⟨_, List.mem_singleton.mp hx, by decide +kernel⟩
end
end Kf
set_option Elab.async false
set_option linter.all false
set_option maxRecDepth 100000
set_option maxHeartbeats 4000000
set_option pp.maxSteps 400
/-! k41: is_true. -/
namespace Kf
open PySem PySem.Spec PyProof.Rows L2 Sx
abbrev sTrue : Stmt := top 31
abbrev trueN : List Str := ["saying", "done", "piece", "_", "left", "right"]
theorem scTrue : FnScope trueN ["saying"] (defScope sTrue) := ⟨rfl, rfl, rfl, by decide +kernel, rfl, by decide +kernel, by decide +kernel⟩
def v0 : Str → Int := fun _ => 0
/-- the truth, or none where a term is too great -/
def tru : Tr → Option Bool
  | .n0 _ => some false
  | .n2 w a b => if w = "same" then (wt v0 a).bind fun m => (wt v0 b).bind fun n => some (decide (m = n)) else (tru a).bind fun p => (tru b).bind fun q => some (if w = "and" then p && q else q || !p)
  | _ => none
def RunsT (res : Option Bool) : List (Tr × Nat) → List Bool → Prop
  | [], st => ∃ b, res = some b ∧ st = [b]
  | (.leaf _ _, _) :: es, st => RunsT res es st
  | (.n0 _, _) :: es, st => RunsT res es (st ++ [false])
  | (.n1 _ _, _) :: es, st => RunsT res es st
  | (.n2 w a b, _) :: es, st =>
    if w = "same" then (∀ m n, wt v0 a = some m → wt v0 b = some n → RunsT res es (st ++ [decide (m = n)])) ∧ (wt v0 a = none ∨ wt v0 b = none → res = none)
    else if w = "plus" ∨ w = "times" then RunsT res es st
    else ∃ s0 p q, st = s0 ++ [p] ++ [q] ∧ RunsT res es (s0 ++ [if w = "and" then p && q else q || !p])
theorem runsT_term {res : Option Bool} : ∀ (t : Tr) (r : Nat) (es : List (Tr × Nat)) (st : List Bool), t.Cl → RunsT res es st → RunsT res (t.post r ++ es) st
  | .leaf w x, r, es, st, cl, h => h
  | .n0 w, r, es, st, cl, h => cl.elim
  | .n1 w a, r, es, st, cl, h => by
    show RunsT res (a.post _ ++ [(.n1 w a, r)] ++ es) st
    rw [List.append_assoc]
    exact runsT_term a _ _ _ cl.2 h
  | .n2 w a b, r, es, st, cl, h => by
    show RunsT res (a.post _ ++ b.post _ ++ [(.n2 w a b, r)] ++ es) st
    rw [List.append_assoc, List.append_assoc]
    refine runsT_term a _ _ _ cl.2.1 (runsT_term b _ _ _ cl.2.2 ?_)
    show RunsT res ((.n2 w a b, r) :: es) st
    unfold RunsT
    rw [if_neg (by rcases cl.1 with e | e <;> rw [e] <;> decide +kernel), if_pos cl.1]
    exact h
theorem runsT_post {res : Option Bool} : ∀ (t : Tr) (r : Nat) (es : List (Tr × Nat)) (st : List Bool), t.Fl → (∀ b, tru t = some b → RunsT res es (st ++ [b])) → (tru t = none → res = none) → RunsT res (t.post r ++ es) st
  | .leaf _ _, r, es, st, fl, yes, no => fl.elim
  | .n0 w, r, es, st, fl, yes, no => yes false rfl
  | .n1 _ _, r, es, st, fl, yes, no => fl.elim
  | .n2 w a b, r, es, st, .inl ⟨e, ca, cb⟩, yes, no => by
    subst e
    show RunsT res (a.post _ ++ b.post _ ++ [(.n2 "same" a b, r)] ++ es) st
    rw [List.append_assoc, List.append_assoc]
    refine runsT_term a _ _ _ ca (runsT_term b _ _ _ cb ?_)
    show RunsT res ((.n2 "same" a b, r) :: es) st
    unfold RunsT
    rw [if_pos rfl]
    have e : tru (.n2 "same" a b) = (wt v0 a).bind fun m => (wt v0 b).bind fun n => some (decide (m = n)) := if_pos rfl
    rw [e] at yes no
    refine ⟨fun m n em en => yes _ (by rw [em, en]; rfl), fun h => no ?_⟩
    rcases h with h | h
    · rw [h]
      rfl
    · rw [h]
      cases wt v0 a <;> rfl
  | .n2 w a b, r, es, st, .inr ⟨e, fa, fb⟩, yes, no => by
    have ns : ¬ w = "same" := by rcases e with e | e <;> rw [e] <;> decide +kernel
    have np : ¬ (w = "plus" ∨ w = "times") := by rcases e with e | e <;> rw [e] <;> decide +kernel
    have et : tru (.n2 w a b) = (tru a).bind fun p => (tru b).bind fun q => some (if w = "and" then p && q else q || !p) := if_neg ns
    rw [et] at yes no
    show RunsT res (a.post _ ++ b.post _ ++ [(.n2 w a b, r)] ++ es) st
    rw [List.append_assoc, List.append_assoc]
    refine runsT_post a _ _ _ fa (fun p ep => runsT_post b _ _ _ fb (fun q eq => ?_) fun eq => no (by rw [ep, eq]; rfl)) fun ep => no (by rw [ep]; rfl)
    show RunsT res ((.n2 w a b, r) :: es) _
    unfold RunsT
    rw [if_neg ns, if_neg np]
    exact ⟨st, p, q, rfl, yes _ (by rw [ep, eq]; rfl)⟩
/-- what stands among the pieces of a flat saying -/
def Fine (t : Tr) : Prop := t.Cl ∨ t.Fl
theorem fine_ok {t : Tr} (h : Fine t) : t.Ok := h.elim cl_ok fl_ok
theorem post_cl : ∀ (t : Tr) (r : Nat), t.Cl → ∀ e ∈ t.post r, e.1.Cl
  | .leaf w x, r, h, e, he => by rw [List.mem_singleton.mp he]; exact h
  | .n0 _, r, h, e, he => h.elim
  | .n1 w a, r, h, e, he => by
    rcases List.mem_append.mp he with z | z
    · exact post_cl a _ h.2 e z
    · rw [List.mem_singleton.mp z]
      exact h
  | .n2 w a b, r, h, e, he => by
    rcases List.mem_append.mp he with z | z
    · rcases List.mem_append.mp z with z | z
      · exact post_cl a _ h.2.1 e z
      · exact post_cl b _ h.2.2 e z
    · rw [List.mem_singleton.mp z]
      exact h
theorem post_fine : ∀ (t : Tr) (r : Nat), t.Fl → ∀ e ∈ t.post r, Fine e.1 ∧ e.1.deep ≤ t.deep
  | .leaf _ _, r, h, e, he => h.elim
  | .n0 w, r, h, e, he => by
    rw [List.mem_singleton.mp he]
    exact ⟨.inr h, Nat.le_refl _⟩
  | .n1 _ _, r, h, e, he => h.elim
  | .n2 w a b, r, h, e, he => by
    have deepP : ∀ (t : Tr) (r : Nat), ∀ e ∈ t.post r, e.1.deep ≤ t.deep := by
      intro t
      induction t with
      | leaf w x =>
        intro r e he
        rw [List.mem_singleton.mp he]
        exact Nat.le_refl _
      | n0 w =>
        intro r e he
        rw [List.mem_singleton.mp he]
        exact Nat.le_refl _
      | n1 w a ih =>
        intro r e he
        rcases List.mem_append.mp he with z | z
        · exact Nat.le_succ_of_le (ih _ e z)
        · rw [List.mem_singleton.mp z]
          exact Nat.le_refl _
      | n2 w a b iha ihb =>
        intro r e he
        show e.1.deep ≤ max a.deep b.deep + 1
        rcases List.mem_append.mp he with z | z
        · rcases List.mem_append.mp z with z | z
          · have := iha _ e z
            omega
          · have := ihb _ e z
            omega
        · rw [List.mem_singleton.mp z]
          exact Nat.le_refl _
    refine ⟨?_, deepP (.n2 w a b) r e he⟩
    rcases List.mem_append.mp he with z | z
    · rcases h with ⟨ew, ca, cb⟩ | ⟨ew, fa, fb⟩
      · rcases List.mem_append.mp z with z | z
        · exact .inl (post_cl a _ ca e z)
        · exact .inl (post_cl b _ cb e z)
      · rcases List.mem_append.mp z with z | z
        · exact (post_fine a _ fa e z).1
        · exact (post_fine b _ fb e z).1
    · rw [List.mem_singleton.mp z]
      exact .inr h
theorem inV_strs (z : Str) : ∀ ys : List Str, inV (.str z) (ys.map V.str) = decide (z ∈ ys)
  | [] => by simp [inV]
  | y :: r => by
    have h := inV_strs z r
    unfold inV at h ⊢
    rw [List.map_cons, List.any_cons, h]
    have e1 : eqV (.str y) (.str z) = decide (y = z) := by
      unfold eqV
      rfl
    rw [e1]
    by_cases e : y = z
    · subst e
      simp
    · rw [decide_eq_false e, Bool.false_or]
      have e3 : z ≠ y := fun q => e q.symm
      simp [e3]
/-- a word among two -/
theorem inW {z a b : Str} {A B : Prop} (y : z = a ∨ z = b → A) (n : ¬ (z = a ∨ z = b) → B) : if inV (.str z) [.str a, .str b] = true then A else B := by
  rw [show inV (.str z) [.str a, .str b] = decide (z ∈ [a, b]) from inV_strs z [a, b]]
  refine ite2 (fun c => y ?_) (fun c => n fun q => c (decide_eq_true ?_))
  · simpa using of_decide_eq_true c
  · simpa using q
theorem joinV {C G : V → Hp → Prop} {M : Prop} (main : (∀ v H, C v H → G v H) → M) (rest : ∀ v H, C v H → G v H) : M := main rest
def spTrue (TM : Addr) : Sp := fun vs H Q E => ∃ (v1 : V) (t : Tr), vs = [v1] ∧ At H t v1 ∧ t.Fl ∧ t.deep ≤ 12 ∧ (∀ b H', tru t = some b → Same H H' → Q (.bl b) H') ∧ ∀ H', tru t = none → Same H H' → E (.ref TM) none H'
section
variable {P : Program} {w : World} {K : PySem.W.Frag} {mg : Str → Option Value} {base : Heap}
theorem ok_true {f gp gw TM : Addr} {fd dp dw : FuncData} (F : Fun K "is_true" "is_true" sTrue f fd) (G : FnOk P w K mg base CX0 2 gp dp ["thing"] spPieces) (bG : Binds K dp ["thing"] []) (kG : PySem.W.keepIn K (.ref gp) = true) (mG : mg "pieces_of" = some (.ref gp))
    (W : FnOk P w K mg base (L2.CX P w) 3 gw dw ["term", "numbers"] (spWorth TM)) (bW : Binds K dw ["term", "numbers"] []) (kW : PySem.W.keepIn K (.ref gw) = true) (mW : mg "worth" = some (.ref gw)) : FnOk P w K mg base (L2.CX P w) 4 f fd ["saying"] (spTrue TM) := by
  refine F.okX scTrue (fun vs H Q E h => ?_) (fun cdv A outer s H vs Q E hr h => ?_)
  · obtain ⟨v1, t, rfl, _⟩ := h
    rfl
  obtain ⟨v1, t, rfl, hA, hF, hd, qy, qn⟩ := h
  have h2 : Room 2 _ := hr.mono (by decide)
  have hO := fl_ok hF
  refine ⟨_, pss_cons (ps_set (i := 1) scTrue.nd rfl (.inl rfl) (pe_lst pa_nil))
    (pss_cons (ps_for (passes_of rfl) rfl (pi_list (pe_call G h2 (by rfl) mG kG bG .nil pass0 (pa_cons (pv 0) pa_nil))) (pg_tup (by rfl) (pgs_cons (pg_name (i := 2) scTrue.nd rfl (.inl rfl)) (pgs_cons (pg_name (i := 3) scTrue.nd rfl (.inl rfl)) pgs_nil)))
      (pss_one (ps_if (pt_cmpR op_eq (pe_ix ix_tup (pv 2) pe_int (fun _ _ => rfl)) pe_str (nomark _))
        (pss_cons (ps_set (i := 4) scTrue.nd rfl (.inl rfl) (pe_call (E := E) W hr (by rfl) mW kW bW .nil (passes_call (takes_of rfl rfl rfl rfl) fun _ _ _ _ z => z) (pa_cons (pe_ix ix_tup (pv 2) pe_int (fun _ _ => rfl)) (pa_cons pe_dnewK pa_nil))))
        (pss_one (ps_expr (pe_bm PySem.F.plainAttrs_list PySem.F.slot_list_append PySem.F.type_list_append mt_append (pv 1) (pa_cons (pe_cmpR op_eq (pv 4) (pe_call (E := E) W hr (by rfl) mW kW bW .nil (passes_call (takes_of rfl rfl rfl rfl) fun _ _ _ _ z => z) (pa_cons (pe_ix ix_tup (pv 2) pe_int (fun _ _ => rfl)) (pa_cons pe_dnewK pa_nil))) (nomark _)) pa_nil)))))
        (pss_one (ps_if (pt_cmpR op_eq (pe_ix ix_tup (pv 2) pe_int (fun _ _ => rfl)) pe_str (nomark _)) (pss_one (ps_expr (pe_bm PySem.F.plainAttrs_list PySem.F.slot_list_append PySem.F.type_list_append mt_append (pv 1) (pa_cons pe_bl pa_nil))))
          (pss_one (ps_if (pt_cmpR op_in_seq (pe_ix ix_tup (pv 2) pe_int (fun _ _ => rfl)) (pe_tup (pa_cons pe_str (pa_cons pe_str pa_nil))) (by rfl))
            (pss_cons (ps_set (i := 5) scTrue.nd rfl (.inl rfl) (pe_bm0 PySem.F.plainAttrs_list PySem.F.slot_list_pop PySem.F.type_list_pop mt_pop (pv 1)))
            (pss_cons (ps_set (i := 4) scTrue.nd rfl (.inl rfl) (pe_bm0 PySem.F.plainAttrs_list PySem.F.slot_list_pop PySem.F.type_list_pop mt_pop (pv 1)))
            (pss_one (ps_expr (pe_bm PySem.F.plainAttrs_list PySem.F.slot_list_append PySem.F.type_list_append mt_append (pv 1) (pa_cons (pe_ifExp (pt_cmpR op_eq (pe_ix ix_tup (pv 2) pe_int (fun _ _ => rfl)) pe_str (nomark _)) (pe_and (pv 4) (pe_one (pv 5))) (pe_or (pv 5) (pe_one (pe_not (pv 4))))) pa_nil))))))
            pss_nil)))))))
    (pss_one (ps_ret (pe_ix ix_list (pv 1) pe_int (fun _ _ => rfl))))), ?_⟩
  refine ⟨Nat.zero_le _, fun pd nd => ?_⟩
  have s1 : Same H (upd H pd (.lst [])) := same_new nd
  refine ⟨_, rfl, v1, t, rfl, hA.keep (tups_same s1), hO, hd, fun p H1 vf sm np hp rows => ?_⟩
  have hD1 : H1 pd = some (.lst []) := sm _ _ upd_same
  have npd : p ≠ pd := fun z => by
    rw [z, upd_same] at np
    cases np
  have lenP : vf.length ≤ 4096 := by
    have l1 := rows.len
    rw [post_len] at l1
    have l3 := size_deep t
    have l4 : 2 ^ t.deep ≤ 2 ^ 12 := Nat.pow_le_pow_right (by decide) hd
    omega
  have sH : ∀ {H' : Hp}, But pd H1 H' → Same H H' := fun b c u e => b c u (ne_of_none e nd) (sm _ _ (s1 _ _ e))
  refine ⟨p, rfl, ⟨_, .inl (.inl hp)⟩, for_list (K := K) (a := p) (xs := vf) (fun i σ H' => ∃ (st : List Bool) (y2 y3 y4 y5 : Option V), σ = [some v1, some (.ref pd), y2, y3, y4, y5] ∧ But pd H1 H' ∧ H' pd = some (.lst (st.map V.bl)) ∧ RunsT (tru t) ((t.post 0).drop i) st ∧ st.length ≤ i)
    ⟨[], none, none, none, none, rfl, But.refl _ _, hD1, ?_, Nat.le_refl _⟩ (fun i σ H' _ ⟨_, _, _, _, _, _, b, _⟩ => .inl (.inl (b _ _ npd hp))) ?_ ?_⟩
  · have z := runsT_post (res := tru t) t 0 [] [] hF (fun b e => ⟨b, e, rfl⟩) id
    rw [List.append_nil] at z
    exact z
  · rintro i y σ H' hy ⟨st, y2, y3, y4, y5, rfl, b, hD, runs, lst⟩
    obtain ⟨⟨t1, r1⟩, he, ⟨q1, x1, rfl, h1, a1⟩⟩ := rows.get hy
    have k1 : Tups H1 H' := b.tups hD1
    have a2 : At H' t1 x1 := At.keep k1 a1
    obtain ⟨fine1, dp1⟩ := post_fine t 0 hF (t1, r1) (List.mem_of_getElem? he)
    have il : i < (t.post 0).length := (List.getElem?_eq_some_iff.mp he).1
    have ed : (t.post 0).drop i = (t1, r1) :: (t.post 0).drop (i + 1) := by
      rw [List.drop_eq_getElem_cons il, (List.getElem?_eq_some_iff.mp he).2]
    rw [ed] at runs
    have lenI : i < vf.length := by rw [← rows.len]; exact il
    have line : ∀ st2 : List Bool, st2.length ≤ i → (st2.map V.bl).length < sizeLine := fun st2 h => line_of (by rw [List.length_map]; omega)
    obtain ⟨p1, us, rfl, hp1, lus, kids, leafs⟩ := a2.view (fine_ok fine1)
    refine ⟨q1, [.ref p1, .int (r1 : Int)], rfl, .inl (.inl (k1 _ _ h1)), rfl, .ref p1, [.int (r1 : Int)], rfl, .int (r1 : Int), [], rfl, rfl, ?_⟩
    refine ⟨_, rfl, p1, _, 0, _, rfl, rfl, .inl (.inl hp1), head_at _ _, rfl, _, rfl, ?_⟩
    -- the pieces of which nothing comes
    have skip : t1.word ≠ "no" → ¬ (t1.word = "and" ∨ t1.word = "if") → RunsT (tru t) ((t.post 0).drop (i + 1)) st →
        (∀ (D : Ends), (∀ X, Same H' X → ∃ (st2 : List Bool) (y2 y3 y4 y5 : Option V), [some v1, some (V.ref pd), some (V.ref p1), some (V.int (r1 : Int)), y4, y5] = [some v1, some (.ref pd), y2, y3, y4, y5] ∧ But pd H1 X ∧ X pd = some (.lst (st2.map V.bl)) ∧ RunsT (tru t) ((t.post 0).drop (i + 1)) st2 ∧ st2.length ≤ i + 1) → True) := fun _ _ _ _ _ => trivial
    clear skip
    refine eqW (fun e => ?_) (fun ns => ?_)
    · -- same
      have fl : ∃ a c, t1 = .n2 "same" a c ∧ a.Cl ∧ c.Cl := by
        rcases fine1 with h | h
        · cases t1 with
          | leaf w x =>
            have e2 : w = "num" := h.1
            have e : w = "same" := e
            rw [e2] at e
            exact absurd e (by decide +kernel)
          | n0 w => exact h.elim
          | n1 w a =>
            have e2 : w = "next" := h.1
            have e : w = "same" := e
            rw [e2] at e
            exact absurd e (by decide +kernel)
          | n2 w a c =>
            have e : w = "same" := e
            rw [e] at h
            exact absurd h.1 (by decide +kernel)
        · cases t1 with
          | leaf w x => exact h.elim
          | n0 w =>
            have e2 : w = "no" := h
            have e : w = "same" := e
            rw [e2] at e
            exact absurd e (by decide +kernel)
          | n1 w a => exact h.elim
          | n2 w a c =>
            have e : w = "same" := e
            subst e
            rcases h with ⟨_, h, g⟩ | ⟨e, _⟩
            · exact ⟨a, c, rfl, h, g⟩
            · exact absurd e (by decide +kernel)
      obtain ⟨ta, tc, rfl, ca, cc⟩ := fl
      obtain ⟨p0, ya, yc, ep, hp0, aa, ac⟩ := a2
      cases ep
      have dd : max ta.deep tc.deep + 1 ≤ t.deep := dp1
      unfold RunsT at runs
      rw [if_pos rfl] at runs
      obtain ⟨ry, rn⟩ := runs
      refine ⟨_, rfl, p1, _, 1, ya, rfl, rfl, .inl (.inl hp0), atI_nat (j := 1) rfl, fun d1 nd1 => ?_⟩
      have sd1 : Same H' (upd H' d1 (.dK [])) := same_new nd1
      refine ⟨ya, d1, ta, v0, [], rfl, aa.keep (tups_same sd1), cl_ok ca, cl_tm ca, by omega, upd_same, (fun z hz => by rw [cl_names ca] at hz; cases hz), (fun _ => Int.le_refl 0), fun m Ha em sa => ?_, fun Ha em sa => ?_⟩
      · have sA := sd1.trans sa
        refine ⟨_, rfl, .inl ⟨rfl, _, .inl (.inl (sA _ _ hD))⟩, _, rfl, _, rfl, p1, _, 2, yc, rfl, rfl, .inl (.inl (sA _ _ hp0)), atI_nat (j := 2) rfl, fun d2 nd2 => ?_⟩
        have sd2 := same_put (o := .dK []) sA nd2
        refine ⟨yc, d2, tc, v0, [], rfl, ac.keep (tups_same sd2), cl_ok cc, cl_tm cc, by omega, upd_same, (fun z hz => by rw [cl_names cc] at hz; cases hz), (fun _ => Int.le_refl 0), fun n Hb en sb => ?_, fun Hb en sb => ?_⟩
        · have sB := sd2.trans sb
          have bB : But pd H1 Hb := b.trans (but_same sB)
          refine ⟨rfl, pd, _, .bl (decide (V.int m = V.int n)), rfl, rfl, sB _ _ hD, line st lst, ?_⟩
          have e3 : decide (V.int m = V.int n) = decide (m = n) := decide_eq_decide.mpr ⟨fun z => by injection z, fun z => by rw [z]⟩
          refine ⟨st ++ [decide (m = n)], _, _, _, _, rfl, bB.own, by rw [upd_same, List.map_append, e3]; rfl, ry m n em en, ?_⟩
          rw [List.length_append, List.length_singleton]
          omega
        · exact qn Hb (rn (.inr en)) (sH (b.trans (but_same (sd2.trans sb))))
      · exact qn Ha (rn (.inl em)) (sH (b.trans (but_same (sd1.trans sa))))
    · refine ⟨_, rfl, p1, _, 0, _, rfl, rfl, .inl (.inl hp1), head_at _ _, rfl, _, rfl, ?_⟩
      refine eqW (fun e => ?_) (fun nn => ?_)
      · -- no
        have en : ∃ w, t1 = .n0 w := by
          rcases fine1 with h | h
          · cases t1 with
            | leaf w x =>
              have e2 : w = "num" := h.1
              have e : w = "no" := e
              rw [e2] at e
              exact absurd e (by decide +kernel)
            | n0 w => exact h.elim
            | n1 w a =>
              have e2 : w = "next" := h.1
              have e : w = "no" := e
              rw [e2] at e
              exact absurd e (by decide +kernel)
            | n2 w a c =>
              have e : w = "no" := e
              rw [e] at h
              exact absurd h.1 (by decide +kernel)
          · cases t1 with
            | leaf w x => exact h.elim
            | n0 w => exact ⟨w, rfl⟩
            | n1 w a => exact h.elim
            | n2 w a c =>
              have e : w = "no" := e
              rw [e] at h
              rcases h with ⟨z, _⟩ | ⟨z, _⟩ <;> exact absurd z (by decide +kernel)
        obtain ⟨w, rfl⟩ := en
        refine ⟨_, rfl, .inl ⟨rfl, _, .inl (.inl hD)⟩, pd, _, .bl false, rfl, rfl, hD, line st lst, ?_⟩
        refine ⟨st ++ [false], _, _, _, _, rfl, b.own, by rw [upd_same, List.map_append]; rfl, runs, ?_⟩
        rw [List.length_append, List.length_singleton]
        omega
      · refine ⟨_, rfl, p1, _, 0, _, rfl, rfl, .inl (.inl hp1), head_at _ _, (by show 2 ≤ sizeLine; decide), fun m nm => ?_⟩
        have sm2 : Same H' (upd H' m (.tup [.str "and", .str "if"])) := same_new nm
        refine ⟨m, [.str "and", .str "if"], rfl, .inr (.inl (.inl upd_same)), rfl, rfl, _, rfl, ?_⟩
        have hDm := sm2 _ _ hD
        have hpm := sm2 _ _ hp1
        have bm : But pd H1 (upd H' m (.tup [.str "and", .str "if"])) := b.trans (but_same sm2)
        generalize upd H' m (.tup [.str "and", .str "if"]) = X at hDm hpm bm sm2 ⊢
        refine inW (fun c => ?_) (fun c => ?_)
        · -- and, if
          have fl : ∃ w a e, t1 = .n2 w a e ∧ (w = "and" ∨ w = "if") := by
            cases t1 with
            | leaf w x =>
              rcases fine1 with h | h
              · have e2 : w = "num" := h.1
                have c : w = "and" ∨ w = "if" := c
                rw [e2] at c
                exact absurd c (by decide +kernel)
              · exact h.elim
            | n0 w =>
              rcases fine1 with h | h
              · exact h.elim
              · exact absurd h nn
            | n1 w a =>
              rcases fine1 with h | h
              · have e2 : w = "next" := h.1
                have c : w = "and" ∨ w = "if" := c
                rw [e2] at c
                exact absurd c (by decide +kernel)
              · exact h.elim
            | n2 w a e => exact ⟨w, a, e, rfl, c⟩
          obtain ⟨w, ta, tc, rfl, ew⟩ := fl
          have n1 : ¬ w = "same" := ns
          have n2 : ¬ (w = "plus" ∨ w = "times") := by rcases ew with e | e <;> rw [e] <;> decide +kernel
          unfold RunsT at runs
          rw [if_neg n1, if_neg n2] at runs
          obtain ⟨s0, a, c2, es, rest⟩ := runs
          subst es
          have hpop : ((s0 ++ [a] ++ [c2]).map V.bl)[((s0 ++ [a] ++ [c2]).map V.bl).length - 1]? = some (.bl c2) := by simp
          have hpop2 : ((s0 ++ [a]).map V.bl)[((s0 ++ [a]).map V.bl).length - 1]? = some (.bl a) := by simp
          refine ⟨_, rfl, .inl ⟨rfl, _, .inl (.inl hDm)⟩, pd, _, .bl c2, rfl, rfl, hDm, hpop, ?_⟩
          rw [show ((s0 ++ [a] ++ [c2]).map V.bl).dropLast = (s0 ++ [a]).map V.bl by simp]
          refine ⟨_, rfl, .inl ⟨rfl, _, .inl (.inl upd_same)⟩, pd, _, .bl a, rfl, rfl, upd_same, hpop2, ?_⟩
          rw [show ((s0 ++ [a]).map V.bl).dropLast = s0.map V.bl by simp]
          have b2 : But pd H1 (upd (upd X pd (.lst ((s0 ++ [a]).map V.bl))) pd (.lst (s0.map V.bl))) := bm.own.own
          have np1 : p1 ≠ pd := fun z => by
            rw [z, hDm] at hpm
            cases hpm
          have hp9 : (upd (upd X pd (.lst ((s0 ++ [a]).map V.bl))) pd (.lst (s0.map V.bl))) p1 = some (.tup (.str (Tr.n2 w ta tc).word :: us)) := by
            rw [upd_ne np1, upd_ne np1]
            exact hpm
          have ls : s0.length ≤ i := by
            rw [List.length_append, List.length_append, List.length_singleton, List.length_singleton] at lst
            omega
          have hD9 : (upd (upd X pd (.lst ((s0 ++ [a]).map V.bl))) pd (.lst (s0.map V.bl))) pd = some (.lst (s0.map V.bl)) := upd_same
          generalize upd (upd X pd (.lst ((s0 ++ [a]).map V.bl))) pd (.lst (s0.map V.bl)) = Y at b2 hp9 hD9 ⊢
          refine ⟨_, rfl, .inl ⟨rfl, _, .inl (.inl hD9)⟩, ?_⟩
          have fin : ∀ z : Bool, z = (if w = "and" then a && c2 else c2 || !a) → ∃ (st2 : List Bool) (y2 y3 y4 y5 : Option V), ([some v1, some (.ref pd), some (.ref p1), some (.int (r1 : Int)), some (.bl a), some (.bl c2)] : L2.St) = [some v1, some (.ref pd), y2, y3, y4, y5] ∧ But pd H1 (upd Y pd (.lst (s0.map V.bl ++ [.bl z]))) ∧ (upd Y pd (.lst (s0.map V.bl ++ [.bl z]))) pd = some (.lst (st2.map V.bl)) ∧ RunsT (tru t) ((t.post 0).drop (i + 1)) st2 ∧ st2.length ≤ i + 1 := fun z ez => by
            refine ⟨s0 ++ [z], _, _, _, _, rfl, b2.own, by rw [upd_same, List.map_append]; rfl, by rw [ez]; exact rest, ?_⟩
            rw [List.length_append, List.length_singleton]
            omega
          refine ⟨_, rfl, p1, _, 0, _, rfl, rfl, .inl (.inl hp9), head_at _ _, rfl, _, rfl, ?_⟩
          refine eqW (fun e => ?_) (fun ne => ?_)
          · rw [if_pos (show w = "and" from e)] at fin
            refine ⟨_, rfl, a, rfl, ?_⟩
            cases a with
            | true => exact iteT ⟨_, rfl, pd, _, .bl c2, rfl, rfl, hD9, line s0 ls, fin c2 rfl⟩
            | false => exact iteF ⟨pd, _, .bl false, rfl, rfl, hD9, line s0 ls, fin false rfl⟩
          · rw [if_neg (show ¬ w = "and" from ne)] at fin
            refine ⟨_, rfl, c2, rfl, ?_⟩
            cases c2 with
            | true => exact iteT ⟨pd, _, .bl true, rfl, rfl, hD9, line s0 ls, fin true rfl⟩
            | false => exact iteF ⟨_, rfl, a, rfl, pd, _, .bl (!a), rfl, rfl, hD9, line s0 ls, fin (!a) (by simp)⟩
        · -- a term's piece
          have runs2 : RunsT (tru t) ((t.post 0).drop (i + 1)) st := by
            cases t1 with
            | leaf w x => exact runs
            | n0 w =>
              rcases fine1 with h | h
              · exact h.elim
              · exact absurd h nn
            | n1 w a => exact runs
            | n2 w a e =>
              unfold RunsT at runs
              have n1 : ¬ w = "same" := ns
              rw [if_neg n1] at runs
              rcases fine1 with h | h
              · rw [if_pos h.1] at runs
                exact runs
              · rcases h with ⟨z, _⟩ | ⟨z, _⟩
                · exact absurd z n1
                · exact absurd z c
          exact ⟨st, _, _, _, _, rfl, bm, hDm, runs2, by omega⟩
  · rintro σ H' ⟨st, y2, y3, y4, y5, rfl, b, hD, runs, lst⟩
    rw [← rows.len, List.drop_length] at runs
    obtain ⟨n, en, rfl⟩ := runs
    refine ⟨_, rfl, pd, _, 0, _, rfl, rfl, .inl (.inl hD), atI_nat (j := 0) rfl, ?_⟩
    exact qy n _ en (sH b)
end
end Kf
set_option Elab.async false
set_option linter.all false
set_option maxRecDepth 100000
set_option maxHeartbeats 4000000
set_option pp.maxSteps 400
/-! k40: the terms and sayings that the law makes, by their kinds. -/
namespace Kf
open PySem PySem.Spec PyProof.Rows L2 Sx
/-! ### lists of texts as data -/
theorem dp_strs {K : PySem.W.Frag} {H : Hp} {a : Addr} {ns : List Str} (h : SqL K H a (ns.map V.str)) : Dp K H (.ref a) (.list (ns.map PyData.str)) := by
  refine .lst h ?_
  clear h
  induction ns with
  | nil => exact .nil
  | cons x r ih => exact .cons (.str x) ih
theorem eqv_strs : ∀ xs ys : List Str, PyData.eqvAll (xs.map .str) (ys.map .str) = decide (xs = ys)
  | [], [] => rfl
  | [], _ :: _ => rfl
  | _ :: _, [] => rfl
  | x :: xs, y :: ys => by
    show (x == y && PyData.eqvAll (xs.map .str) (ys.map .str)) = decide (x :: xs = y :: ys)
    rw [eqv_strs xs ys]
    by_cases e : x = y
    · subst e
      simp
    · have e2 : (x == y) = false := beq_eq_false_iff_ne.mpr e
      rw [e2]
      simp [e]
theorem lay_strs : ∀ ns : List Str, (∀ z ∈ ns, NmOk z) → PyData.canLayAll0 (ns.map .str) = true ∧ PyData.depthAll (ns.map .str) = 0
  | [], _ => ⟨rfl, rfl⟩
  | z :: r, h => by
    obtain ⟨h1, h2⟩ := lay_strs r fun y hy => h y (List.mem_cons_of_mem _ hy)
    have hz : z.cps.all (· < 0x110000) = true := h z List.mem_cons_self
    refine ⟨?_, ?_⟩
    · show (z.cps.all (· < 0x110000) && PyData.canLayAll0 (r.map .str)) = true
      rw [hz, h1]
      rfl
    · show max 0 (PyData.depthAll (r.map .str)) = 0
      rw [h2]
      rfl
theorem shaped_strs {ns : List Str} (h : ∀ z ∈ ns, NmOk z) : SeqAt.shaped (.list (ns.map .str)) = true := by
  obtain ⟨h1, h2⟩ := lay_strs ns h
  show (PyData.canLayAll0 (ns.map .str) && decide (PyData.depthAll (ns.map .str) + 1 ≤ 64)) = true
  rw [h1, h2]
  rfl
/-! ### what the law makes -/
abbrev kT : Str := "term"
abbrev kS : Str := "saying"
def table : List (Str × Str × List Str) := [("next", kT, [kT]), ("plus", kT, [kT, kT]), ("times", kT, [kT, kT]), ("same", kS, [kT, kT]), ("no", kS, []), ("and", kS, [kS, kS]), ("or", kS, [kS, kS]), ("if", kS, [kS, kS]), ("all", kS, [kS]), ("some", kS, [kS])]
theorem table_leafy : ∀ e ∈ table, leafy e.1 = false := by decide +kernel
theorem table_nm : ∀ e ∈ table, NmOk e.1 ∧ e.1.length ≤ 8 := by decide +kernel
def LeafW (w : Str) (x : V) : Prop := ((w = "num" ∨ w = "bound") ∧ ∃ n : Int, x = .int n ∧ 0 ≤ n ∧ n < 10 ^ 60) ∨ (w = "name" ∧ ∃ z, x = .str z ∧ NmOk z ∧ z.length ≤ 8)
def Tr.Wf : Str → Tr → Prop
  | k, .leaf w x => k = kT ∧ LeafW w x
  | k, .n0 w => (w, k, []) ∈ table
  | k, .n1 w a => ∃ k1, (w, k, [k1]) ∈ table ∧ a.Wf k1
  | k, .n2 w a b => ∃ k1 k2, (w, k, [k1, k2]) ∈ table ∧ a.Wf k1 ∧ b.Wf k2
theorem wf_ok : ∀ {t : Tr} {k : Str}, t.Wf k → t.Ok
  | .leaf w x, k, h => by
    rcases h.2 with ⟨e, n, ex, _⟩ | ⟨e, z, ex, _⟩
    · subst ex
      rcases e with e | e <;> subst e <;> exact ⟨by decide +kernel, .inl ⟨⟨n, rfl⟩, by decide +kernel⟩⟩
    · subst e ex
      exact ⟨by decide +kernel, .inr ⟨⟨_, rfl⟩, rfl⟩⟩
  | .n0 w, k, h => table_leafy _ h
  | .n1 w a, k, ⟨k1, h, ha⟩ => ⟨table_leafy _ h, wf_ok ha⟩
  | .n2 w a b, k, ⟨k1, k2, h, ha, hb⟩ => ⟨table_leafy _ h, wf_ok ha, wf_ok hb⟩
/-- an inner piece's row in the table, its parts by their kinds -/
theorem wf_row {t : Tr} {k : Str} (h : t.Wf k) (nl : leafy t.word = false) : ∃ ks, (t.word, k, ks) ∈ table ∧ All2 (fun a k1 => Tr.Wf k1 a) t.kids ks := by
  cases t with
  | leaf w x => exact (no_leaf nl (wf_ok (t := .leaf w x) h).1).elim
  | n0 w => exact ⟨[], h, .nil⟩
  | n1 w a =>
    obtain ⟨k1, h1, ha⟩ := h
    exact ⟨[k1], h1, .one ha⟩
  | n2 w a b =>
    obtain ⟨k1, k2, h1, ha, hb⟩ := h
    exact ⟨[k1, k2], h1, .cons ha (.one hb)⟩
/-- the names' list -/
structure NmAt (H : Hp) (l : Addr) (ns : List Str) : Prop where
  at_ : H l = some (.lst (ns.map V.str))
  few : ns.length ≤ 60
  ok : ∀ z ∈ ns, NmOk z
  short : ∀ z ∈ ns, z.length ≤ 8
theorem NmAt.keep {H H' : Hp} {f l : Addr} {ns : List Str} (h : NmAt H l ns) (n : l ≠ f) (b : But f H H') : NmAt H' l ns := ⟨b _ _ n h.at_, h.few, h.ok, h.short⟩
theorem NmAt.same {H H' : Hp} {l : Addr} {ns : List Str} (h : NmAt H l ns) (b : Same H H') : NmAt H' l ns := ⟨b _ _ h.at_, h.few, h.ok, h.short⟩
/-- a made tree -/
structure Made (k : Str) (d : Nat) (t : Tr) : Prop where
  wf : t.Wf k
  dp : t.deep ≤ d
theorem made_num {n : Int} (h0 : 0 ≤ n) (h1 : n < 10 ^ 60) : Made kT 1 (.leaf "num" (.int n)) := ⟨⟨rfl, .inl ⟨.inl rfl, n, rfl, h0, h1⟩⟩, Nat.le_refl 1⟩
theorem made_bound {n : Int} (h0 : 0 ≤ n) (h1 : n < 10 ^ 60) : Made kT 1 (.leaf "bound" (.int n)) := ⟨⟨rfl, .inl ⟨.inr rfl, n, rfl, h0, h1⟩⟩, Nat.le_refl 1⟩
theorem made_name {x : Str} (h : NmOk x) (l : x.length ≤ 8) : Made kT 1 (.leaf "name" (.str x)) := ⟨⟨rfl, .inr ⟨rfl, x, rfl, h, l⟩⟩, Nat.le_refl 1⟩
theorem no_row : (("no", kS, []) : Str × Str × List Str) ∈ table := by decide +kernel
theorem made_no : Made kS 1 (.n0 "no") := ⟨no_row, Nat.le_refl 1⟩
theorem Made.up {k : Str} {d e : Nat} {t : Tr} (h : Made k d t) (le : d ≤ e) : Made k e t := ⟨h.wf, Nat.le_trans h.dp le⟩
theorem made_one {k k1 w : Str} {d : Nat} {a : Tr} (hw : (w, k, [k1]) ∈ table) (h : Made k1 d a) : Made k (d + 1) (.n1 w a) := ⟨⟨k1, hw, h.wf⟩, Nat.succ_le_succ h.dp⟩
theorem made_two {k k1 k2 w : Str} {d : Nat} {a b : Tr} (hw : (w, k, [k1, k2]) ∈ table) (h : Made k1 d a) (g : Made k2 d b) : Made k (d + 1) (.n2 w a b) := ⟨⟨k1, k2, hw, h.wf, g.wf⟩, Nat.succ_le_succ (Nat.max_le.mpr ⟨h.dp, g.dp⟩)⟩
/-- what is promised of a made tree -/
def Out (f : Addr) (H : Hp) (k : Str) (d : Nat) (Q : VK) : Prop := ∀ t v H', Made k d t → At H' t v → But f H H' → FeedAt H' f → Q v H'
section
variable {P : Program} {w : World} {K : PySem.W.Frag} {mg : Str → Option Value} {base : Heap}
theorem big60 {n : Int} (h : n ≤ 10 ^ 30) : n < 10 ^ 60 := Int.lt_of_le_of_lt h (by decide)
end
theorem same_row : (("same", kS, [kT, kT]) : Str × Str × List Str) ∈ table := by decide +kernel
end Kf
set_option Elab.async false
set_option linter.all false
set_option maxRecDepth 100000
set_option maxHeartbeats 4000000
set_option pp.maxSteps 400
/-! k40: sayings_of, is_flat, is_seen, and the law's own looks. -/
namespace Kf
open PySem PySem.Spec PyProof.Rows L2 Sx RZ
/-! ### list.extend by a list or a tuple -/
theorem ext_tup (l b : Addr) (xs ys : Array Value) (n m : Nat) (dd : Option Addr) (sl : Array (Option Value)) (long : ¬(!xs.isEmpty && Builtin.List.listTooLong (xs.size + ys.size)) = true) (fits : xs.size ≤ sizeLine)
    (fits2 : xs.size + ys.size ≤ sizeLine + 1) :
    Meets (Builtin.«list.extend» ⟨[.ref l, .ref b], []⟩) (fun _ R s => s.heap.get? l = some { cls := .type "list", data := .seq xs n } ∧ s.heap.get? b = some { cls := .type "tuple", dict := dd, data := .seq ys m, slots := sl } ∧
      R (.ok (.ret Value.none)) { s with heap := s.heap.update l (Obj.mapSeq fun x => x ++ ys), toks := s.toks }) := by
  refine .of_wp fun prog w A R s h => ?_
  obtain ⟨hp, g, d, tk, os⟩ := s
  obtain ⟨hl, hb, h⟩ := h
  have f1 := AutoSeq1.idx_int
  have f2 := AutoSeq1.sub_tuple_tuple
  have f3 := AutoSeq1.sub_list_list
  have f4 := AutoSeq1.sub_tuple_list
  have f5 := AutoSeq1.sub_list_tuple
  have both : (xs ++ ys).size ≤ sizeLine + 1 := by
    rw [Array.size_append]
    exact fits2
  wp_walk using (wpAny_updateSeq hl rfl (hz := fits) (_hz' := both)), wpAny_loadPart' hb
  exact ⟨_, rfl, h⟩
def rExtA : V → List V → Hp → VK → Prop := fun x vs H Q => ∃ l b xs zs, x = .ref l ∧ vs = [.ref b] ∧ H l = some (.lst xs) ∧ (H b = some (.lst zs) ∨ H b = some (.tup zs)) ∧ xs.length + zs.length ≤ sizeLine ∧ Q .non (upd H l (.lst (xs ++ zs)))
theorem mt_extA {X : Cx} : MtM X "list.extend" rExtA := by
  intro pins s σ H x vs v us Q I rx rv h
  obtain ⟨l, b, xs, zs, rfl, rfl, hH, hB, hz, q⟩ := h
  rcases hB with hB | hB
  · exact mt_extend pins s σ H _ _ v us Q I rx rv ⟨l, b, xs, zs, rfl, rfl, hH, hB, hz, q⟩
  cases rx
  obtain ⟨u, rfl, ru⟩ := rv.one
  cases ru
  obtain ⟨_, its, n, r, hl, e⟩ := I.lstM hH
  obtain ⟨_, its2, r2, o2, e2, c2, m2, d2⟩ := I.hok b _ hB
  have hl2 := r2.length
  obtain ⟨oc, od, oda, osl⟩ := o2
  dsimp only at c2 d2
  subst c2
  subst d2
  have hsz : its.toArray.size + its2.toArray.size ≤ sizeLine := by
    rw [List.size_toArray, List.size_toArray]
    omega
  refine call_meets PySem.F.slot_list_extend ⟨_, e, rfl⟩ PySem.F.entry_list_extend (PySem.F.args_list_extend_2 _ _)
    (ext_tup l b its.toArray its2.toArray n m2 od osl (by rw [notLongL hsz, Bool.and_false]; exact Bool.false_ne_true) (by rw [List.size_toArray]; omega) (by omega)) ⟨e, e2, ?_⟩
  refine ⟨.non, _, I.lset (its' := its ++ its2) hH e (by simp) (r.append r2) ?_, rfl, q⟩
  rw [List.length_append]
  omega
/-! ### a comprehension over zip of two tuples -/
theorem lc_zipT {K : PySem.W.Frag} {a b : Addr} {xs ys : List V} {g : TG} {tt : TT} {te : TE} {vs : List Nat} {σ : L2.St} {H1 : Hp} {D : Addr} {Qd : Hp → Prop} (hl : xs.length = ys.length) (Pv : Nat → Hp → Prop) (h0 : Pv 0 (upd H1 D (.lst []))) (hq : ∀ i H, Pv i H → SqT K H a xs ∧ SqT K H b ys)
    (hs : ∀ i x y T H, xs[i]? = some x → ys[i]? = some y → Pv i H → H T = none → g (.ref T) (wipe σ vs) (upd H T (.tup [x, y])) fun σ2 H2 => wipe σ2 vs = wipe σ vs ∧ tt σ2 H2 fun b H3 =>
      if b = true then te σ2 H3 fun y H4 => ∃ acc, H4 D = some (.lst acc) ∧ acc.length < sizeLine ∧ Pv (i + 1) (upd H4 D (.lst (acc ++ [y]))) else Pv (i + 1) H3) (hd : ∀ H, Pv xs.length H → Qd H) :
    ∃ W : Nat → Nat → Hp → Prop, (∃ m, W 0 m (upd H1 D (.lst []))) ∧ ∀ i m H, W i m H →
      ((ItzT K a b).stop i H ∧ Qd H) ∨ ((ItzT K a b).go i H ∧ ∃ Nx : Hp → Prop, (∀ H', Nx H' → ∃ m', m' < m ∧ W (i + 1) m' H') ∧ ∀ x H', (ItzT K a b).yld i H x H' → g x (wipe σ vs) H' fun σ2 H2 => wipe σ2 vs = wipe σ vs ∧ tt σ2 H2 fun b H3 =>
        if b = true then te σ2 H3 fun y H4 => ∃ acc, H4 D = some (.lst acc) ∧ acc.length < sizeLine ∧ Nx (upd H4 D (.lst (acc ++ [y]))) else Nx H3) := by
  refine ⟨fun i m H => m = xs.length - i ∧ i ≤ xs.length ∧ Pv i H, ⟨xs.length, by simp, Nat.zero_le _, h0⟩, ?_⟩
  rintro i m H ⟨rfl, hi, p⟩
  obtain ⟨q1, q2⟩ := hq i H p
  by_cases lt : i < xs.length
  · have lt2 : i < ys.length := by omega
    refine .inr ⟨⟨xs, ys, xs[i], ys[i], q1, q2, List.getElem?_eq_getElem lt, List.getElem?_eq_getElem lt2⟩, Pv (i + 1), fun H' p' => ⟨xs.length - (i + 1), by omega, rfl, lt, p'⟩, fun x H' y => ?_⟩
    obtain ⟨T, x1, y1, rfl, nT, rfl, e1, e2⟩ := y
    exact hs i x1 y1 T H (e1 xs q1) (e2 ys q2) p nT
  · exact .inl ⟨⟨xs, ys, q1, q2, .inl (by omega)⟩, hd H (by rw [show xs.length = i by omega]; exact p)⟩
/-! ### sayings in a saying; flat ones, seen ones -/
def Tr.says : Tr → List Tr
  | .leaf _ _ => []
  | .n0 _ => []
  | .n1 _ a => [a]
  | .n2 w a b => if w = "same" then [] else [a, b]
def flatB : Tr → Bool
  | .leaf _ _ => false
  | .n0 _ => true
  | .n1 _ _ => false
  | .n2 w a b => if w = "same" then true else if w = "or" then false else flatB a && flatB b
def seenB : Tr → Bool
  | .leaf _ _ => false
  | .n0 _ => true
  | .n1 w a => if w = "all" then false else seenB a
  | .n2 w a b => if w = "same" then true else if w = "if" then flatB a && seenB b else seenB a && seenB b
theorem flat_seen : ∀ t : Tr, flatB t = true → seenB t = true
  | .leaf _ _, h => by cases h
  | .n0 _, _ => rfl
  | .n1 _ _, h => by cases h
  | .n2 w a b, h => by
    unfold flatB at h
    unfold seenB
    split
    · rfl
    · rename_i c
      rw [if_neg c] at h
      split at h
      · cases h
      · rw [Bool.and_eq_true] at h
        have h2 := flat_seen b h.2
        split
        · rw [h.1, h2]
          rfl
        · rw [flat_seen a h.1, h2]
          rfl
/-- rows of sayings -/
theorem row0 : ∀ e ∈ table, e.2.1 = kS → e.2.2 = [] → e.1 = "no" := by decide +kernel
theorem row1 : ∀ e ∈ table, e.2.1 = kS → ∀ k ∈ ([kS, kT] : List Str), e.2.2 = [k] → k = kS ∧ (e.1 = "all" ∨ e.1 = "some") := by decide +kernel
theorem row2 : ∀ e ∈ table, e.2.1 = kS → e.2.2.length = 2 → (e.1 = "same" ∧ e.2.2 = [kT, kT]) ∨ ((e.1 = "and" ∨ e.1 = "or" ∨ e.1 = "if") ∧ e.2.2 = [kS, kS]) := by decide +kernel
theorem rowk : ∀ e ∈ table, ∀ k ∈ e.2.2, k ∈ ([kS, kT] : List Str) := by decide +kernel
theorem wf_one {w : Str} {a : Tr} (h : (Tr.n1 w a).Wf kS) : (w = "all" ∨ w = "some") ∧ a.Wf kS ∧ (w, kS, [kS]) ∈ table := by
  obtain ⟨k1, hr, ha⟩ := h
  obtain ⟨e, z⟩ := row1 _ hr rfl k1 (rowk _ hr k1 List.mem_cons_self) rfl
  subst e
  exact ⟨z, ha, hr⟩
theorem wf_two {w : Str} {a b : Tr} (h : (Tr.n2 w a b).Wf kS) : (w = "same" ∧ a.Wf kT ∧ b.Wf kT) ∨ (w ≠ "same" ∧ (w = "and" ∨ w = "or" ∨ w = "if") ∧ a.Wf kS ∧ b.Wf kS ∧ (w, kS, [kS, kS]) ∈ table) := by
  obtain ⟨k1, k2, hr, ha, hb⟩ := h
  rcases row2 _ hr rfl rfl with ⟨e, z⟩ | ⟨e, z⟩
  · have z2 : [k1, k2] = [kT, kT] := z
    injection z2 with z3 z4
    injection z4 with z4
    subst z3 z4
    exact .inl ⟨e, ha, hb⟩
  · have z2 : [k1, k2] = [kS, kS] := z
    injection z2 with z3 z4
    injection z4 with z4
    subst z3 z4
    have e : w = "and" ∨ w = "or" ∨ w = "if" := e
    refine .inr ⟨fun q => ?_, e, ha, hb, hr⟩
    subst q
    exact absurd e (by decide +kernel)
theorem wf_says {t : Tr} (h : t.Wf kS) : ∀ a ∈ t.says, a.Wf kS := by
  cases t with
  | leaf w x => intro a z; cases z
  | n0 w => intro a z; cases z
  | n1 w b =>
    intro a z
    rw [List.mem_singleton.mp z]
    exact (wf_one h).2.1
  | n2 w b c =>
    intro a z
    have z : a ∈ (if w = "same" then [] else [b, c]) := z
    split at z
    · cases z
    · rename_i ne
      rcases wf_two h with ⟨e, _⟩ | ⟨_, _, h1, h2, _⟩
      · exact absurd e ne
      · rcases List.mem_cons.mp z with z | z
        · rw [z]
          exact h1
        · rw [List.mem_singleton.mp z]
          exact h2
def keepS (ts : List Tr) (ks : List Str) (i : Nat) : List Tr := (((ts.zip ks).take i).filter fun p => decide (p.2 = kS)).map (·.1)
theorem keep_says {t : Tr} (h : t.Wf kS) (nl : leafy t.word = false) : ∃ ks, (t.word, kS, ks) ∈ table ∧ t.kids.length = ks.length ∧ keepS t.kids ks t.kids.length = t.says := by
  cases t with
  | leaf w x => exact (no_leaf nl (wf_ok (t := .leaf w x) h).1).elim
  | n0 w => exact ⟨[], h, rfl, rfl⟩
  | n1 w a => exact ⟨[kS], (wf_one h).2.2, rfl, rfl⟩
  | n2 w a b =>
    rcases wf_two h with ⟨e, _⟩ | ⟨ne, _, _, _, hr⟩
    · subst e
      exact ⟨[kT, kT], same_row, rfl, rfl⟩
    · refine ⟨[kS, kS], hr, rfl, ?_⟩
      show [a, b] = if w = "same" then [] else [a, b]
      rw [if_neg ne]
theorem keep_next {ts : List Tr} {ks : List Str} {i : Nat} {t : Tr} {k : Str} (ht : ts[i]? = some t) (hk : ks[i]? = some k) : keepS ts ks (i + 1) = keepS ts ks i ++ (if k = kS then [t] else []) := by
  have hz : (ts.zip ks)[i]? = some (t, k) := List.getElem?_zip_eq_some.mpr ⟨ht, hk⟩
  unfold keepS
  rw [List.take_add_one, hz]
  by_cases c : k = kS
  · simp [c]
  · simp [c]
/-! ### what the top has -/
abbrev sOf : Stmt := top 13
abbrev sFlatQ : Stmt := top 30
abbrev sLF : Stmt := top 43
abbrev ofN : List Str := ["saying", "part", "what"]
theorem scOf : FnScope ofN ["saying"] (defScope sOf) := ⟨rfl, rfl, rfl, by decide +kernel, rfl, by decide +kernel, by decide +kernel⟩
theorem scFlatQ : FnScope ["saying", "todo", "piece"] ["saying"] (defScope sFlatQ) := ⟨rfl, rfl, rfl, by decide +kernel, rfl, by decide +kernel, by decide +kernel⟩
theorem scLF : FnScope ["saying"] ["saying"] (defScope sLF) := ⟨rfl, rfl, rfl, by decide +kernel, rfl, by decide +kernel, by decide +kernel⟩
abbrev flatVs : List V := [.str "same", .str "no", .str "and", .str "if"]
structure TxS (K : PySem.W.Frag) (w : World) (mg : Str → Option Value) (F FL : Addr) : Prop where
  mF : mg "FORMS" = some (.ref F)
  mL : mg "FLAT" = some (.ref FL)
  flat : ∀ H, SqT K H FL flatVs
  dict : ∃ es n, KDict K w F es n
  form : ∀ wd k ks, (wd, k, ks) ∈ table → ∃ fa fb, PySem.W.nsIn K F wd = some (some (.ref fa)) ∧ (∀ H, SqT K H fa [.str k, .ref fb]) ∧ ∀ H, SqT K H fb (ks.map V.str)
  zZip : mg "zip" = none
theorem same_up {H H1 : Hp} {D : Addr} {o : HO} (s : Same H H1) (n : H D = none) : Same H (upd H1 D o) := fun b u e => by
  rw [upd_ne (ne_of_none e n)]
  exact s _ _ e
theorem line_ofS {n : Nat} (h : n ≤ 8192) : n < sizeLine := Nat.lt_of_le_of_lt h (by decide)
section
variable {P : Program} {w : World} {K : PySem.W.Frag} {mg : Str → Option Value} {base : Heap} {FV FL : Addr}
/-! ### sayings_of -/
def spOf : Sp := fun vs H Q _ => ∃ (v : V) (t : Tr), vs = [v] ∧ At H t v ∧ t.Wf kS ∧ ∀ (p : Addr) (H' : Hp) (ws : List V), Same H H' → H p = none → H' p = some (.lst ws) → All2 (At H') t.says ws → Q (.ref p) H'
theorem nleaf {t : Tr} (h : t.Wf kS) : leafy t.word = false := by
  cases t with
  | leaf w x => exact absurd h.1 (by decide +kernel)
  | n0 w => exact table_leafy _ h
  | n1 w a => exact table_leafy _ (wf_one h).2.2
  | n2 w a b => exact (wf_ok h).1
theorem ok_of {f : Addr} {fd : FuncData} {j : Nat} (F : Fun K "sayings_of" "sayings_of" sOf f fd) (T : TxS K w mg FV FL) : FnOk P w K mg base CX0 (j + 1) f fd ["saying"] spOf := by
  obtain ⟨es, n, D⟩ := T.dict
  refine F.ok scOf (fun vs H Q E h => ?_) (fun cdv A outer s H vs Q E hr h => ?_)
  · obtain ⟨v, t, rfl, _⟩ := h
    rfl
  obtain ⟨v, t, rfl, hA, hW, q⟩ := h
  refine ⟨_, pss_one (ps_ret (pe_lc (own := [("part", 1), ("what", 2)]) (g := gTup K 2 (gCons (gName 1) (gCons (gName 2) gNil))) (tt := _) rfl scOf.nd
    (pi_zipA (by rfl) T.zZip (pa_cons (pe_slice sl_tup (pv 0) (po_some pe_int) po_none) (pa_cons (pe_ix ix_tup (pe_ix ix_kdict (pe_glob (v := .ref FV) (by rfl) T.mF rfl) (pe_ix ix_tup (pv 0) pe_int (fun _ _ => rfl)) (fun _ _ => rfl)) pe_int (fun _ _ => rfl)) pa_nil)))
    (blkOk_by (N := ofN) (sc := defScope sOf) (by decide +kernel)) (fun _ _ _ _ _ => pg_tup (by rfl) (pgs_cons (pg_name (i := 1) scOf.nd rfl (Or.inl rfl)) (pgs_cons (pg_name (i := 2) scOf.nd rfl (Or.inl rfl)) pgs_nil)))
    (fun _ _ _ _ _ => pts_one (pt_cmpR op_eq (pv 2) pe_str (nomark _))) (fun _ _ _ _ _ => pv 1))), ?_⟩
  have hO := wf_ok hW
  have nl := nleaf hW
  obtain ⟨p1, us, rfl, hp1, lus, kids, leafs⟩ := hA.view hO
  have kd := kids nl
  obtain ⟨ks, hrow, hlen, hks⟩ := keep_says hW nl
  obtain ⟨fa, fb, n1, sa, sb⟩ := T.form _ _ _ hrow
  have lenU : us.length = (ks.map V.str).length := by
    rw [List.length_map, ← hlen]
    exact kd.len.symm
  refine ⟨_, rfl, 1, rfl, p1, _, rfl, .inl (.inl hp1), cut_not _ _, fun c nc => ?_⟩
  rw [cut_one]
  have s1 : Same H (upd H c (.tup us)) := same_new nc
  refine ⟨_, rfl, p1, _, 0, _, rfl, rfl, .inl (.inl (s1 _ _ hp1)), head_at _ _, FV, _, .ref fa, rfl, rfl, ⟨es, n, _, D.at_, D.lit, n1, rfl⟩, fa, _, 1, .ref fb, rfl, rfl, sa _, atI_nat (j := 1) rfl, ?_⟩
  refine ⟨c, fb, us, ks.map V.str, rfl, .inr ⟨.inl (.inl upd_same), sb _, fun D nD => ?_⟩⟩
  generalize hHc : upd H c (.tup us) = Hc at s1 nD
  have hc : Hc c = some (.tup us) := by rw [← hHc, upd_same]
  refine lc_zipT (K := K) (xs := us) (ys := ks.map V.str) lenU (fun i H' => ∃ acc : List V, H' D = some (.lst acc) ∧ Same Hc H' ∧ All2 (At H') (keepS t.kids ks i) acc)
    ⟨[], upd_same, same_new nD, .nil⟩ (fun i H' ⟨_, _, sm, _⟩ => ⟨.inl (.inl (sm _ _ hc)), sb _⟩) ?_ ?_
  · rintro i x y T2 H' hx hy ⟨acc, hD, sm, all⟩ nT
    obtain ⟨tk, htk, hax⟩ := kd.get hx
    rw [List.getElem?_map] at hy
    obtain ⟨kk, hkk, rfl⟩ := Option.map_eq_some_iff.mp hy
    have sT : Same H' (upd H' T2 (.tup [x, .str kk])) := same_new nT
    refine ⟨T2, [x, .str kk], rfl, .inl (.inl upd_same), rfl, x, [.str kk], rfl, .str kk, [], rfl, rfl, rfl, ?_⟩
    have all2 := all.mono fun a v h => h.keep (tups_same sT)
    refine ⟨_, rfl, rfl, _, rfl, ?_⟩
    have nx := keep_next htk hkk
    refine eqW (fun e => ?_) (fun ne => ?_)
    · rw [if_pos e] at nx
      have la := all.len
      have lk : (keepS t.kids ks i).length ≤ 2 := by
        unfold keepS
        rw [List.length_map]
        refine Nat.le_trans (List.length_filter_le _ _) (Nat.le_trans (List.length_take_le' _ _) ?_)
        rw [List.length_zip, kd.len]
        omega
      refine ⟨_, rfl, acc, sT _ _ hD, line_ofS (by omega), acc ++ [x], upd_same, same_up (sm.trans sT) nD, ?_⟩
      rw [nx]
      have k2 : Tups (upd H' T2 (.tup [x, .str kk])) (upd (upd H' T2 (.tup [x, .str kk])) D (.lst (acc ++ [x]))) := tups_put fun xs z => by
        rw [sT _ _ hD] at z
        cases z
      exact (all2.mono fun a v h => h.keep k2).app (.one ((((hax.keep (tups_same s1)).keep (tups_same sm)).keep (tups_same sT)).keep k2))
    · rw [if_neg ne, List.append_nil] at nx
      refine ⟨acc, sT _ _ hD, sm.trans sT, ?_⟩
      rw [nx]
      exact all2
  · rintro H' ⟨acc, hD, sm, all⟩
    rw [← kd.len, hks] at all
    exact q D H' acc (s1.trans sm) (s1.free nD) hD all
end
end Kf
set_option Elab.async false
set_option linter.all false
set_option maxRecDepth 100000
set_option maxHeartbeats 4000000
set_option pp.maxSteps 400
/-! k40: is_flat, is_seen. -/
namespace Kf
open PySem PySem.Spec PyProof.Rows L2 Sx RZ
/-! ### steps -/
theorem flat_step {t : Tr} (h : t.Wf kS) : flatB t = (inV (.str t.word) flatVs && t.says.all flatB) := by
  cases t with
  | leaf w x => exact absurd h.1 (by decide +kernel)
  | n0 w =>
    have e : w = "no" := row0 _ h rfl rfl
    subst e
    decide +kernel
  | n1 w a =>
    rcases (wf_one h).1 with e | e <;> subst e <;> rfl
  | n2 w a b =>
    rcases wf_two h with ⟨e, _⟩ | ⟨ne, e, _⟩
    · subst e
      rfl
    · have e2 : Tr.says (.n2 w a b) = [a, b] := if_neg ne
      rw [e2]
      rcases e with e | e | e <;> subst e
      · show (flatB a && flatB b) = (true && (flatB a && (flatB b && true)))
        rw [Bool.and_true, Bool.true_and]
      · rfl
      · show (flatB a && flatB b) = (true && (flatB a && (flatB b && true)))
        rw [Bool.and_true, Bool.true_and]
/-- what is still to be gone through of a piece -/
def Tr.rest : Tr → List Tr
  | .n2 w a b => if w = "if" then [b] else Tr.says (.n2 w a b)
  | t => t.says
theorem seen_if {a b : Tr} : seenB (.n2 "if" a b) = (flatB a && seenB b) := rfl
theorem seen_step {t : Tr} (h : t.Wf kS) (na : t.word ≠ "all") (ni : t.word ≠ "if") : seenB t = t.says.all seenB := by
  cases t with
  | leaf w x => exact absurd h.1 (by decide +kernel)
  | n0 w => rfl
  | n1 w a =>
    show (if w = "all" then false else seenB a) = (seenB a && true)
    rw [if_neg (show ¬ w = "all" from na), Bool.and_true]
  | n2 w a b =>
    rcases wf_two h with ⟨e, _⟩ | ⟨ne, e, _⟩
    · subst e
      rfl
    · have e2 : Tr.says (.n2 w a b) = [a, b] := if_neg ne
      rw [e2]
      show (if w = "same" then true else if w = "if" then flatB a && seenB b else seenB a && seenB b) = (seenB a && (seenB b && true))
      rw [if_neg ne, if_neg (show ¬ w = "if" from ni), Bool.and_true]
theorem seen_all {t : Tr} (h : t.Wf kS) (e : t.word = "all") : seenB t = false := by
  cases t with
  | leaf w x => exact absurd h.1 (by decide +kernel)
  | n0 w =>
    have e2 : w = "no" := row0 _ h rfl rfl
    have e : w = "all" := e
    rw [e2] at e
    exact absurd e (by decide +kernel)
  | n1 w a =>
    have e : w = "all" := e
    subst e
    rfl
  | n2 w a b =>
    have e : w = "all" := e
    subst e
    rcases wf_two h with ⟨e, _⟩ | ⟨_, e, _⟩ <;> exact absurd e (by decide +kernel)
theorem is_if {t : Tr} (h : t.Wf kS) (e : t.word = "if") : ∃ a b, t = .n2 "if" a b ∧ a.Wf kS ∧ b.Wf kS := by
  cases t with
  | leaf w x => exact absurd h.1 (by decide +kernel)
  | n0 w =>
    have e2 : w = "no" := row0 _ h rfl rfl
    have e : w = "if" := e
    rw [e2] at e
    exact absurd e (by decide +kernel)
  | n1 w a =>
    have e : w = "if" := e
    subst e
    rcases (wf_one h).1 with e | e <;> exact absurd e (by decide +kernel)
  | n2 w a b =>
    have e : w = "if" := e
    subst e
    rcases wf_two h with ⟨e, _⟩ | ⟨_, _, h1, h2, _⟩
    · exact absurd e (by decide +kernel)
    · exact ⟨a, b, rfl, h1, h2⟩
def sumS (ts : List Tr) : Nat := (ts.map Tr.size).sum
theorem sumS_app (a b : List Tr) : sumS (a ++ b) = sumS a + sumS b := by
  unfold sumS
  rw [List.map_append, List.sum_append]
theorem sumS_one (t : Tr) : sumS [t] = t.size := by
  unfold sumS
  simp
theorem says_sum (t : Tr) : sumS t.says + 1 ≤ t.size := by
  cases t with
  | leaf w x => exact Nat.le_refl 1
  | n0 w => exact Nat.le_refl 1
  | n1 w a =>
    show sumS [a] + 1 ≤ a.size + 1
    rw [sumS_one]
    exact Nat.le_refl _
  | n2 w a b =>
    show sumS (if w = "same" then [] else [a, b]) + 1 ≤ a.size + b.size + 1
    split
    · exact Nat.le_add_left 1 _
    · show [a.size, b.size].sum + 1 ≤ _
      simp
theorem size_pos : ∀ t : Tr, 1 ≤ t.size
  | .leaf _ _ => Nat.le_refl 1
  | .n0 _ => Nat.le_refl 1
  | .n1 _ _ => Nat.le_add_left 1 _
  | .n2 _ _ _ => Nat.le_add_left 1 _
theorem sumS_len (ts : List Tr) : ts.length ≤ sumS ts := by
  induction ts with
  | nil => exact Nat.zero_le _
  | cons e es ih =>
    have h := size_pos e
    have e1 : sumS (e :: es) = e.size + sumS es := by
      unfold sumS
      rw [List.map_cons, List.sum_cons]
    rw [e1, List.length_cons]
    omega
/-- between two turns -/
structure TurnS (fl : Tr → Bool) (H H' : Hp) (pt : Addr) (t : Tr) (m : Nat) (es : List Tr) (vt : List V) : Prop where
  same : Same H H'
  lt : H' pt = some (.lst vt)
  rt : All2 (At H') es vt
  wf : ∀ e ∈ es, e.Wf kS
  all : es.all fl = fl t
  m : m = sumS es
  few : sumS es ≤ 4000
theorem TurnS.step {fl : Tr → Bool} {H H1 H2 : Hp} {pt : Addr} {t t1 : Tr} {m : Nat} {es0 ts : List Tr} {vt0 ws : List V} {x : V} (T : TurnS fl H H1 pt t m (es0 ++ [t1]) (vt0 ++ [x])) (new : H pt = none) (sm : Same (upd H1 pt (.lst vt0)) H2) (all : All2 (At H2) ts ws) (wf : ∀ a ∈ ts, a.Wf kS)
    (few : sumS ts + 1 ≤ t1.size) (e : fl t1 = ts.all fl) : ∃ m', m' < m ∧ TurnS fl H (upd H2 pt (.lst (vt0 ++ ws))) pt t m' (es0 ++ ts) (vt0 ++ ws) := by
  have h2 : H2 pt = some (.lst vt0) := sm _ _ upd_same
  have k0 : Tups H1 (upd H1 pt (.lst vt0)) := tups_put fun xs z => by
    rw [T.lt] at z
    cases z
  have k1 : Tups H2 (upd H2 pt (.lst (vt0 ++ ws))) := tups_put fun xs z => by
    rw [h2] at z
    cases z
  obtain ⟨k, y, ek, all0, hy⟩ := T.rt.last
  have e0 : k = es0 := List.append_inj_left' ek.symm rfl
  subst e0
  have s1 := T.few
  have s2 := T.m
  rw [sumS_app, sumS_one] at s1 s2
  refine ⟨sumS (k ++ ts), by rw [sumS_app]; omega, fun b u q => ?_, upd_same, ((all0.mono fun a v h => h.keep ((k0.trans (tups_same sm)).trans k1)).app (all.mono fun a v h => h.keep k1)), fun a ha => ?_, ?_, rfl, by rw [sumS_app]; omega⟩
  · have nb := ne_of_none q new
    rw [upd_ne nb]
    refine sm _ _ ?_
    rw [upd_ne nb]
    exact T.same _ _ q
  · rcases List.mem_append.mp ha with z | z
    · exact T.wf a (List.mem_append.mpr (.inl z))
    · exact wf a z
  · have q := T.all
    rw [List.all_append] at q ⊢
    rw [← q, show [t1].all fl = fl t1 by simp, e]
theorem TurnS.no {fl : Tr → Bool} {H H1 : Hp} {pt : Addr} {t t1 : Tr} {m : Nat} {es0 : List Tr} {vt : List V} (T : TurnS fl H H1 pt t m (es0 ++ [t1]) vt) (e : fl t1 = false) : fl t = false := by
  rw [← T.all, List.all_append, show [t1].all fl = fl t1 by simp, e, Bool.and_false]
section
variable {P : Program} {w : World} {K : PySem.W.Frag} {mg : Str → Option Value} {base : Heap} {FV FL : Addr}
def spQ (fl : Tr → Bool) : Sp := fun vs H Q _ => ∃ (v : V) (t : Tr), vs = [v] ∧ At H t v ∧ t.Wf kS ∧ t.size ≤ 4000 ∧ ∀ H', Same H H' → Q (.bl (fl t)) H'
theorem ok_flatQ {f g : Addr} {fd gd : FuncData} (F : Fun K "is_flat" "is_flat" sFlatQ f fd) (T : TxS K w mg FV FL) (G : FnOk P w K mg base CX0 1 g gd ["saying"] spOf) (bG : Binds K gd ["saying"] []) (kG : PySem.W.keepIn K (.ref g) = true) (mG : mg "sayings_of" = some (.ref g)) :
    FnOk P w K mg base CX0 2 f fd ["saying"] (spQ flatB) := by
  refine F.ok scFlatQ (fun vs H Q E h => ?_) (fun cdv A outer s H vs Q E hr h => ?_)
  · obtain ⟨v, t, rfl, _⟩ := h
    rfl
  obtain ⟨v, t, rfl, hA, hW, hS, q⟩ := h
  refine ⟨_, pss_cons (ps_set (i := 1) scFlatQ.nd rfl (.inl rfl) (pe_lst (pa_cons (pv 0) pa_nil)))
    (pss_cons (ps_while PassesOwn.never (pt_truth (pv 1) (by intro _; rfl))
      (pss_cons (ps_set (i := 2) scFlatQ.nd rfl (.inl rfl) (pe_bm0 PySem.F.plainAttrs_list PySem.F.slot_list_pop PySem.F.type_list_pop mt_pop (pv 1)))
      (pss_cons (ps_if (pt_cmpR op_notIn_seq (pe_ix ix_tup (pv 2) pe_int (fun _ _ => rfl)) (pe_glob (v := .ref FL) (by rfl) T.mL rfl) (by rfl)) (pss_one (ps_ret pe_bl)) pss_nil)
      (pss_one (ps_expr (pe_bm PySem.F.plainAttrs_list PySem.F.slot_list_extend PySem.F.type_list_extend mt_extA (pv 1) (pa_cons (pe_call G hr (by rfl) mG kG bG .nil pass0 (pa_cons (pv 2) pa_nil)) pa_nil)))))))
    (pss_one (ps_ret pe_bl))), ?_⟩
  refine ⟨_, rfl, (by show 1 ≤ sizeLine; decide), fun pt nt => ?_⟩
  have s1 : Same H (upd H pt (.lst [v])) := same_new nt
  refine ⟨fun m σ H' => ∃ (es : List Tr) (vt : List V) (y2 : Option V), σ = [some v, some (.ref pt), y2] ∧ TurnS flatB H H' pt t m es vt,
    ⟨_, [t], [v], none, rfl, ⟨s1, upd_same, .one (hA.keep (tups_same s1)), fun e he => by rw [List.mem_singleton.mp he]; exact hW, by simp, rfl, by rw [sumS_one]; exact hS⟩⟩, fun m σ H1 hW1 => ?_⟩
  obtain ⟨es, vt, y2, rfl, W⟩ := hW1
  refine ⟨_, rfl, !vt.isEmpty, .inl ⟨vt, .inl (.inl W.lt), rfl⟩, ?_⟩
  rcases List.eq_nil_or_concat vt with en | ⟨vt0, y, en⟩
  · subst en
    refine iteF ?_
    have ee : es = [] := List.length_eq_zero_iff.mp W.rt.len
    subst ee
    have e2 : flatB t = true := W.all.symm
    have z := q H1 W.same
    rw [e2] at z
    exact z
  · rw [List.concat_eq_append] at en
    subst en
    rw [show (!(vt0 ++ [y]).isEmpty) = true by simp]
    refine iteT ?_
    obtain ⟨es0, t1, rfl, rt0, a1⟩ := W.rt.last
    have w1 : t1.Wf kS := W.wf _ (List.mem_append.mpr (.inr (List.mem_singleton.mpr rfl)))
    refine ⟨fun σ' H' => ∃ m', m' < m ∧ ∃ (es : List Tr) (vt : List V) (y2 : Option V), σ' = [some v, some (.ref pt), y2] ∧ TurnS flatB H H' pt t m' es vt, fun σ' H' h => h, ?_⟩
    refine ⟨_, rfl, .inl ⟨rfl, _, .inl (.inl W.lt)⟩, pt, _, y, rfl, rfl, W.lt, by simp, ?_⟩
    rw [List.dropLast_concat]
    have k2 : Tups H1 (upd H1 pt (.lst vt0)) := tups_put fun xs z => by
      rw [W.lt] at z
      cases z
    have a2 := a1.keep k2
    obtain ⟨p1, us, rfl, hp1, lus, kids, leafs⟩ := a2.view (wf_ok w1)
    have fs := flat_step w1
    refine ⟨_, rfl, p1, _, 0, _, rfl, rfl, .inl (.inl hp1), head_at _ _, FL, flatVs, rfl, .inr (T.flat _), rfl, rfl, _, rfl, ?_⟩
    show if (!inV (.str t1.word) flatVs) = true then _ else _
    cases hi : inV (.str t1.word) flatVs with
    | false =>
      refine iteT ?_
      have e2 : flatB t = false := W.no (by rw [fs, hi]; rfl)
      have z := q (upd H1 pt (.lst vt0)) (same_up W.same nt)
      rw [e2] at z
      exact z
    | true =>
      refine iteF ?_
      rw [hi, Bool.true_and] at fs
      refine ⟨_, rfl, .inl ⟨rfl, _, .inl (.inl upd_same)⟩, _, rfl, .ref p1, t1, rfl, a2, w1, fun p H2 ws sm np hp all => ?_⟩
      have h2 : H2 pt = some (.lst vt0) := sm _ _ upd_same
      obtain ⟨m', lt, W2⟩ := W.step nt sm all (wf_says w1) (says_sum t1) fs
      refine ⟨pt, p, vt0, ws, rfl, rfl, h2, .inl hp, ?_, m', lt, _, _, _, rfl, W2⟩
      have l1 := rt0.len
      have l2 := all.len
      have l3 := sumS_len es0
      have l4 := sumS_len t1.says
      have l5 := says_sum t1
      have l6 := W.few
      rw [sumS_app, sumS_one] at l6
      have : vt0.length + ws.length ≤ 8000 := by omega
      exact Nat.le_trans this (by decide)
theorem cut_two (x y : V) (r : List V) : cutV (x :: y :: r) (some 2) none = r := by
  unfold cutV
  have e1 : HT.sIx (x :: y :: r).length 0 (some 2) = 2 := by
    rw [show HT.sIx (x :: y :: r).length 0 (some 2) = min 2 (x :: y :: r).length from HT.sIx_nat _ 0 2, List.length_cons, List.length_cons]
    omega
  rw [e1, HT.sIx_none]
  show List.take ((x :: y :: r).length - 2) r = r
  rw [List.length_cons, List.length_cons]
  exact List.take_length
theorem cut_not2 (x y : V) (r : List V) : ¬ (HT.sIx (x :: y :: r).length 0 (some 2) = 0 ∧ HT.sIx (x :: y :: r).length (x :: y :: r).length none = (x :: y :: r).length) := by
  intro h
  have e1 : HT.sIx (x :: y :: r).length 0 (some 2) = 2 := by
    rw [show HT.sIx (x :: y :: r).length 0 (some 2) = min 2 (x :: y :: r).length from HT.sIx_nat _ 0 2, List.length_cons, List.length_cons]
    omega
  rw [e1] at h
  exact absurd h.1 (by decide)
end
end Kf
set_option Elab.async false
set_option linter.all false
set_option maxRecDepth 100000
set_option maxHeartbeats 4000000
set_option pp.maxSteps 600
/-! Kinds, programs, how they are judged: the mathematics. -/
namespace Kf
open PySem PySem.Spec PyProof.Rows L2 Sx
inductive Kd where
  | none
  | number
  | pair (a b : Kd)
  | frm (a b : Kd)
  | either (a b : Kd)
  deriving DecidableEq
def Kd.eqb : Kd → Kd → Bool
  | .none, .none => true
  | .number, .number => true
  | .pair a b, .pair c d => a.eqb c && b.eqb d
  | .frm a b, .frm c d => a.eqb c && b.eqb d
  | .either a b, .either c d => a.eqb c && b.eqb d
  | _, _ => false
theorem Kd.eqb_iff : ∀ a b : Kd, a.eqb b = true ↔ a = b
  | .none, b => by cases b <;> simp [Kd.eqb]
  | .number, b => by cases b <;> simp [Kd.eqb]
  | .pair a b, c => by
    cases c with
    | pair c d => simp [Kd.eqb, Kd.eqb_iff a c, Kd.eqb_iff b d]
    | _ => simp [Kd.eqb]
  | .frm a b, c => by
    cases c with
    | frm c d => simp [Kd.eqb, Kd.eqb_iff a c, Kd.eqb_iff b d]
    | _ => simp [Kd.eqb]
  | .either a b, c => by
    cases c with
    | either c d => simp [Kd.eqb, Kd.eqb_iff a c, Kd.eqb_iff b d]
    | _ => simp [Kd.eqb]
theorem Kd.eqb_refl (a : Kd) : a.eqb a = true := (Kd.eqb_iff a a).mpr rfl
theorem Kd.eqb_ne {a b : Kd} (h : a ≠ b) : a.eqb b = false := by
  cases e : a.eqb b with
  | true => exact absurd ((Kd.eqb_iff a b).mp e) h
  | false => rfl
def kdD : Kd → PyData
  | .none => .tuple [.str "none"]
  | .number => .tuple [.str "number"]
  | .pair a b => .tuple [.str "pair", kdD a, kdD b]
  | .frm a b => .tuple [.str "from", kdD a, kdD b]
  | .either a b => .tuple [.str "either", kdD a, kdD b]
def Kd.deep : Kd → Nat
  | .none => 1
  | .number => 1
  | .pair a b => max a.deep b.deep + 1
  | .frm a b => max a.deep b.deep + 1
  | .either a b => max a.deep b.deep + 1
def Kd.size : Kd → Nat
  | .none => 1
  | .number => 1
  | .pair a b => a.size + b.size + 1
  | .frm a b => a.size + b.size + 1
  | .either a b => a.size + b.size + 1
/-- no none but in an either -/
def Kd.Ok : Kd → Prop
  | .none => True
  | .number => True
  | .pair a b => a.Ok ∧ b.Ok ∧ a ≠ .none ∧ b ≠ .none
  | .frm a b => a.Ok ∧ b.Ok ∧ a ≠ .none ∧ b ≠ .none
  | .either a b => a.Ok ∧ b.Ok
theorem kd_depth : ∀ k : Kd, (kdD k).depth = k.deep
  | .none => rfl
  | .number => rfl
  | .pair a b => by
    show max 0 (max (kdD a).depth (max (kdD b).depth 0)) + 1 = max a.deep b.deep + 1
    rw [kd_depth a, kd_depth b]
    omega
  | .frm a b => by
    show max 0 (max (kdD a).depth (max (kdD b).depth 0)) + 1 = max a.deep b.deep + 1
    rw [kd_depth a, kd_depth b]
    omega
  | .either a b => by
    show max 0 (max (kdD a).depth (max (kdD b).depth 0)) + 1 = max a.deep b.deep + 1
    rw [kd_depth a, kd_depth b]
    omega
theorem kd_lay : ∀ k : Kd, (kdD k).canLay0 = true
  | .none => by decide +kernel
  | .number => by decide +kernel
  | .pair a b => by
    show ((PyData.str "pair").canLay0 && ((kdD a).canLay0 && ((kdD b).canLay0 && true))) = true
    rw [kd_lay a, kd_lay b]
    decide +kernel
  | .frm a b => by
    show ((PyData.str "from").canLay0 && ((kdD a).canLay0 && ((kdD b).canLay0 && true))) = true
    rw [kd_lay a, kd_lay b]
    decide +kernel
  | .either a b => by
    show ((PyData.str "either").canLay0 && ((kdD a).canLay0 && ((kdD b).canLay0 && true))) = true
    rw [kd_lay a, kd_lay b]
    decide +kernel
theorem kd_ats : ∀ k : Kd, ats (kdD k) = true
  | .none => by decide +kernel
  | .number => by decide +kernel
  | .pair a b => by
    show (ats (.str "pair") && (ats (kdD a) && (ats (kdD b) && true))) = true
    rw [kd_ats a, kd_ats b]
    decide +kernel
  | .frm a b => by
    show (ats (.str "from") && (ats (kdD a) && (ats (kdD b) && true))) = true
    rw [kd_ats a, kd_ats b]
    decide +kernel
  | .either a b => by
    show (ats (.str "either") && (ats (kdD a) && (ats (kdD b) && true))) = true
    rw [kd_ats a, kd_ats b]
    decide +kernel
theorem kd_psz : ∀ k : Kd, psz (kdD k) ≤ 3 * k.size
  | .none => by decide
  | .number => by decide
  | .pair a b => by
    have x := kd_psz a
    have y := kd_psz b
    show 1 + (1 + (psz (kdD a) + (psz (kdD b) + 0))) ≤ 3 * (a.size + b.size + 1)
    omega
  | .frm a b => by
    have x := kd_psz a
    have y := kd_psz b
    show 1 + (1 + (psz (kdD a) + (psz (kdD b) + 0))) ≤ 3 * (a.size + b.size + 1)
    omega
  | .either a b => by
    have x := kd_psz a
    have y := kd_psz b
    show 1 + (1 + (psz (kdD a) + (psz (kdD b) + 0))) ≤ 3 * (a.size + b.size + 1)
    omega
theorem s_eqv (a b : Str) : PyData.eqv (.str a) (.str b) = decide (a = b) := by
  show (a == b) = decide (a = b)
  by_cases e : a = b
  · rw [e, decide_eq_true rfl]
    exact beq_self_eq_true b
  · rw [decide_eq_false e]
    exact beq_eq_false_iff_ne.mpr e
theorem kd_far {u v : Str} {a b c d : PyData} (h : ¬ u = v) : PyData.eqv (.tuple [.str u, a, b]) (.tuple [.str v, c, d]) = false := by
  show (PyData.eqv (.str u) (.str v) && (PyData.eqv a c && (PyData.eqv b d && true))) = false
  rw [s_eqv, decide_eq_false h]
  rfl
/-- == of kinds -/
theorem kd_eqv : ∀ a b : Kd, PyData.eqv (kdD a) (kdD b) = a.eqb b
  | .none, .none => by decide +kernel
  | .none, .number => by decide +kernel
  | .number, .none => by decide +kernel
  | .number, .number => by decide +kernel
  | .none, .pair _ _ => rfl
  | .none, .frm _ _ => rfl
  | .none, .either _ _ => rfl
  | .number, .pair _ _ => rfl
  | .number, .frm _ _ => rfl
  | .number, .either _ _ => rfl
  | .pair _ _, .none => rfl
  | .pair _ _, .number => rfl
  | .frm _ _, .none => rfl
  | .frm _ _, .number => rfl
  | .either _ _, .none => rfl
  | .either _ _, .number => rfl
  | .pair a b, .pair c d => by
    show (PyData.eqv (.str "pair") (.str "pair") && (PyData.eqv (kdD a) (kdD c) && (PyData.eqv (kdD b) (kdD d) && true))) = (a.eqb c && b.eqb d)
    rw [kd_eqv a c, kd_eqv b d, s_eqv, decide_eq_true rfl, Bool.true_and, Bool.and_true]
  | .frm a b, .frm c d => by
    show (PyData.eqv (.str "from") (.str "from") && (PyData.eqv (kdD a) (kdD c) && (PyData.eqv (kdD b) (kdD d) && true))) = (a.eqb c && b.eqb d)
    rw [kd_eqv a c, kd_eqv b d, s_eqv, decide_eq_true rfl, Bool.true_and, Bool.and_true]
  | .either a b, .either c d => by
    show (PyData.eqv (.str "either") (.str "either") && (PyData.eqv (kdD a) (kdD c) && (PyData.eqv (kdD b) (kdD d) && true))) = (a.eqb c && b.eqb d)
    rw [kd_eqv a c, kd_eqv b d, s_eqv, decide_eq_true rfl, Bool.true_and, Bool.and_true]
  | .pair a b, .frm c d => kd_far (by decide +kernel)
  | .pair a b, .either c d => kd_far (by decide +kernel)
  | .frm a b, .pair c d => kd_far (by decide +kernel)
  | .frm a b, .either c d => kd_far (by decide +kernel)
  | .either a b, .pair c d => kd_far (by decide +kernel)
  | .either a b, .frm c d => kd_far (by decide +kernel)

theorem kd_eq (a b : Kd) : PyData.eqv (kdD a) (kdD b) = decide (a = b) := by
  rw [kd_eqv]
  by_cases e : a = b
  · rw [e, Kd.eqb_refl, decide_eq_true rfl]
  · rw [Kd.eqb_ne e, decide_eq_false e]
end Kf
set_option Elab.async false
set_option linter.all false
set_option maxRecDepth 100000
set_option maxHeartbeats 4000000
set_option pp.maxSteps 1200
/-! Things that stand beside the dice; how great they are. -/
namespace Kf
open PySem PySem.Spec PyProof.Rows L2 Sx
/-- the heap without some places -/
def delS (H : Hp) (S : List Addr) : Hp := fun c => if c ∈ S then none else H c
theorem delS_ne {H : Hp} {S : List Addr} {c : Addr} (n : c ∉ S) : delS H S c = H c := if_neg n
theorem delS_same {H : Hp} {S : List Addr} : Same (delS H S) H := fun c o e => by
  unfold delS at e
  split at e
  · cases e
  · exact e
theorem delS_but {H H' : Hp} {p : Addr} {S : List Addr} (pS : p ∈ S) (b : But p H H') : Same (delS H S) (delS H' S) := fun c o e => by
  by_cases n : c ∈ S
  · rw [show delS H S c = none from if_pos n] at e
    cases e
  · rw [delS_ne n] at e ⊢
    exact b _ _ (fun z => n (by rw [z]; exact pS)) e
/-- these places are lists -/
def LS (H : Hp) (S : List Addr) : Prop := ∀ a ∈ S, ∃ xs, H a = some (.lst xs)
theorem LS.nin {H : Hp} {S : List Addr} {q : Addr} (h : LS H S) (e : H q = none) : q ∉ S := fun z => by
  obtain ⟨xs, e2⟩ := h q z
  rw [e] at e2
  cases e2
section
variable {K : PySem.W.Frag} {H H' : Hp} {p : Addr} {S : List Addr} {m : Int}
/-- data in the heap, but for these places -/
def Df (K : PySem.W.Frag) (S : List Addr) (H : Hp) (v : V) (d : PyData) : Prop := Dp K (delS H S) v d
theorem Df.dp {v : V} {d : PyData} (h : Df K S H v d) : Dp K H v d := dp_up delS_same _ _ h
theorem Df.but {v : V} {d : PyData} (pS : p ∈ S) (b : But p H H') (h : Df K S H v d) : Df K S H' v d := dp_up (delS_but pS b) _ _ h
theorem delS_up (b : Same H H') : Same (delS H S) (delS H' S) := fun c o e => by
  by_cases n : c ∈ S
  · rw [show delS H S c = none from if_pos n] at e
    cases e
  · rw [delS_ne n] at e ⊢
    exact b _ _ e
theorem Df.same {v : V} {d : PyData} (b : Same H H') (h : Df K S H v d) : Df K S H' v d := dp_up (delS_up b) _ _ h
theorem sqT_del {a : Addr} {xs : List V} (hL : LS H S) (h : SqT K H a xs) : SqT K (delS H S) a xs := by
  rcases h with (h | ⟨o, h⟩) | h
  · have ne : a ∉ S := fun z => by
      obtain ⟨ys, e⟩ := hL a z
      rw [e] at h
      cases h
    exact .inl (.inl (by rw [delS_ne ne]; exact h))
  · have ne : a ∉ S := fun z => by
      obtain ⟨ys, e⟩ := hL a z
      rw [e] at h
      cases h
    exact .inl (.inr ⟨o, by rw [delS_ne ne]; exact h⟩)
  · exact .inr h
def DfAll (K : PySem.W.Frag) (S : List Addr) (H : Hp) (vs : List V) (ds : List PyData) : Prop := DpAll K (delS H S) vs ds
theorem df_tup {a : Addr} {xs : List V} {ds : List PyData} (hL : LS H S) (h : SqT K H a xs) (g : DfAll K S H xs ds) : Df K S H (.ref a) (.tuple ds) := .tup (sqT_del hL h) g
theorem df_lst {a : Addr} {xs : List V} {ds : List PyData} (n : a ∉ S) (h : H a = some (.lst xs)) (g : DfAll K S H xs ds) : Df K S H (.ref a) (.list ds) := .lst (.inl (.inl (by rw [delS_ne n]; exact h))) g
theorem DfAll.but {vs : List V} {ds : List PyData} (pS : p ∈ S) (b : But p H H') (h : DfAll K S H vs ds) : DfAll K S H' vs ds := dps_up (delS_but pS b) _ _ h
end
section
variable {K : PySem.W.Frag} {H H' : Hp}
theorem df3 {Z : List Addr} {H : Hp} {q : Addr} {z : Str} {x y : V} {a b : PyData} (hL : LS H Z) (e : H q = some (.tup [.str z, x, y])) (ha : Df K Z H x a) (hb : Df K Z H y b) : Df K Z H (.ref q) (.tuple [.str z, a, b]) := df_tup hL (.inl (.inl e)) (.cons (.str z) (.cons ha (.cons hb .nil)))
theorem df1 {Z : List Addr} {H : Hp} {q : Addr} {z : Str} (hL : LS H Z) (e : H q = some (.tup [.str z])) : Df K Z H (.ref q) (.tuple [.str z]) := df_tup hL (.inl (.inl e)) (.cons (.str z) .nil)
theorem LS.same {H H' : Hp} {S : List Addr} (h : LS H S) (b : Same H H') : LS H' S := fun a ha => by
  obtain ⟨xs, e⟩ := h a ha
  exact ⟨xs, b _ _ e⟩
end
def none1 : PyData := .tuple [.str "none"]
def num1 : PyData := .tuple [.str "number"]
structure Tx (K : PySem.W.Frag) (mg : Str → Option Value) (NO NU PA : Addr) : Prop where
  mO : mg "NONE" = some (.ref NO)
  mU : mg "NUMBER" = some (.ref NU)
  tO : ∀ H, SqT K H NO [.str "none"]
  tU : ∀ H, SqT K H NU [.str "number"]
  zLen : mg "len" = none
end Kf
set_option Elab.async false
set_option linter.all false
set_option maxRecDepth 100000
set_option maxHeartbeats 4000000
set_option pp.maxSteps 800
/-! k21: the kind of a saying, as data. -/
namespace Kf
open PySem PySem.Spec PyProof.Rows L2 Sx
def pairD (l r : PyData) : PyData := if PyData.eqv l none1 = true then r else if PyData.eqv r none1 = true then l else .tuple [.str "pair", l, r]
def fromD (l r : PyData) : PyData := if (PyData.eqv l none1 || (PyData.eqv r none1 || false)) = true then r else .tuple [.str "from", l, r]
def eitherD (l r : PyData) : PyData := .tuple [.str "either", l, r]
def joinD (w : Str) (l r : PyData) : PyData := if w = "and" then pairD l r else if w = "or" then eitherD l r else fromD l r
def oneD (w : Str) (r : PyData) : PyData := if w = "all" then fromD num1 r else pairD num1 r
def kd : Tr → PyData
  | .leaf _ _ => none1
  | .n0 _ => none1
  | .n1 w a => oneD w (kd a)
  | .n2 w a b => if w = "same" then none1 else joinD w (kd a) (kd b)

theorem kd_none (a : Kd) : PyData.eqv (kdD a) none1 = decide (a = .none) := kd_eq a .none
def Kd.pairK (a b : Kd) : Kd := if a = .none then b else if b = .none then a else .pair a b
def Kd.fromK (a b : Kd) : Kd := if a = .none ∨ b = .none then b else .frm a b
theorem pairK_is (a b : Kd) : pairD (kdD a) (kdD b) = kdD (a.pairK b) := by
  unfold pairD Kd.pairK
  rw [kd_none, kd_none]
  by_cases ha : a = .none
  · simp [ha]
  · by_cases hb : b = .none
    · simp [ha, hb]
    · simp [ha, hb, kdD]
theorem fromK_is (a b : Kd) : fromD (kdD a) (kdD b) = kdD (a.fromK b) := by
  unfold fromD Kd.fromK
  rw [kd_none, kd_none]
  by_cases ha : a = .none
  · simp [ha]
  · by_cases hb : b = .none
    · simp [ha, hb]
    · simp [ha, hb, kdD]
/-- the kind of a saying -/
def kdT : Tr → Kd
  | .leaf _ _ => .none
  | .n0 _ => .none
  | .n1 w a => if w = "all" then Kd.fromK .number (kdT a) else Kd.pairK .number (kdT a)
  | .n2 w a b => if w = "same" then .none else if w = "and" then Kd.pairK (kdT a) (kdT b) else if w = "or" then .either (kdT a) (kdT b) else Kd.fromK (kdT a) (kdT b)
theorem kd_is : ∀ t : Tr, kd t = kdD (kdT t)
  | .leaf _ _ => rfl
  | .n0 _ => rfl
  | .n1 w a => by
    show oneD w (kd a) = kdD (if w = "all" then Kd.fromK .number (kdT a) else Kd.pairK .number (kdT a))
    rw [kd_is a]
    unfold oneD
    by_cases c : w = "all"
    · rw [if_pos c, if_pos c]
      exact fromK_is .number (kdT a)
    · rw [if_neg c, if_neg c]
      exact pairK_is .number (kdT a)
  | .n2 w a b => by
    show (if w = "same" then none1 else joinD w (kd a) (kd b)) = kdD (if w = "same" then .none else if w = "and" then Kd.pairK (kdT a) (kdT b) else if w = "or" then .either (kdT a) (kdT b) else Kd.fromK (kdT a) (kdT b))
    rw [kd_is a, kd_is b]
    by_cases c : w = "same"
    · rw [if_pos c, if_pos c]
      rfl
    rw [if_neg c, if_neg c]
    unfold joinD
    by_cases c2 : w = "and"
    · rw [if_pos c2, if_pos c2]
      exact pairK_is _ _
    rw [if_neg c2, if_neg c2]
    by_cases c3 : w = "or"
    · rw [if_pos c3, if_pos c3]
      rfl
    rw [if_neg c3, if_neg c3]
    exact fromK_is _ _
theorem pairK_deep (a b : Kd) : (a.pairK b).deep ≤ max a.deep b.deep + 1 := by
  unfold Kd.pairK
  split
  · omega
  · split
    · omega
    · exact Nat.le_refl _
theorem fromK_deep (a b : Kd) : (a.fromK b).deep ≤ max a.deep b.deep + 1 := by
  unfold Kd.fromK
  split
  · omega
  · exact Nat.le_refl _
theorem kdT_deep : ∀ t : Tr, (kdT t).deep ≤ t.deep + 1
  | .leaf _ _ => by
    show 1 ≤ 1 + 1
    decide
  | .n0 _ => by
    show 1 ≤ 1 + 1
    decide
  | .n1 w a => by
    have h := kdT_deep a
    have p := pairK_deep .number (kdT a)
    have q := fromK_deep .number (kdT a)
    have e : Kd.number.deep = 1 := rfl
    show (if w = "all" then Kd.fromK .number (kdT a) else Kd.pairK .number (kdT a)).deep ≤ a.deep + 1 + 1
    split <;> omega
  | .n2 w a b => by
    have h := kdT_deep a
    have g := kdT_deep b
    have p := pairK_deep (kdT a) (kdT b)
    have q := fromK_deep (kdT a) (kdT b)
    show (if w = "same" then .none else if w = "and" then Kd.pairK (kdT a) (kdT b) else if w = "or" then .either (kdT a) (kdT b) else Kd.fromK (kdT a) (kdT b) : Kd).deep ≤ max a.deep b.deep + 1 + 1
    split
    · show 1 ≤ _
      omega
    · split
      · omega
      · split
        · show max (kdT a).deep (kdT b).deep + 1 ≤ _
          omega
        · omega
def Gk (d : PyData) : Prop := d.canLay0 = true ∧ d.depth ≤ 100
theorem gk_kd {t : Tr} (h : t.deep ≤ 90) : Gk (kd t) := by
  rw [kd_is]
  have := kdT_deep t
  exact ⟨kd_lay _, by rw [kd_depth]; omega⟩
end Kf
set_option Elab.async false
set_option linter.all false
set_option maxRecDepth 100000
set_option maxHeartbeats 8000000
set_option pp.maxSteps 800
/-! k21: kind_of. -/
namespace Kf
open PySem PySem.Spec PyProof.Rows L2 Sx
abbrev sPaired : Stmt := top 10
abbrev sGiven : Stmt := top 11
abbrev sJoined : Stmt := top 12
abbrev sKindOf : Stmt := top 14
theorem scPaired : FnScope ["left", "right"] ["left", "right"] (defScope sPaired) := ⟨rfl, rfl, rfl, by decide +kernel, rfl, by decide +kernel, by decide +kernel⟩
theorem scGiven : FnScope ["left", "right"] ["left", "right"] (defScope sGiven) := ⟨rfl, rfl, rfl, by decide +kernel, rfl, by decide +kernel, by decide +kernel⟩
theorem scJoined : FnScope ["word", "parts"] ["word", "parts"] (defScope sJoined) := ⟨rfl, rfl, rfl, by decide +kernel, rfl, by decide +kernel, by decide +kernel⟩
abbrev koN : List Str := ["saying", "done", "todo", "piece", "is_through", "inner", "right", "parts", "part"]
theorem scKindOf : FnScope koN ["saying"] (defScope sKindOf) := ⟨rfl, rfl, rfl, by decide +kernel, rfl, by decide +kernel, by decide +kernel⟩
theorem for_rev {K : PySem.W.Frag} {a : Addr} {xs : List V} {g : TG} {tb : TS} {D : Ends} {σ : L2.St} {H : Hp} (Pv : Nat → L2.St → Hp → Prop) (h0 : Pv 0 σ H) (hl : ∀ i σ H, i ≤ xs.length → Pv i σ H → SqL K H a xs)
    (hs : ∀ i x σ H, i < xs.length → xs[xs.length - 1 - i]? = some x → Pv i σ H → g x σ H fun σ2 H2 => tb { D with nx := Pv (i + 1), ct := Pv (i + 1), bk := D.nx } σ2 H2) (hd : ∀ σ H, Pv xs.length σ H → D.nx σ H) :
    ∃ W : Nat → Nat → L2.St → Hp → Prop, (∃ m, W 0 m σ H) ∧ ∀ i m σ H, W i m σ H →
      ((Itv K a xs.length).stop i H ∧ D.nx σ H) ∨ ((Itv K a xs.length).go i H ∧ ∃ N : L2.St → Hp → Prop, (∀ σ' H', N σ' H' → ∃ m', m' < m ∧ W (i + 1) m' σ' H') ∧ ∀ x H', (Itv K a xs.length).yld i H x H' → g x σ H' fun σ2 H2 => tb { D with nx := N, ct := N, bk := D.nx } σ2 H2) := by
  refine ⟨fun i m σ H => m = xs.length - i ∧ i ≤ xs.length ∧ Pv i σ H, ⟨xs.length, by simp, Nat.zero_le _, h0⟩, ?_⟩
  rintro i m σ H ⟨rfl, hi, p⟩
  have q := hl i σ H hi p
  by_cases hlt : i < xs.length
  · have lt2 : xs.length - 1 - i < xs.length := by omega
    refine .inr ⟨⟨hlt, xs, xs[xs.length - 1 - i], q, List.getElem?_eq_getElem lt2⟩, Pv (i + 1), fun σ' H' p' => ⟨xs.length - (i + 1), by omega, rfl, hlt, p'⟩, fun x H' y => ?_⟩
    obtain ⟨rfl, e⟩ := y
    exact hs i x σ H' hlt (e xs q) p
  · exact .inl ⟨show xs.length ≤ i by omega, hd σ H (by rw [show xs.length = i by omega]; exact p)⟩
section
variable {P : Program} {w : World} {K : PySem.W.Frag} {mg : Str → Option Value} {base : Heap}
theorem dp_none {NO NU PA : Addr} (T : Tx K mg NO NU PA) (H : Hp) : Dp K H (.ref NO) none1 := .tup (T.tO H) (.cons (.str _) .nil)
theorem dp_num {NO NU PA : Addr} (T : Tx K mg NO NU PA) (H : Hp) : Dp K H (.ref NU) num1 := .tup (T.tU H) (.cons (.str _) .nil)
def spPaired (K : PySem.W.Frag) : Sp := fun vs H Q _ => ∃ (Z : List Addr) (x y : V) (l r : PyData), vs = [x, y] ∧ LS H Z ∧ Df K Z H x l ∧ Df K Z H y r ∧ Gk l ∧ Gk r ∧ ∀ v H', Df K Z H' v (pairD l r) → Same H H' → Q v H'
theorem ok_paired {f NO NU PA : Addr} {fd : FuncData} {j : Nat} (F : Fun K "paired" "paired" sPaired f fd) (T : Tx K mg NO NU PA) : FnOk P w K mg base CX0 (j + 1) f fd ["left", "right"] (spPaired K) := by
  refine F.ok scPaired (fun vs H Q E h => ?_) (fun cdv A outer s H vs Q E hr h => ?_)
  · obtain ⟨Z, x, y, l, r, rfl, _⟩ := h
    rfl
  obtain ⟨Z, x, y, l, r, rfl, lS, hx, hy, gl, gr, q⟩ := h
  have u1 : (A.deeper (envOfC "paired" (defScope sPaired) s.heap.objs.size f cdv)).units + 130 < cLine := by
    have := hr.un
    omega
  refine ⟨_, pss_cons (ps_if (pt_cmpR (op_eqW u1) (pv 0) (pe_glob (v := .ref NO) (by rfl) T.mO rfl) (nomark _)) (pss_one (ps_ret (pv 1))) pss_nil)
    (pss_one (ps_ret (pe_ifExp (pt_cmpR (op_eqW u1) (pv 1) (pe_glob (v := .ref NO) (by rfl) T.mO rfl) (nomark _)) (pv 0) (pe_tup (pa_cons pe_str (pa_cons (pv 0) (pa_cons (pv 1) pa_nil))))))), ?_⟩
  have l0 : none1.canLay0 = true := by decide +kernel
  refine ⟨_, rfl, l, none1, hx.dp, dp_none T H, gl.1, l0, Nat.le_trans gl.2 (by decide), _, rfl, ?_⟩
  unfold pairD at q
  cases a : PyData.eqv l none1 with
  | true =>
    rw [a] at q
    exact iteT ⟨_, rfl, q _ H hy fun _ _ e => e⟩
  | false =>
    rw [a] at q
    refine iteF ⟨_, rfl, r, none1, hy.dp, dp_none T H, gr.1, l0, Nat.le_trans gr.2 (by decide), _, rfl, ?_⟩
    cases b : PyData.eqv r none1 with
    | true =>
      rw [b] at q
      exact iteT ⟨_, rfl, q _ H hx fun _ _ e => e⟩
    | false =>
      rw [b] at q
      refine iteF ⟨_, rfl, _, rfl, (by show 3 ≤ sizeLine; decide), fun c nc => ?_⟩
      have sn := same_new (o := .tup [.str "pair", x, y]) nc
      exact q _ _ (df3 (lS.same sn) upd_same (hx.same sn) (hy.same sn)) sn
def spGiven (K : PySem.W.Frag) : Sp := fun vs H Q _ => ∃ (Z : List Addr) (x y : V) (l r : PyData), vs = [x, y] ∧ LS H Z ∧ Df K Z H x l ∧ Df K Z H y r ∧ Gk l ∧ Gk r ∧ ∀ v H', Df K Z H' v (fromD l r) → Same H H' → Q v H'
theorem ok_given {f NO NU PA : Addr} {fd : FuncData} {j : Nat} (F : Fun K "given_from" "given_from" sGiven f fd) (T : Tx K mg NO NU PA) : FnOk P w K mg base CX0 (j + 1) f fd ["left", "right"] (spGiven K) := by
  refine F.ok scGiven (fun vs H Q E h => ?_) (fun cdv A outer s H vs Q E hr h => ?_)
  · obtain ⟨Z, x, y, l, r, rfl, _⟩ := h
    rfl
  obtain ⟨Z, x, y, l, r, rfl, lS, hx, hy, gl, gr, q⟩ := h
  have u1 : (A.deeper (envOfC "given_from" (defScope sGiven) s.heap.objs.size f cdv)).units + 130 < cLine := by
    have := hr.un
    omega
  refine ⟨_, pss_one (ps_ret (pe_ifExp (pt_cmpR (op_inW u1) (pe_glob (v := .ref NO) (by rfl) T.mO rfl) (pe_tup (pa_cons (pv 0) (pa_cons (pv 1) pa_nil))) (by rfl)) (pv 1) (pe_tup (pa_cons pe_str (pa_cons (pv 0) (pa_cons (pv 1) pa_nil)))))), ?_⟩
  refine ⟨_, rfl, _, rfl, (by show 2 ≤ sizeLine; decide), fun c nc => ?_⟩
  have sn := same_new (o := .tup [x, y]) nc
  have hx2 := hx.same sn
  have hy2 := hy.same sn
  have lay2 : PyData.canLayAll0 [l, r] = true := by
    show (l.canLay0 && (r.canLay0 && true)) = true
    rw [gl.1, gr.1]
    rfl
  refine ⟨none1, [l, r], dp_none T _, .tup (.inl (.inl upd_same)) (.cons hx2.dp (.cons hy2.dp .nil)), (by decide +kernel), lay2, Nat.le_trans (Nat.min_le_right _ _) (by decide), _, rfl, ?_⟩
  show if (PyData.eqv l none1 || (PyData.eqv r none1 || false)) = true then _ else _
  unfold fromD at q
  cases a : (PyData.eqv l none1 || (PyData.eqv r none1 || false)) with
  | true =>
    rw [a] at q
    exact iteT ⟨_, rfl, q _ _ hy2 sn⟩
  | false =>
    rw [a] at q
    refine iteF ⟨_, rfl, _, rfl, (by show 3 ≤ sizeLine; decide), fun c2 nc2 => ?_⟩
    have sn2 := same_new (o := .tup [.str "from", x, y]) nc2
    exact q _ _ (df3 ((lS.same sn).same sn2) upd_same (hx2.same sn2) (hy2.same sn2)) (sn.trans sn2)
/-- what is handed to joined -/
def Joins (K : PySem.W.Frag) (Z : List Addr) (H : Hp) (wd : Str) (xs : List V) (r : PyData) : Prop :=
  ((wd = "all" ∨ wd = "some") ∧ ∃ x d, xs = [x] ∧ Df K Z H x d ∧ Gk d ∧ r = oneD wd d) ∨
  ((wd = "and" ∨ wd = "or" ∨ wd = "if") ∧ ∃ x y d e, xs = [x, y] ∧ Df K Z H x d ∧ Df K Z H y e ∧ Gk d ∧ Gk e ∧ r = joinD wd d e)
def spJoined (K : PySem.W.Frag) : Sp := fun vs H Q _ => ∃ (Z : List Addr) (wd : Str) (l : Addr) (xs : List V) (r : PyData), vs = [.str wd, .ref l] ∧ LS H Z ∧ SqL K H l xs ∧ Joins K Z H wd xs r ∧ ∀ v H', Df K Z H' v r → Same H H' → Q v H'
theorem ok_joined {f fp fg NO NU PA : Addr} {fd dp dg : FuncData} (F : Fun K "joined" "joined" sJoined f fd) (T : Tx K mg NO NU PA) (Pa : FnOk P w K mg base CX0 1 fp dp ["left", "right"] (spPaired K)) (bP : L2.Binds K dp ["left", "right"] []) (kP : PySem.W.keepIn K (.ref fp) = true) (mP : mg "paired" = some (.ref fp))
    (G : FnOk P w K mg base CX0 1 fg dg ["left", "right"] (spGiven K)) (bG : L2.Binds K dg ["left", "right"] []) (kG : PySem.W.keepIn K (.ref fg) = true) (mG : mg "given_from" = some (.ref fg)) : FnOk P w K mg base CX0 2 f fd ["word", "parts"] (spJoined K) := by
  refine F.ok scJoined (fun vs H Q E h => ?_) (fun cdv A outer s H vs Q E hr h => ?_)
  · obtain ⟨Z, wd, l, xs, r, rfl, _⟩ := h
    rfl
  obtain ⟨Z, wd, l, xs, r, rfl, lS, hl, hJ, q⟩ := h
  have h1 : Room 1 _ := hr.mono (by decide)
  refine ⟨_, pss_cons (ps_if (pt_cmpR op_eq (pv 0) pe_str (nomark _)) (pss_one (ps_ret (pe_call Pa h1 (by rfl) mP kP bP .nil pass0 (pa_cons (pe_ix ix_list (pv 1) pe_int (fun _ _ => rfl)) (pa_cons (pe_ix ix_list (pv 1) pe_int (fun _ _ => rfl)) pa_nil))))) pss_nil)
    (pss_cons (ps_if (pt_cmpR op_eq (pv 0) pe_str (nomark _)) (pss_one (ps_ret (pe_tup (pa_cons pe_str (pa_cons (pe_ix ix_list (pv 1) pe_int (fun _ _ => rfl)) (pa_cons (pe_ix ix_list (pv 1) pe_int (fun _ _ => rfl)) pa_nil)))))) pss_nil)
    (pss_cons (ps_if (pt_cmpR op_eq (pv 0) pe_str (nomark _)) (pss_one (ps_ret (pe_call G h1 (by rfl) mG kG bG .nil pass0 (pa_cons (pe_ix ix_list (pv 1) pe_int (fun _ _ => rfl)) (pa_cons (pe_ix ix_list (pv 1) pe_int (fun _ _ => rfl)) pa_nil))))) pss_nil)
    (pss_cons (ps_if (pt_cmpR op_eq (pv 0) pe_str (nomark _)) (pss_one (ps_ret (pe_call G h1 (by rfl) mG kG bG .nil pass0 (pa_cons (pe_glob (v := .ref NU) (by rfl) T.mU rfl) (pa_cons (pe_ix ix_list (pv 1) pe_int (fun _ _ => rfl)) pa_nil))))) pss_nil)
    (pss_one (ps_ret (pe_call Pa h1 (by rfl) mP kP bP .nil pass0 (pa_cons (pe_glob (v := .ref NU) (by rfl) T.mU rfl) (pa_cons (pe_ix ix_list (pv 1) pe_int (fun _ _ => rfl)) pa_nil)))))))), ?_⟩
  have gn : Gk num1 := ⟨by decide +kernel, by decide⟩
  have dn : Df K Z H (.ref NU) num1 := .tup (T.tU _) (.cons (.str _) .nil)
  rcases hJ with ⟨hw, x, d, rfl, hx, gd, rfl⟩ | ⟨hw, x, y, d, e, rfl, hx, hy, gd, ge, rfl⟩
  · unfold oneD at q
    have n1 : wd ≠ "and" ∧ wd ≠ "or" ∧ wd ≠ "if" := by rcases hw with e | e <;> rw [e] <;> decide +kernel
    refine ⟨_, rfl, rfl, _, rfl, eqW (fun e => absurd e n1.1) (fun _ => ?_)⟩
    refine ⟨_, rfl, rfl, _, rfl, eqW (fun e => absurd e n1.2.1) (fun _ => ?_)⟩
    refine ⟨_, rfl, rfl, _, rfl, eqW (fun e => absurd e n1.2.2) (fun _ => ?_)⟩
    refine ⟨_, rfl, rfl, _, rfl, eqW (fun ea => ?_) (fun na => ?_)⟩
    · rw [if_pos ea] at q
      exact ⟨_, rfl, l, _, 0, x, rfl, rfl, hl, atI_nat (j := 0) rfl, Z, _, x, num1, d, rfl, lS, dn, hx, gn, gd, fun v H' hv s => q v H' hv s⟩
    · rw [if_neg na] at q
      exact ⟨_, rfl, l, _, 0, x, rfl, rfl, hl, atI_nat (j := 0) rfl, Z, _, x, num1, d, rfl, lS, dn, hx, gn, gd, fun v H' hv s => q v H' hv s⟩
  · unfold joinD at q
    refine ⟨_, rfl, rfl, _, rfl, eqW (fun ea => ?_) (fun na => ?_)⟩
    · rw [if_pos ea] at q
      exact ⟨_, rfl, l, _, 0, x, rfl, rfl, hl, atI_nat (j := 0) rfl, _, rfl, l, _, 1, y, rfl, rfl, hl, atI_nat (j := 1) rfl, Z, x, y, d, e, rfl, lS, hx, hy, gd, ge, fun v H' hv s => q v H' hv s⟩
    rw [if_neg na] at q
    refine ⟨_, rfl, rfl, _, rfl, eqW (fun ea => ?_) (fun no => ?_)⟩
    · rw [if_pos ea] at q
      refine ⟨_, rfl, l, _, 0, x, rfl, rfl, hl, atI_nat (j := 0) rfl, _, rfl, l, _, 1, y, rfl, rfl, hl, atI_nat (j := 1) rfl, (by show 3 ≤ sizeLine; decide), fun c nc => ?_⟩
      have sn := same_new (o := .tup [.str "either", x, y]) nc
      exact q _ _ (df3 (lS.same sn) upd_same (hx.same sn) (hy.same sn)) sn
    rw [if_neg no] at q
    have ei : wd = "if" := by
      rcases hw with z | z | z
      · exact absurd z na
      · exact absurd z no
      · exact z
    refine ⟨_, rfl, rfl, _, rfl, eqW (fun _ => ?_) (fun ni => absurd ei ni)⟩
    exact ⟨_, rfl, l, _, 0, x, rfl, rfl, hl, atI_nat (j := 0) rfl, _, rfl, l, _, 1, y, rfl, rfl, hl, atI_nat (j := 1) rfl, Z, x, y, d, e, rfl, lS, hx, hy, gd, ge, fun v H' hv s => q v H' hv s⟩
end
end Kf
set_option Elab.async false
set_option linter.all false
set_option maxRecDepth 100000
set_option maxHeartbeats 8000000
set_option pp.maxSteps 60
/-! k21: kind_of. -/
namespace Kf
open PySem PySem.Spec PyProof.Rows L2 Sx
section
variable {K : PySem.W.Frag} {H : Hp} {S : List Addr} {D : Addr} {o : HO} {v : V} {d : PyData}
theorem Df.more (h : Df K S H v d) (n : H D = none) : Df K (D :: S) (upd H D o) v d := dp_up (fun c u e => by
  have e2 := delS_same _ _ e
  have nc : c ∉ S := fun z => by
    rw [show delS H S c = none from if_pos z] at e
    cases e
  have nd : c ≠ D := ne_of_none e2 n
  rw [delS_ne (List.not_mem_cons_of_ne_of_not_mem nd nc), upd_ne nd]
  exact e2) _ _ h
theorem Df.less (h : Df K (D :: S) H v d) : Df K S H v d := dp_up (fun c u e => by
  have e2 := delS_same _ _ e
  have nc : c ∉ D :: S := fun z => by
    rw [show delS H (D :: S) c = none from if_pos z] at e
    cases e
  rw [delS_ne (fun z => nc (List.mem_cons_of_mem _ z))]
  exact e2) _ _ h
end
/-- what comes of the entries es, the top one first, over the kinds st -/
def RunsK (res : PyData) : List (Tr × Bool) → List PyData → Prop
  | [], st => st = [res]
  | (t, false) :: es, st => RunsK res es (st ++ [kd t])
  | (t, true) :: es, st => ∃ s0, st = s0 ++ t.says.map kd ∧ t.says ≠ [] ∧ RunsK res es (s0 ++ [kd t])
theorem runs_says (res : PyData) : ∀ (ks : List Tr) (es : List (Tr × Bool)) (st : List PyData), RunsK res es (st ++ ks.map kd) → RunsK res (ks.map (fun k => (k, false)) ++ es) st
  | [], es, st, h => by
    rw [List.map_nil, List.append_nil] at h
    exact h
  | k :: ks, es, st, h => by
    show RunsK res (ks.map (fun k => (k, false)) ++ es) (st ++ [kd k])
    refine runs_says res ks es (st ++ [kd k]) ?_
    rw [List.append_assoc]
    exact h
def mu (e : Tr × Bool) : Nat := if e.2 = true then 1 else 2 * e.1.size
def mus (es : List (Tr × Bool)) : Nat := (es.map mu).sum
theorem mus_app (xs ys : List (Tr × Bool)) : mus (xs ++ ys) = mus xs + mus ys := by
  unfold mus
  rw [List.map_append, List.sum_append]
theorem mus_one (e : Tr × Bool) : mus [e] = mu e := by
  unfold mus
  simp
theorem mu_pos (e : Tr × Bool) : 1 ≤ mu e := by
  have z := size_pos e.1
  unfold mu
  split <;> omega
theorem mus_len : ∀ es : List (Tr × Bool), es.length ≤ mus es
  | [] => Nat.le_refl _
  | e :: es => by
    have z := mus_len es
    have y := mu_pos e
    show es.length + 1 ≤ (mu e :: es.map mu).sum
    rw [List.sum_cons]
    show es.length + 1 ≤ mu e + mus es
    omega
theorem mus_kids : ∀ ks : List Tr, mus (ks.map fun k => (k, false)) = 2 * (ks.map Tr.size).sum
  | [] => rfl
  | k :: ks => by
    have z := mus_kids ks
    show (mu (k, false) :: (ks.map fun k => (k, false)).map mu).sum = 2 * (k.size :: ks.map Tr.size).sum
    rw [List.sum_cons, List.sum_cons]
    have e : mu (k, false) = 2 * k.size := rfl
    have e2 : ((ks.map fun k => ((k, false) : Tr × Bool)).map mu).sum = mus (ks.map fun k => (k, false)) := rfl
    omega
theorem mus_rev (es : List (Tr × Bool)) : mus es.reverse = mus es := by
  unfold mus
  rw [List.map_reverse, List.sum_reverse]
theorem says_size (t : Tr) : (t.says.map Tr.size).sum + 1 ≤ t.size := by
  cases t with
  | leaf w x => exact Nat.le_refl 1
  | n0 w => exact Nat.le_refl 1
  | n1 w a =>
    show ([a.size].sum) + 1 ≤ a.size + 1
    simp
  | n2 w a b =>
    show ((if w = "same" then [] else [a, b] : List Tr).map Tr.size).sum + 1 ≤ a.size + b.size + 1
    split
    · simp
    · show ([a.size, b.size].sum) + 1 ≤ _
      simp
theorem says_len (t : Tr) : t.says.length ≤ 2 := by
  cases t with
  | leaf w x => exact Nat.zero_le _
  | n0 w => exact Nat.zero_le _
  | n1 w a => exact (by decide : 1 ≤ 2)
  | n2 w a b =>
    show (if w = "same" then [] else [a, b] : List Tr).length ≤ 2
    split
    · exact Nat.zero_le _
    · exact Nat.le_refl 2
theorem kd_no {t : Tr} (h : t.Wf kS) (e : t.says = []) : kd t = none1 := by
  cases t with
  | leaf w x => rfl
  | n0 w => rfl
  | n1 w a => cases e
  | n2 w a b =>
    have e : (if w = "same" then [] else [a, b] : List Tr) = [] := e
    show (if w = "same" then none1 else joinD w (kd a) (kd b)) = none1
    by_cases c : w = "same"
    · rw [if_pos c]
    · rw [if_neg c] at e
      cases e
/-- what is joined of a saying's parts -/
theorem kd_join {K : PySem.W.Frag} {Z : List Addr} {H : Hp} {t : Tr} {xs : List V} (h : t.Wf kS) (ne : t.says ≠ []) (d : t.deep ≤ 90) (all : All2 (fun k x => Df K Z H x (kd k)) t.says xs) : Joins K Z H t.word xs (kd t) := by
  cases t with
  | leaf w x => exact absurd rfl ne
  | n0 w => exact absurd rfl ne
  | n1 w a =>
    have all2 : All2 (fun k x => Df K Z H x (kd k)) [a] xs := all
    have dd : a.deep + 1 ≤ 90 := d
    cases all2 with
    | @cons _ x _ _ hx r =>
      cases r
      exact .inl ⟨(wf_one h).1, x, kd a, rfl, hx, gk_kd (by omega), rfl⟩
  | n2 w a b =>
    have ne2 : (if w = "same" then [] else [a, b] : List Tr) ≠ [] := ne
    have all2 : All2 (fun k x => Df K Z H x (kd k)) (if w = "same" then [] else [a, b]) xs := all
    have dd : max a.deep b.deep + 1 ≤ 90 := d
    by_cases c : w = "same"
    · rw [if_pos c] at ne2
      exact absurd rfl ne2
    · rw [if_neg c] at all2
      rcases wf_two h with ⟨e, _⟩ | ⟨_, hw, _⟩
      · exact absurd e c
      · cases all2 with
        | @cons _ x _ _ hx r =>
        cases r with
        | @cons _ y _ _ hy r2 =>
          cases r2
          refine .inr ⟨hw, x, y, kd a, kd b, rfl, hx, hy, gk_kd (by omega), gk_kd (by omega), ?_⟩
          show (if w = "same" then none1 else joinD w (kd a) (kd b)) = joinD w (kd a) (kd b)
          rw [if_neg c]
theorem says_deep {t k : Tr} (h : k ∈ t.says) : k.deep ≤ t.deep := by
  cases t with
  | leaf w x => cases h
  | n0 w => cases h
  | n1 w a =>
    rw [List.mem_singleton.mp h]
    exact Nat.le_succ _
  | n2 w a b =>
    have h : k ∈ (if w = "same" then [] else [a, b] : List Tr) := h
    have e : (Tr.n2 w a b).deep = max a.deep b.deep + 1 := rfl
    split at h
    · cases h
    · rcases List.mem_cons.mp h with z | z
      · rw [z, e]
        omega
      · rw [List.mem_singleton.mp z, e]
        omega
def RowB (H : Hp) (e : Tr × Bool) (v : V) : Prop := ∃ q x, v = .ref q ∧ H q = some (.tup [x, .bl e.2]) ∧ At H e.1 x
theorem RowB.keep {H H' : Hp} (k : Tups H H') (e : Tr × Bool) (v : V) (h : RowB H e v) : RowB H' e v := by
  obtain ⟨q, x, e1, e2, a⟩ := h
  exact ⟨q, x, e1, k _ _ e2, a.keep k⟩
/-- how it stands -/
structure PendB (K : PySem.W.Frag) (Z : List Addr) (H0 X : Hp) (pd pt : Addr) (es : List (Tr × Bool)) (vt : List V) (st : List PyData) (vd : List V) : Prop where
  sm : Same H0 X
  lt : X pt = some (.lst vt)
  ld : X pd = some (.lst vd)
  rt : All2 (RowB X) es vt
  rd : All2 (fun d v => Df K Z X v d) st vd
  lS : LS X Z
theorem iteT' {b : Bool} {A B : Prop} (e : b = true) (h : A) : if b = true then A else B := by
  rw [if_pos e]
  exact h
theorem iteF' {b : Bool} {A B : Prop} (e : b = false) (h : B) : if b = true then A else B := by
  rw [e, if_neg Bool.false_ne_true]
  exact h
theorem two_of : ∀ {vs : List V}, vs.length = 2 → ∃ x y, vs = [x, y]
  | [x, y], _ => ⟨x, y, rfl⟩
  | [], h => by cases h
  | [_], h => by cases h
  | _ :: _ :: _ :: _, h => by simp at h
theorem All2.split {α β : Type} {F : α → β → Prop} : ∀ {l1 l2 : List α} {m : List β}, All2 F (l1 ++ l2) m → ∃ m1 m2, m = m1 ++ m2 ∧ All2 F l1 m1 ∧ All2 F l2 m2
  | [], l2, m, h => ⟨[], m, rfl, .nil, h⟩
  | a :: l1, l2, _, .cons h r => by
    obtain ⟨m1, m2, e, r1, r2⟩ := All2.split (l1 := l1) (l2 := l2) r
    exact ⟨_ :: m1, m2, by rw [e]; rfl, .cons h r1, r2⟩
theorem All2.unmap {α β γ : Type} {F : α → β → Prop} {g : γ → α} : ∀ {l : List γ} {m : List β}, All2 F (l.map g) m → All2 (fun a b => F (g a) b) l m
  | [], _, .nil => .nil
  | _ :: l, _, .cons h r => .cons h (All2.unmap (l := l) r)
section
variable {K : PySem.W.Frag} {Z : List Addr} {H0 X X' : Hp} {pd pt : Addr} {es : List (Tr × Bool)} {vt : List V} {st : List PyData} {vd : List V}
theorem PendB.same (I : PendB K Z H0 X pd pt es vt st vd) (s : Same X X') : PendB K Z H0 X' pd pt es vt st vd :=
  ⟨I.sm.trans s, s _ _ I.lt, s _ _ I.ld, I.rt.mono (RowB.keep (tups_same s)), I.rd.mono fun d v h => h.same s, I.lS.same s⟩
theorem ls_put {p : Addr} {xs : List V} (h : LS X Z) : LS (upd X p (.lst xs)) Z := fun a ha => by
  by_cases e : a = p
  · rw [e]
    exact ⟨_, upd_same⟩
  · obtain ⟨ys, e2⟩ := h a ha
    exact ⟨ys, by rw [upd_ne e]; exact e2⟩
/-- the list of what is to do, otherwise -/
theorem PendB.todo (I : PendB K Z H0 X pd pt es vt st vd) (far : pt ≠ pd) (mem : pt ∈ Z) (new : H0 pt = none) {es2 : List (Tr × Bool)} {vt2 : List V} (r : All2 (RowB X) es2 vt2) : PendB K Z H0 (upd X pt (.lst vt2)) pd pt es2 vt2 st vd := by
  have k : Tups X (upd X pt (.lst vt2)) := tups_put fun xs z => by
    rw [I.lt] at z
    cases z
  have b : But pt X (upd X pt (.lst vt2)) := (But.refl pt X).own
  refine ⟨fun c o e => ?_, upd_same, by rw [upd_ne far.symm]; exact I.ld, r.mono (RowB.keep k), I.rd.mono fun d v h => h.but mem b, ls_put I.lS⟩
  rw [upd_ne (ne_of_none e new)]
  exact I.sm _ _ e
/-- the list of what is done, otherwise -/
theorem PendB.done (I : PendB K Z H0 X pd pt es vt st vd) (far : pt ≠ pd) (mem : pd ∈ Z) (new : H0 pd = none) {st2 : List PyData} {vd2 : List V} (r : All2 (fun d v => Df K Z X v d) st2 vd2) : PendB K Z H0 (upd X pd (.lst vd2)) pd pt es vt st2 vd2 := by
  have k : Tups X (upd X pd (.lst vd2)) := tups_put fun xs z => by
    rw [I.ld] at z
    cases z
  have b : But pd X (upd X pd (.lst vd2)) := (But.refl pd X).own
  refine ⟨fun c o e => ?_, by rw [upd_ne far]; exact I.lt, upd_same, I.rt.mono (RowB.keep k), r.mono fun d v h => h.but mem b, ls_put I.lS⟩
  rw [upd_ne (ne_of_none e new)]
  exact I.sm _ _ e
end
section
variable {P : Program} {w : World} {K : PySem.W.Frag} {mg : Str → Option Value} {base : Heap}
def spKindOf (K : PySem.W.Frag) : Sp := fun vs H Q _ => ∃ (Z : List Addr) (v : V) (t : Tr), vs = [v] ∧ LS H Z ∧ At H t v ∧ t.Wf kS ∧ t.deep ≤ 90 ∧ t.size ≤ 2000 ∧ ∀ u H', Df K Z H' u (kd t) → Same H H' → Q u H'
theorem ok_kindof {f fo fj NO NU PA : Addr} {fd do_ dj : FuncData} (F : Fun K "kind_of" "kind_of" sKindOf f fd) (T : Tx K mg NO NU PA) (O : FnOk P w K mg base CX0 1 fo do_ ["saying"] spOf) (bO : L2.Binds K do_ ["saying"] []) (kO : PySem.W.keepIn K (.ref fo) = true) (mO : mg "sayings_of" = some (.ref fo))
    (J : FnOk P w K mg base CX0 2 fj dj ["word", "parts"] (spJoined K)) (bJ : L2.Binds K dj ["word", "parts"] []) (kJ : PySem.W.keepIn K (.ref fj) = true) (mJ : mg "joined" = some (.ref fj)) (zRev : mg "reversed" = none) : FnOk P w K mg base CX0 3 f fd ["saying"] (spKindOf K) := by
  refine F.ok scKindOf (fun vs H Q E h => ?_) (fun cdv A outer s H vs Q E hr h => ?_)
  · obtain ⟨Z, v, t, rfl, _⟩ := h
    rfl
  obtain ⟨Z0, v, t, rfl, lS0, hA, hW, hd, hz, q⟩ := h
  have h1 : Room 1 _ := hr.mono (by decide)
  refine ⟨_, pss_cons (ps_set (i := 1) scKindOf.nd rfl (.inl rfl) (pe_lst pa_nil))
    (pss_cons (ps_set (i := 2) scKindOf.nd rfl (.inl rfl) (pe_lst (pa_cons (pe_tup (pa_cons (pv 0) (pa_cons pe_bl pa_nil))) pa_nil)))
    (pss_cons (ps_while PassesOwn.never (pt_truth (pv 2) (by intro _; rfl))
      (pss_cons (ps_asg (pe_bm0 PySem.F.plainAttrs_list PySem.F.slot_list_pop PySem.F.type_list_pop mt_pop (pv 2)) (pg_tup (by rfl) (pgs_cons (pg_name (i := 3) scKindOf.nd rfl (.inl rfl)) (pgs_cons (pg_name (i := 4) scKindOf.nd rfl (.inl rfl)) pgs_nil))))
      (pss_cons (ps_set (i := 5) scKindOf.nd rfl (.inl rfl) (pe_call O h1 (by rfl) mO kO bO .nil pass0 (pa_cons (pv 3) pa_nil)))
      (pss_one (ps_if (pt_cmpR op_eq (pe_callB call_len_seq (by rfl) T.zLen PySem.boot_len (pa_cons (pv 5) pa_nil)) pe_int (nomark _))
        (pss_one (ps_expr (pe_bm PySem.F.plainAttrs_list PySem.F.slot_list_append PySem.F.type_list_append mt_append (pv 1) (pa_cons (pe_glob (v := .ref NO) (by rfl) T.mO rfl) pa_nil))))
        (pss_one (ps_if (pt_val (pv 4))
          (pss_cons (ps_set (i := 6) scKindOf.nd rfl (.inl rfl) (pe_bm0 PySem.F.plainAttrs_list PySem.F.slot_list_pop PySem.F.type_list_pop mt_pop (pv 1)))
          (pss_cons (ps_set (i := 7) scKindOf.nd rfl (.inl rfl) (pe_ifExp (pt_cmpR op_eq (pe_callB call_len_seq (by rfl) T.zLen PySem.boot_len (pa_cons (pv 5) pa_nil)) pe_int (nomark _)) (pe_lst (pa_cons (pv 6) pa_nil)) (pe_lst (pa_cons (pe_bm0 PySem.F.plainAttrs_list PySem.F.slot_list_pop PySem.F.type_list_pop mt_pop (pv 1)) (pa_cons (pv 6) pa_nil)))))
          (pss_one (ps_expr (pe_bm PySem.F.plainAttrs_list PySem.F.slot_list_append PySem.F.type_list_append mt_append (pv 1) (pa_cons (pe_call J hr (by rfl) mJ kJ bJ .nil pass0 (pa_cons (pe_ix ix_tup (pv 3) pe_int (fun _ _ => rfl)) (pa_cons (pv 7) pa_nil))) pa_nil))))))
          (pss_cons (ps_expr (pe_bm PySem.F.plainAttrs_list PySem.F.slot_list_append PySem.F.type_list_append mt_append (pv 2) (pa_cons (pe_tup (pa_cons (pv 3) (pa_cons pe_bl pa_nil))) pa_nil)))
          (pss_one (ps_for PassesOwn.never rfl (pi_reversed (by rfl) zRev (pa_cons (pv 5) pa_nil)) (pg_name (i := 8) scKindOf.nd rfl (.inl rfl))
            (pss_one (ps_expr (pe_bm PySem.F.plainAttrs_list PySem.F.slot_list_append PySem.F.type_list_append mt_append (pv 2) (pa_cons (pe_tup (pa_cons (pv 8) (pa_cons pe_bl pa_nil))) pa_nil))))))))))))))
    (pss_one (ps_ret (pe_ix ix_list (pv 1) pe_int (fun _ _ => rfl)))))), ?_⟩
  refine ⟨Nat.zero_le _, fun pd nd => ?_⟩
  have s1 : Same H (upd H pd (.lst [])) := same_new nd
  have hd1 : upd H pd (.lst []) pd = some (.lst []) := upd_same
  generalize upd H pd (.lst []) = H1 at s1 hd1
  refine ⟨_, rfl, (by show 2 ≤ sizeLine; decide), fun q0 nq => ?_⟩
  have s2 := same_new (o := .tup [v, .bl false]) nq
  have hq0 : upd H1 q0 (.tup [v, .bl false]) q0 = some (.tup [v, .bl false]) := upd_same
  have hd2 := s2 _ _ hd1
  generalize upd H1 q0 (.tup [v, .bl false]) = H2 at s2 hq0 hd2
  refine ⟨(by show 1 ≤ sizeLine; decide), fun pt nt => ?_⟩
  have s3 := same_new (o := .lst [.ref q0]) nt
  have ht3 : upd H2 pt (.lst [.ref q0]) pt = some (.lst [.ref q0]) := upd_same
  have hq3 := s3 _ _ hq0
  have hd3 := s3 _ _ hd2
  generalize upd H2 pt (.lst [.ref q0]) = H3 at s3 ht3 hq3 hd3
  have sm3 := s1.trans (s2.trans s3)
  have ftd : pt ≠ pd := fun z => by
    rw [z, hd2] at nt
    cases nt
  have newT : H pt = none := by
    cases e : H pt with
    | none => rfl
    | some o =>
      have z := (s1.trans s2) _ _ e
      rw [nt] at z
      cases z
  have mT : pt ∈ pt :: pd :: Z0 := List.mem_cons_self
  have mD : pd ∈ pt :: pd :: Z0 := List.mem_cons_of_mem _ List.mem_cons_self
  have lS3 : LS H3 (pt :: pd :: Z0) := fun a ha => by
    rcases List.mem_cons.mp ha with rfl | ha
    · exact ⟨_, ht3⟩
    rcases List.mem_cons.mp ha with rfl | ha
    · exact ⟨_, hd3⟩
    · obtain ⟨xs, e⟩ := lS0 a ha
      exact ⟨xs, sm3 _ _ e⟩
  refine ⟨fun m σ X => ∃ (es : List (Tr × Bool)) (vt : List V) (st : List PyData) (vd : List V) (y3 y4 y5 y6 y7 y8 : Option V), σ = [some v, some (.ref pd), some (.ref pt), y3, y4, y5, y6, y7, y8] ∧ PendB K (pt :: pd :: Z0) H X pd pt es vt st vd ∧
      m = mus es ∧ st.length + mus es ≤ 4000 ∧ RunsK (kd t) es.reverse st ∧ (∀ e ∈ es, e.1.Wf kS ∧ e.1.deep ≤ 90),
    ⟨_, [(t, false)], [.ref q0], [], [], none, none, none, none, none, none, rfl, ⟨sm3, ht3, hd3, .one ⟨q0, v, rfl, hq3, hA.keep (tups_same sm3)⟩, .nil, lS3⟩, rfl, by rw [mus_one]; show 0 + 2 * t.size ≤ 4000; omega, rfl, fun e he => by rw [List.mem_singleton.mp he]; exact ⟨hW, hd⟩⟩, fun m σ X hX => ?_⟩
  obtain ⟨es, vt, st, vd, y3, y4, y5, y6, y7, y8, rfl, I, em, lm, run, okE⟩ := hX
  refine ⟨_, rfl, !vt.isEmpty, .inl ⟨vt, .inl (.inl I.lt), rfl⟩, ?_⟩
  rcases List.eq_nil_or_concat vt with en | ⟨vt0, y, en⟩
  · subst en
    refine iteF ?_
    have ee : es = [] := List.length_eq_zero_iff.mp I.rt.len
    subst ee
    have run2 : st = [kd t] := run
    subst run2
    have rd := I.rd
    have ld := I.ld
    cases rd with
    | @cons _ u _ _ hu r =>
      cases r
      exact ⟨_, rfl, pd, _, 0, u, rfl, rfl, .inl (.inl ld), atI_nat (j := 0) rfl, q u X (Df.less (Df.less hu)) I.sm⟩
  rw [List.concat_eq_append] at en
  subst en
  rw [show (!(vt0 ++ [y]).isEmpty) = true by simp]
  refine iteT ?_
  obtain ⟨es0, ⟨t1, b1⟩, rfl, rt0, ⟨q1, x1, rfl, hq1, a1⟩⟩ := I.rt.last
  obtain ⟨w1, d1⟩ := okE (t1, b1) (List.mem_append.mpr (.inr (List.mem_singleton.mpr rfl)))
  have okE0 : ∀ e ∈ es0, e.1.Wf kS ∧ e.1.deep ≤ 90 := fun e he => okE e (List.mem_append.mpr (.inl he))
  rw [List.reverse_append, List.reverse_singleton] at run
  rw [mus_app, mus_one] at em lm
  refine ⟨fun σ' X' => ∃ m', m' < m ∧ ∃ (es : List (Tr × Bool)) (vt : List V) (st : List PyData) (vd : List V) (y3 y4 y5 y6 y7 y8 : Option V), σ' = [some v, some (.ref pd), some (.ref pt), y3, y4, y5, y6, y7, y8] ∧ PendB K (pt :: pd :: Z0) H X' pd pt es vt st vd ∧
      m' = mus es ∧ st.length + mus es ≤ 4000 ∧ RunsK (kd t) es.reverse st ∧ (∀ e ∈ es, e.1.Wf kS ∧ e.1.deep ≤ 90), fun σ' X' h => h, ?_⟩
  -- piece, is_through = todo.pop()
  refine ⟨_, rfl, .inl ⟨rfl, _, .inl (.inl I.lt)⟩, pt, _, .ref q1, rfl, rfl, I.lt, by simp, ?_⟩
  rw [List.dropLast_concat]
  have I1 := I.todo ftd mT newT rt0
  have k1 : Tups X (upd X pt (.lst vt0)) := tups_put fun xs z => by
    rw [I.lt] at z
    cases z
  have hq1' := k1 _ _ hq1
  have a1' : At (upd X pt (.lst vt0)) t1 x1 := a1.keep k1
  generalize upd X pt (.lst vt0) = X1 at I1 k1 hq1' a1'
  refine ⟨q1, [x1, .bl b1], rfl, .inl (.inl hq1'), rfl, x1, [.bl b1], rfl, .bl b1, [], rfl, rfl, ?_⟩
  -- inner
  refine ⟨_, rfl, x1, t1, rfl, a1', w1, fun pi X2 ws s12 npi hpi allw => ?_⟩
  have I2 := I1.same s12
  have a2 := a1'.keep (tups_same s12)
  have wl := allw.len
  have sl := says_len t1
  have sz := says_size t1
  refine ⟨_, rfl, pi, ws, rfl, .inl (.inl (.inl hpi)), rfl, _, rfl, ?_⟩
  refine ite2 (fun c => ?_) (fun c => ?_)
  · -- none
    have w0 : ws.length = 0 := by
      have z := of_decide_eq_true c
      injection z with z
      omega
    have s0 : t1.says = [] := List.length_eq_zero_iff.mp (by omega)
    have k0 := kd_no w1 s0
    have bt : b1 = false := by
      cases b1 with
      | false => rfl
      | true =>
        obtain ⟨_, _, ne, _⟩ := run
        exact absurd s0 ne
    subst bt
    have run2 : RunsK (kd t) es0.reverse (st ++ [kd t1]) := run
    refine ⟨_, rfl, .inl ⟨rfl, _, .inl (.inl I2.ld)⟩, ⟨pd, _, _, rfl, rfl, I2.ld, line_ofS (by have := I2.rd.len; omega), ?_⟩⟩
    have muf : mu (t1, false) = 2 * t1.size := rfl
    have I3 := I2.done (st2 := st ++ [kd t1]) (vd2 := vd ++ [.ref NO]) ftd mD nd (I2.rd.app (.one (by rw [k0]; exact .tup (T.tO _) (.cons (.str _) .nil))))
    exact ⟨_, by rw [em]; have := size_pos t1; omega, es0, vt0, _, _, _, _, _, _, _, _, rfl, I3, rfl, by rw [List.length_append, List.length_singleton]; have := size_pos t1; omega, run2, okE0⟩
  · have w0 : t1.says ≠ [] := fun z => by
      rw [z] at wl
      exact c (decide_eq_true (by rw [show ws.length = 0 from wl.symm]; rfl))
    refine ⟨_, rfl, b1, rfl, ?_⟩
    cases b1 with
    | true =>
      -- half through
      refine iteT ?_
      obtain ⟨s0, es1, _, run2⟩ : ∃ s0, st = s0 ++ t1.says.map kd ∧ t1.says ≠ [] ∧ RunsK (kd t) es0.reverse (s0 ++ [kd t1]) := run
      have rd2 := I2.rd
      have mue : mu (t1, true) = 1 := rfl
      rw [es1] at rd2
      obtain ⟨v0, vk, evd, r0, rk⟩ := All2.split rd2
      have rk := All2.unmap rk
      have lk := rk.len
      have ls0 : st.length = s0.length + t1.says.length := by rw [es1, List.length_append, List.length_map]
      have lv0 := r0.len
      obtain ⟨p1, us, rfl, hp1, lus, _, _⟩ := a2.view (wf_ok w1)
      have ld2 := I2.ld
      subst evd
      have l12 : vk.length = 1 ∨ vk.length = 2 := by
        have : 1 ≤ t1.says.length := List.length_pos_iff.mpr w0
        omega
      have lws : ws.length = vk.length := by omega
      have bq : ∀ {vs : List V}, But pd X2 (upd X2 pd (.lst vs)) := (But.refl pd X2).own
      have kq : ∀ {vs : List V}, Tups X2 (upd X2 pd (.lst vs)) := tups_put fun xs z => by
        rw [ld2] at z
        cases z
      have npid : pi ≠ pd := fun z => by
        rw [z, I1.ld] at npi
        cases npi
      rcases l12 with l1 | l2
      · obtain ⟨x, evk⟩ : ∃ x, vk = [x] := List.length_eq_one_iff.mp l1
        have ld3 : X2 pd = some (.lst (v0 ++ [x])) := by rw [← evk]; exact ld2
        refine ⟨_, rfl, .inl ⟨rfl, _, .inl (.inl ld3)⟩, pd, _, x, rfl, rfl, ld3, by simp, ?_⟩
        rw [List.dropLast_concat]
        have I3 := I2.done (st2 := s0) (vd2 := v0) ftd mD nd r0
        have hpi3 : upd X2 pd (.lst v0) pi = some (.lst ws) := by rw [upd_ne npid]; exact hpi
        have hp3 := kq (vs := v0) _ _ hp1
        have rk3 := rk.mono fun k x h => Df.but (H' := upd X2 pd (.lst v0)) mD bq h
        generalize upd X2 pd (.lst v0) = X3 at I3 hpi3 hp3 rk3
        refine ⟨_, rfl, pi, ws, rfl, .inl (.inl (.inl hpi3)), rfl, _, rfl, iteT' (decide_eq_true (by rw [lws, l1]; rfl)) ?_⟩
        refine ⟨_, rfl, (by show 1 ≤ sizeLine; decide), fun l nl => ?_⟩
        have sn := same_new (o := .lst [x]) nl
        have I4 := I3.same sn
        have el : upd X3 l (.lst [x]) l = some (.lst vk) := by rw [evk]; exact upd_same
        have rk4 := rk3.mono fun k x h => h.same sn
        have hp4 := sn _ _ hp3
        generalize upd X3 l (.lst [x]) = X4 at I4 el rk4 hp4
        have hj := kd_join w1 w0 d1 rk4
        refine ⟨_, rfl, .inl ⟨rfl, _, .inl (.inl I4.ld)⟩, _, rfl, p1, _, 0, _, rfl, rfl, .inl (.inl hp4), head_at _ _, _, rfl, pt :: pd :: Z0, t1.word, l, vk, kd t1, rfl, I4.lS, .inl (.inl el), hj, fun u Y2 hu sY => ?_⟩
        have I5 := I4.same sY
        refine ⟨pd, _, _, rfl, rfl, I5.ld, line_ofS (by omega), ?_⟩
        have I3 := I5.done (st2 := s0 ++ [kd t1]) (vd2 := v0 ++ [u]) ftd mD nd (I5.rd.app (.one hu))
        refine ⟨_, by rw [em]; omega, es0, vt0, _, _, _, _, _, _, _, _, rfl, I3, rfl, ?_, run2, okE0⟩
        have := says_len t1
        have : 1 ≤ t1.says.length := List.length_pos_iff.mpr w0
        rw [List.length_append, List.length_singleton]
        omega
      · obtain ⟨x, y, evk⟩ : ∃ x y, vk = [x, y] := two_of l2
        have ld3 : X2 pd = some (.lst ((v0 ++ [x]) ++ [y])) := by rw [ld2, evk]; simp
        refine ⟨_, rfl, .inl ⟨rfl, _, .inl (.inl ld3)⟩, pd, _, y, rfl, rfl, ld3, by simp, ?_⟩
        rw [List.dropLast_concat]
        have hpi3 : upd X2 pd (.lst (v0 ++ [x])) pi = some (.lst ws) := by rw [upd_ne npid]; exact hpi
        refine ⟨_, rfl, pi, ws, rfl, .inl (.inl (.inl hpi3)), rfl, _, rfl, iteF' (decide_eq_false (by rw [lws, l2]; intro z; cases z)) ?_⟩
        refine ⟨_, rfl, .inl ⟨rfl, _, .inl (.inl upd_same)⟩, pd, _, x, rfl, rfl, upd_same, by simp, ?_⟩
        rw [List.dropLast_concat]
        have eu : upd (upd X2 pd (.lst (v0 ++ [x]))) pd (.lst v0) = upd X2 pd (.lst v0) := by
          funext b
          by_cases hb : b = pd
          · rw [hb, upd_same, upd_same]
          · rw [upd_ne hb, upd_ne hb, upd_ne hb]
        rw [eu]
        have I3 := I2.done (st2 := s0) (vd2 := v0) ftd mD nd r0
        have hp3 := kq (vs := v0) _ _ hp1
        have rk3 := rk.mono fun k x h => Df.but (H' := upd X2 pd (.lst v0)) mD bq h
        generalize upd X2 pd (.lst v0) = X3 at I3 hp3 rk3
        refine ⟨_, rfl, (by show 2 ≤ sizeLine; decide), fun l nl => ?_⟩
        have sn := same_new (o := .lst [x, y]) nl
        have I4 := I3.same sn
        have el : upd X3 l (.lst [x, y]) l = some (.lst vk) := by rw [evk]; exact upd_same
        have rk4 := rk3.mono fun k x h => h.same sn
        have hp4 := sn _ _ hp3
        generalize upd X3 l (.lst [x, y]) = X4 at I4 el rk4 hp4
        have hj := kd_join w1 w0 d1 rk4
        refine ⟨_, rfl, .inl ⟨rfl, _, .inl (.inl I4.ld)⟩, _, rfl, p1, _, 0, _, rfl, rfl, .inl (.inl hp4), head_at _ _, _, rfl, pt :: pd :: Z0, t1.word, l, vk, kd t1, rfl, I4.lS, .inl (.inl el), hj, fun u Y2 hu sY => ?_⟩
        have I5 := I4.same sY
        refine ⟨pd, _, _, rfl, rfl, I5.ld, line_ofS (by omega), ?_⟩
        have I3 := I5.done (st2 := s0 ++ [kd t1]) (vd2 := v0 ++ [u]) ftd mD nd (I5.rd.app (.one hu))
        refine ⟨_, by rw [em]; omega, es0, vt0, _, _, _, _, _, _, _, _, rfl, I3, rfl, ?_, run2, okE0⟩
        have := says_len t1
        have : 1 ≤ t1.says.length := List.length_pos_iff.mpr w0
        rw [List.length_append, List.length_singleton]
        omega
    | false =>
      refine iteF ?_
      have muf : mu (t1, false) = 2 * t1.size := rfl
      -- todo.append((piece, True))
      refine ⟨_, rfl, .inl ⟨rfl, _, .inl (.inl I2.lt)⟩, _, rfl, (by show 2 ≤ sizeLine; decide), fun q2 nq2 => ?_⟩
      have s23 := same_new (o := .tup [x1, .bl true]) nq2
      have I3 := I2.same s23
      have hq2 : upd X2 q2 (.tup [x1, .bl true]) q2 = some (.tup [x1, .bl true]) := upd_same
      have hpi3 := s23 _ _ hpi
      have all3 := allw.mono fun a v h => h.keep (tups_same s23)
      have a3 := a2.keep (tups_same s23)
      generalize upd X2 q2 (.tup [x1, .bl true]) = X3 at s23 I3 hq2 hpi3 all3 a3
      have le0 := mus_len es0
      have lr0 := rt0.len
      refine ⟨pt, _, _, rfl, rfl, I3.lt, line_ofS (by omega), ?_⟩
      have I4 := I3.todo ftd mT newT (es2 := es0 ++ [(t1, true)]) (vt2 := vt0 ++ [.ref q2]) (I3.rt.app (.one ⟨q2, x1, rfl, hq2, a3⟩))
      have npit : pi ≠ pt := fun z => by
        rw [z, I1.lt] at npi
        cases npi
      have npid : pi ≠ pd := fun z => by
        rw [z, I1.ld] at npi
        cases npi
      have hpi4 : upd X3 pt (.lst (vt0 ++ [.ref q2])) pi = some (.lst ws) := by
        rw [upd_ne npit]
        exact hpi3
      have k34 : Tups X3 (upd X3 pt (.lst (vt0 ++ [.ref q2]))) := tups_put fun xs z => by
        rw [I3.lt] at z
        cases z
      have all4 := all3.mono fun a v h => h.keep k34
      generalize upd X3 pt (.lst (vt0 ++ [.ref q2])) = X4 at I4 hpi4 all4
      refine ⟨_, rfl, pi, ws, rfl, .inl (.inl hpi4), for_rev (K := K) (a := pi) (xs := ws) (fun i σ Y => ∃ (vt : List V) (y8 : Option V), σ = [some v, some (.ref pd), some (.ref pt), some x1, some (.bl false), some (.ref pi), y6, y7, y8] ∧
          PendB K (pt :: pd :: Z0) H Y pd pt (es0 ++ [(t1, true)] ++ (t1.says.drop (ws.length - i)).reverse.map fun k => (k, false)) vt st vd ∧ Y pi = some (.lst ws) ∧ All2 (At Y) t1.says ws)
        ⟨vt0 ++ [.ref q2], y8, rfl, ?_, hpi4, all4⟩ (fun i σ Y _ ⟨_, _, _, _, h, _⟩ => .inl (.inl h)) ?_ ?_⟩
      · rw [Nat.sub_zero, ← wl, List.drop_length, List.reverse_nil, List.map_nil, List.append_nil]
        exact I4
      · rintro i x σ Y hi hx ⟨vt, y8, rfl, IY, hpY, alY⟩
        obtain ⟨k, hk, ak⟩ := alY.get hx
        refine ⟨_, rfl, .inl ⟨rfl, _, .inl (.inl IY.lt)⟩, _, rfl, (by show 2 ≤ sizeLine; decide), fun q3 nq3 => ?_⟩
        have sY := same_new (o := .tup [x, .bl false]) nq3
        have IY2 := IY.same sY
        have hq3 : upd Y q3 (.tup [x, .bl false]) q3 = some (.tup [x, .bl false]) := upd_same
        have hpY2 := sY _ _ hpY
        have alY2 := alY.mono fun a v h => h.keep (tups_same sY)
        have ak2 := ak.keep (tups_same sY)
        generalize upd Y q3 (.tup [x, .bl false]) = Y2 at sY IY2 hq3 hpY2 alY2 ak2
        have lvt : vt.length ≤ 5000 := by
          have z := IY2.rt.len
          rw [List.length_append, List.length_append, List.length_map, List.length_reverse, List.length_drop, List.length_singleton] at z
          omega
        refine ⟨pt, _, _, rfl, rfl, IY2.lt, line_ofS (by omega), ?_⟩
        have I5 := IY2.todo ftd mT newT (vt2 := vt ++ [.ref q3]) (IY2.rt.app (.one (a := (k, false)) ⟨q3, x, rfl, hq3, ak2⟩))
        have kY : Tups Y2 (upd Y2 pt (.lst (vt ++ [.ref q3]))) := tups_put fun xs z => by
          rw [IY2.lt] at z
          cases z
        refine ⟨vt ++ [.ref q3], some x, rfl, ?_, by rw [upd_ne npit]; exact hpY2, alY2.mono fun a v h => h.keep kY⟩
        have ed : (t1.says.drop (ws.length - (i + 1))).reverse = (t1.says.drop (ws.length - i)).reverse ++ [k] := by
          have lt : ws.length - 1 - i < t1.says.length := by omega
          have e1 : ws.length - (i + 1) = ws.length - 1 - i := by omega
          have e2 : ws.length - i = ws.length - 1 - i + 1 := by omega
          rw [e1, e2, List.drop_eq_getElem_cons lt, (List.getElem?_eq_some_iff.mp hk).2, List.reverse_cons]
        rw [ed, List.map_append, ← List.append_assoc]
        exact I5
      · rintro σ Y ⟨vt, y8, rfl, IY, hpY, alY⟩
        rw [Nat.sub_self, List.drop_zero] at IY
        have m1 : mus (t1.says.reverse.map fun k => ((k, false) : Tr × Bool)) = 2 * (t1.says.map Tr.size).sum := by
          rw [mus_kids, List.map_reverse, List.sum_reverse]
        have m2 : mu (t1, true) = 1 := rfl
        have m3 : mus (es0 ++ [(t1, true)] ++ t1.says.reverse.map fun k => ((k, false) : Tr × Bool)) = mus es0 + 1 + 2 * (t1.says.map Tr.size).sum := by
          rw [mus_app, mus_app, mus_one, m1, m2]
        refine ⟨_, ?_, _, vt, st, vd, _, _, _, _, _, _, rfl, IY, rfl, ?_, ?_, fun e he => ?_⟩
        · rw [m3, em]
          omega
        · rw [m3]
          omega
        · rw [List.reverse_append, List.reverse_append, List.reverse_singleton, ← List.map_reverse, List.reverse_reverse]
          refine runs_says _ _ _ _ ⟨st, rfl, w0, ?_⟩
          exact run
        · rcases List.mem_append.mp he with he | he
          · rcases List.mem_append.mp he with he | he
            · exact okE0 e he
            · rw [List.mem_singleton.mp he]
              exact ⟨w1, d1⟩
          · obtain ⟨k, hk, rfl⟩ := List.mem_map.mp he
            have mk := List.mem_reverse.mp hk
            exact ⟨wf_says w1 k mk, Nat.le_trans (says_deep mk) d1⟩
end
end Kf
set_option Elab.async false
set_option linter.all false
set_option maxRecDepth 100000
set_option maxHeartbeats 4000000
set_option pp.maxSteps 600
/-! Seen sayings with small terms: the mathematics. -/
namespace Kf
open PySem PySem.Spec PyProof.Rows L2 Sx
inductive Lf where
  | num (n : Nat)
  | bnd (k : Nat)
inductive Tm where
  | lf (l : Lf)
  | nx (l : Lf)
  | pl (l m : Lf)
  | ti (l m : Lf)
inductive Sy where
  | same (a b : Tm)
  | no
  | and (a b : Sy)
  | cond (a b : Sy)
  | or (a b : Sy)
  | some (a : Sy)
def Lf.tr : Lf → Tr
  | .num n => .leaf "num" (.int (n : Int))
  | .bnd k => .leaf "bound" (.int (k : Int))
def Tm.tr : Tm → Tr
  | .lf l => l.tr
  | .nx l => .n1 "next" l.tr
  | .pl l m => .n2 "plus" l.tr m.tr
  | .ti l m => .n2 "times" l.tr m.tr
def Sy.tr : Sy → Tr
  | .same a b => .n2 "same" a.tr b.tr
  | .no => .n0 "no"
  | .and a b => .n2 "and" a.tr b.tr
  | .cond a b => .n2 "if" a.tr b.tr
  | .or a b => .n2 "or" a.tr b.tr
  | .some a => .n1 "some" a.tr
def Sy.flat : Sy → Bool
  | .same _ _ => true
  | .no => true
  | .and a b => a.flat && b.flat
  | .cond a b => a.flat && b.flat
  | .or _ _ => false
  | .some _ => false
/-- how many pieces, terms not counted -/
def Sy.sz : Sy → Nat
  | .same _ _ => 1
  | .no => 1
  | .and a b => a.sz + b.sz + 1
  | .cond a b => a.sz + b.sz + 1
  | .or a b => a.sz + b.sz + 1
  | .some a => a.sz + 1
/-- how far within one another, terms not counted -/
def Sy.dp : Sy → Nat
  | .same _ _ => 1
  | .no => 1
  | .and a b => max a.dp b.dp + 1
  | .cond a b => max a.dp b.dp + 1
  | .or a b => max a.dp b.dp + 1
  | .some a => a.dp + 1
def Lf.Ok (c : Nat) : Lf → Prop
  | .num n => n ≤ 5
  | .bnd k => k < c
def Tm.Ok (c : Nat) : Tm → Prop
  | .lf l => l.Ok c
  | .nx l => l.Ok c
  | .pl l m => l.Ok c ∧ m.Ok c
  | .ti l m => l.Ok c ∧ m.Ok c
def Sy.Ok : Nat → Sy → Prop
  | c, .same a b => a.Ok c ∧ b.Ok c
  | _, .no => True
  | c, .and a b => a.Ok c ∧ b.Ok c
  | c, .cond a b => a.flat = true ∧ a.Ok c ∧ b.Ok c
  | c, .or a b => a.Ok c ∧ b.Ok c
  | c, .some a => a.Ok (c + 1)
def Lf.at (n r : Nat) : Lf → Lf
  | .num m => .num m
  | .bnd k => if k = r then .num n else .bnd k
def Tm.at (n r : Nat) : Tm → Tm
  | .lf l => .lf (l.at n r)
  | .nx l => .nx (l.at n r)
  | .pl l m => .pl (l.at n r) (m.at n r)
  | .ti l m => .ti (l.at n r) (m.at n r)
def Sy.at (n : Nat) : Nat → Sy → Sy
  | r, .same a b => .same (a.at n r) (b.at n r)
  | _, .no => .no
  | r, .and a b => .and (a.at n r) (b.at n r)
  | r, .cond a b => .cond (a.at n r) (b.at n r)
  | r, .or a b => .or (a.at n r) (b.at n r)
  | r, .some a => .some (a.at n (r + 1))
theorem flat_at (n : Nat) : ∀ (s : Sy) (r : Nat), (s.at n r).flat = s.flat
  | .same _ _, _ => rfl
  | .no, _ => rfl
  | .and a b, r => by
    show ((a.at n r).flat && (b.at n r).flat) = (a.flat && b.flat)
    rw [flat_at n a, flat_at n b]
  | .cond a b, r => by
    show ((a.at n r).flat && (b.at n r).flat) = (a.flat && b.flat)
    rw [flat_at n a, flat_at n b]
  | .or _ _, _ => rfl
  | .some _, _ => rfl
theorem sz_at (n : Nat) : ∀ (s : Sy) (r : Nat), (s.at n r).sz = s.sz
  | .same _ _, _ => rfl
  | .no, _ => rfl
  | .and a b, r => by
    show (a.at n r).sz + (b.at n r).sz + 1 = a.sz + b.sz + 1
    rw [sz_at n a, sz_at n b]
  | .cond a b, r => by
    show (a.at n r).sz + (b.at n r).sz + 1 = a.sz + b.sz + 1
    rw [sz_at n a, sz_at n b]
  | .or a b, r => by
    show (a.at n r).sz + (b.at n r).sz + 1 = a.sz + b.sz + 1
    rw [sz_at n a, sz_at n b]
  | .some a, r => by
    show (a.at n (r + 1)).sz + 1 = a.sz + 1
    rw [sz_at n a]
theorem dp_at (n : Nat) : ∀ (s : Sy) (r : Nat), (s.at n r).dp = s.dp
  | .same _ _, _ => rfl
  | .no, _ => rfl
  | .and a b, r => by
    show max (a.at n r).dp (b.at n r).dp + 1 = max a.dp b.dp + 1
    rw [dp_at n a, dp_at n b]
  | .cond a b, r => by
    show max (a.at n r).dp (b.at n r).dp + 1 = max a.dp b.dp + 1
    rw [dp_at n a, dp_at n b]
  | .or a b, r => by
    show max (a.at n r).dp (b.at n r).dp + 1 = max a.dp b.dp + 1
    rw [dp_at n a, dp_at n b]
  | .some a, r => by
    show (a.at n (r + 1)).dp + 1 = a.dp + 1
    rw [dp_at n a]
theorem lf_at {n r : Nat} (hn : n ≤ 5) : ∀ {l : Lf}, l.Ok (r + 1) → (l.at n r).Ok r
  | .num m, h => h
  | .bnd k, h => by
    have h : k < r + 1 := h
    show Lf.Ok r (if k = r then .num n else .bnd k)
    by_cases c : k = r
    · rw [if_pos c]
      exact hn
    · rw [if_neg c]
      show k < r
      omega
theorem tm_at {n r : Nat} (hn : n ≤ 5) : ∀ {t : Tm}, t.Ok (r + 1) → (t.at n r).Ok r
  | .lf _, h => lf_at hn h
  | .nx _, h => lf_at hn h
  | .pl _ _, h => ⟨lf_at hn h.1, lf_at hn h.2⟩
  | .ti _ _, h => ⟨lf_at hn h.1, lf_at hn h.2⟩
theorem ok_at {n : Nat} (hn : n ≤ 5) : ∀ {s : Sy} {r : Nat}, s.Ok (r + 1) → (s.at n r).Ok r
  | .same _ _, _, h => ⟨tm_at hn h.1, tm_at hn h.2⟩
  | .no, _, _ => trivial
  | .and _ _, _, h => ⟨ok_at hn h.1, ok_at hn h.2⟩
  | .cond a _, r, h => ⟨(flat_at n a r).trans h.1, ok_at hn h.2.1, ok_at hn h.2.2⟩
  | .or _ _, _, h => ⟨ok_at hn h.1, ok_at hn h.2⟩
  | .some a, _, h => ok_at (s := a) hn h
/-! ### worths, truth -/
def Lf.val : Lf → Nat
  | .num n => n
  | .bnd _ => 0
def Tm.val : Tm → Nat
  | .lf l => l.val
  | .nx l => l.val + 1
  | .pl l m => l.val + m.val
  | .ti l m => l.val * m.val
def Sy.tru : Sy → Bool
  | .same a b => decide (a.val = b.val)
  | .no => false
  | .and a b => a.tru && b.tru
  | .cond a b => b.tru || !a.tru
  | .or _ _ => false
  | .some _ => false
theorem lf_small {l : Lf} (h : l.Ok 0) : l.val ≤ 5 := by
  cases l with
  | num n => exact h
  | bnd k => exact absurd h (Nat.not_lt_zero _)
theorem cap_of {n : Nat} (h : n ≤ 1000) : cap (n : Int) = some (n : Int) := if_pos (by
  show (n : Int) < 10 ^ 60
  have : (1000 : Int) < 10 ^ 60 := by decide
  omega)
theorem wt_n2' (w : Str) (a b : Tr) : wt v0 (.n2 w a b) = (wt v0 a).bind fun m => (wt v0 b).bind fun n => cap (if w = "plus" then m + n else m * n) := rfl
theorem wt_lf {l : Lf} (h : l.Ok 0) : wt v0 l.tr = some (l.val : Int) := by
  cases l with
  | num n => exact cap_of (Nat.le_trans h (by decide))
  | bnd k => exact absurd h (Nat.not_lt_zero _)
theorem wt_tm {t : Tm} (h : t.Ok 0) : wt v0 t.tr = some (t.val : Int) := by
  cases t with
  | lf l => exact wt_lf h
  | nx l =>
    have a := lf_small h
    show ((wt v0 l.tr).bind fun m => cap (m + 1)) = some ((l.val + 1 : Nat) : Int)
    have e : ((l.val : Int) + 1) = ((l.val + 1 : Nat) : Int) := by simp
    rw [wt_lf h, Option.bind_some, e]
    exact cap_of (n := l.val + 1) (by omega)
  | pl l m =>
    have a := lf_small h.1
    have b := lf_small h.2
    show wt v0 (.n2 "plus" l.tr m.tr) = some ((l.val + m.val : Nat) : Int)
    have e : ((l.val : Int) + m.val) = ((l.val + m.val : Nat) : Int) := by simp
    rw [wt_n2', wt_lf h.1, wt_lf h.2, Option.bind_some, Option.bind_some, if_pos rfl, e]
    exact cap_of (n := l.val + m.val) (by omega)
  | ti l m =>
    have a := lf_small h.1
    have b := lf_small h.2
    have c : l.val * m.val ≤ 5 * 5 := Nat.mul_le_mul a b
    have e : ((l.val : Int) * m.val) = ((l.val * m.val : Nat) : Int) := by simp
    show wt v0 (.n2 "times" l.tr m.tr) = some ((l.val * m.val : Nat) : Int)
    rw [wt_n2', wt_lf h.1, wt_lf h.2, Option.bind_some, Option.bind_some, if_neg (by decide +kernel), e]
    exact cap_of (n := l.val * m.val) (by omega)
theorem tru_n2 (w : Str) (a b : Tr) : tru (.n2 w a b) = if w = "same" then (wt v0 a).bind fun m => (wt v0 b).bind fun n => some (decide (m = n)) else (tru a).bind fun p => (tru b).bind fun q => some (if w = "and" then p && q else q || !p) := rfl
theorem wt_n2 (w : Str) (a b : Tr) : wt v0 (.n2 w a b) = (wt v0 a).bind fun m => (wt v0 b).bind fun n => cap (if w = "plus" then m + n else m * n) := rfl
theorem flatB_n2 (w : Str) (a b : Tr) : flatB (.n2 w a b) = if w = "same" then true else if w = "or" then false else flatB a && flatB b := rfl
theorem tru_sy : ∀ {s : Sy}, s.flat = true → s.Ok 0 → tru s.tr = some s.tru
  | .same a b, _, h => by
    show tru (.n2 "same" a.tr b.tr) = some (decide (a.val = b.val))
    rw [tru_n2, if_pos rfl, wt_tm h.1, wt_tm h.2]
    show some (decide ((a.val : Int) = b.val)) = some (decide (a.val = b.val))
    rw [decide_eq_decide.mpr (by omega : ((a.val : Int) = b.val) ↔ a.val = b.val)]
  | .no, _, _ => rfl
  | .and a b, f, h => by
    have f : (a.flat && b.flat) = true := f
    rw [Bool.and_eq_true] at f
    show tru (.n2 "and" a.tr b.tr) = some (a.tru && b.tru)
    rw [tru_n2, if_neg (by decide +kernel), tru_sy f.1 h.1, tru_sy f.2 h.2, Option.bind_some, Option.bind_some, if_pos rfl]
  | .cond a b, f, h => by
    have f : (a.flat && b.flat) = true := f
    rw [Bool.and_eq_true] at f
    show tru (.n2 "if" a.tr b.tr) = some (b.tru || !a.tru)
    rw [tru_n2, if_neg (by decide +kernel), tru_sy f.1 h.2.1, tru_sy f.2 h.2.2, Option.bind_some, Option.bind_some, if_neg (by decide +kernel)]
theorem cl_lf {l : Lf} (h : l.Ok 0) : l.tr.Cl := by
  cases l with
  | num n => exact ⟨rfl, n, rfl, by omega, by
      have h : n ≤ 5 := h
      have : (5 : Int) < 10 ^ 60 := by decide
      omega⟩
  | bnd k => exact absurd h (Nat.not_lt_zero _)
theorem cl_tm' {t : Tm} (h : t.Ok 0) : t.tr.Cl := by
  cases t with
  | lf l => exact cl_lf h
  | nx l => exact ⟨rfl, cl_lf h⟩
  | pl l m => exact ⟨.inl rfl, cl_lf h.1, cl_lf h.2⟩
  | ti l m => exact ⟨.inr rfl, cl_lf h.1, cl_lf h.2⟩
theorem fl_sy : ∀ {s : Sy}, s.flat = true → s.Ok 0 → s.tr.Fl
  | .same a b, _, h => .inl ⟨rfl, cl_tm' h.1, cl_tm' h.2⟩
  | .no, _, _ => rfl
  | .and a b, f, h => by
    have f : (a.flat && b.flat) = true := f
    rw [Bool.and_eq_true] at f
    exact .inr ⟨.inl rfl, fl_sy f.1 h.1, fl_sy f.2 h.2⟩
  | .cond a b, f, h => by
    have f : (a.flat && b.flat) = true := f
    rw [Bool.and_eq_true] at f
    exact .inr ⟨.inr rfl, fl_sy f.1 h.2.1, fl_sy f.2 h.2.2⟩
/-! ### trees -/
theorem wf_lf {c : Nat} (hc : c ≤ 100) {l : Lf} (h : l.Ok c) : l.tr.Wf kT := by
  have p : (100 : Int) < 10 ^ 60 := by decide
  cases l with
  | num n =>
    have h : n ≤ 5 := h
    exact ⟨rfl, .inl ⟨.inl rfl, n, rfl, by omega, by omega⟩⟩
  | bnd k =>
    have h : k < c := h
    exact ⟨rfl, .inl ⟨.inr rfl, k, rfl, by omega, by omega⟩⟩
theorem wf_tm {c : Nat} (hc : c ≤ 100) {t : Tm} (h : t.Ok c) : t.tr.Wf kT := by
  cases t with
  | lf l => exact wf_lf hc h
  | nx l => exact ⟨kT, by decide +kernel, wf_lf hc h⟩
  | pl l m => exact ⟨kT, kT, by decide +kernel, wf_lf hc h.1, wf_lf hc h.2⟩
  | ti l m => exact ⟨kT, kT, by decide +kernel, wf_lf hc h.1, wf_lf hc h.2⟩
theorem wf_sy : ∀ {s : Sy} {c : Nat}, c + s.dp ≤ 100 → s.Ok c → s.tr.Wf kS
  | .same a b, c, hc, h => by
    have hc : c + 1 ≤ 100 := hc
    exact ⟨kT, kT, by decide +kernel, wf_tm (by omega) h.1, wf_tm (by omega) h.2⟩
  | .no, c, hc, h => by
    show (("no", kS, []) : Str × Str × List Str) ∈ table
    decide +kernel
  | .and a b, c, hc, h => by
    have hc : c + (max a.dp b.dp + 1) ≤ 100 := hc
    exact ⟨kS, kS, by decide +kernel, wf_sy (by omega) h.1, wf_sy (by omega) h.2⟩
  | .cond a b, c, hc, h => by
    have hc : c + (max a.dp b.dp + 1) ≤ 100 := hc
    exact ⟨kS, kS, by decide +kernel, wf_sy (by omega) h.2.1, wf_sy (by omega) h.2.2⟩
  | .or a b, c, hc, h => by
    have hc : c + (max a.dp b.dp + 1) ≤ 100 := hc
    exact ⟨kS, kS, by decide +kernel, wf_sy (by omega) h.1, wf_sy (by omega) h.2⟩
  | .some a, c, hc, h => by
    have hc : c + (a.dp + 1) ≤ 100 := hc
    exact ⟨kS, by decide +kernel, wf_sy (s := a) (c := c + 1) (by omega) h⟩
theorem tm_deep (t : Tm) : t.tr.deep ≤ 2 := by
  cases t with
  | lf l => cases l <;> exact (by decide : 1 ≤ 2)
  | nx l => cases l <;> exact (by decide : 2 ≤ 2)
  | pl l m => cases l <;> cases m <;> exact (by decide : 2 ≤ 2)
  | ti l m => cases l <;> cases m <;> exact (by decide : 2 ≤ 2)
theorem sy_deep : ∀ s : Sy, s.tr.deep ≤ s.dp + 2
  | .same a b => by
    have := tm_deep a
    have := tm_deep b
    show max a.tr.deep b.tr.deep + 1 ≤ 1 + 2
    omega
  | .no => by
    show 1 ≤ 1 + 2
    decide
  | .and a b => by
    have := sy_deep a
    have := sy_deep b
    show max a.tr.deep b.tr.deep + 1 ≤ max a.dp b.dp + 1 + 2
    omega
  | .cond a b => by
    have := sy_deep a
    have := sy_deep b
    show max a.tr.deep b.tr.deep + 1 ≤ max a.dp b.dp + 1 + 2
    omega
  | .or a b => by
    have := sy_deep a
    have := sy_deep b
    show max a.tr.deep b.tr.deep + 1 ≤ max a.dp b.dp + 1 + 2
    omega
  | .some a => by
    have := sy_deep a
    show a.tr.deep + 1 ≤ a.dp + 1 + 2
    omega
theorem lay_lf (l : Lf) : l.tr.Lay := by
  cases l with
  | num n => exact ⟨by decide +kernel, fun z e => by cases e⟩
  | bnd k => exact ⟨by decide +kernel, fun z e => by cases e⟩
theorem lay_tm (t : Tm) : t.tr.Lay := by
  cases t with
  | lf l => exact lay_lf l
  | nx l => exact ⟨by decide +kernel, lay_lf l⟩
  | pl l m => exact ⟨by decide +kernel, lay_lf l, lay_lf m⟩
  | ti l m => exact ⟨by decide +kernel, lay_lf l, lay_lf m⟩
theorem lay_sy : ∀ s : Sy, s.tr.Lay
  | .same a b => ⟨by decide +kernel, lay_tm a, lay_tm b⟩
  | .no => by
    show NmOk "no"
    decide +kernel
  | .and a b => ⟨by decide +kernel, lay_sy a, lay_sy b⟩
  | .cond a b => ⟨by decide +kernel, lay_sy a, lay_sy b⟩
  | .or a b => ⟨by decide +kernel, lay_sy a, lay_sy b⟩
  | .some a => ⟨by decide +kernel, lay_sy a⟩
theorem okt_lf (l : Lf) : l.tr.Ok := by
  cases l with
  | num n => exact ⟨by decide +kernel, .inl ⟨⟨_, rfl⟩, by decide +kernel⟩⟩
  | bnd k => exact ⟨by decide +kernel, .inl ⟨⟨_, rfl⟩, by decide +kernel⟩⟩
theorem okt_tm (t : Tm) : t.tr.Ok := by
  cases t with
  | lf l => exact okt_lf l
  | nx l => exact ⟨by decide +kernel, okt_lf l⟩
  | pl l m => exact ⟨by decide +kernel, okt_lf l, okt_lf m⟩
  | ti l m => exact ⟨by decide +kernel, okt_lf l, okt_lf m⟩
theorem okt_sy : ∀ s : Sy, s.tr.Ok
  | .same a b => ⟨by decide +kernel, okt_tm a, okt_tm b⟩
  | .no => by
    show leafy "no" = false
    decide +kernel
  | .and a b => ⟨by decide +kernel, okt_sy a, okt_sy b⟩
  | .cond a b => ⟨by decide +kernel, okt_sy a, okt_sy b⟩
  | .or a b => ⟨by decide +kernel, okt_sy a, okt_sy b⟩
  | .some a => ⟨by decide +kernel, okt_sy a⟩
/-! ### a number in the place of a bound -/
theorem sub_lf (n : Nat) (l : Lf) (r : Nat) : sub Kf.bnd (fun _ => (Lf.num n).tr) l.tr r = (l.at n r).tr := by
  unfold sub
  cases l with
  | num m =>
    have e : ¬ PyData.eqv (Lf.num m).tr.dat (Kf.bnd r).dat = true := fun e => by
      have z := (eqv_dat _ _ (okt_lf (.num m)) (ok_bnd r)).mp e
      have z2 : Tr.leaf ("num" : Str) (.int (m : Int)) = Tr.leaf "bound" (.int (r : Int)) := z
      injection z2 with z3
      exact absurd z3 (by decide +kernel)
    rw [if_neg e]
    rfl
  | bnd k =>
    show (if PyData.eqv (Lf.bnd k).tr.dat (Kf.bnd r).dat = true then _ else _) = (if k = r then Lf.num n else Lf.bnd k).tr
    have e := eqv_dat _ _ (okt_lf (.bnd k)) (ok_bnd r)
    by_cases c : k = r
    · rw [if_pos (e.mpr (by rw [c]; rfl)), if_pos c]
    · rw [if_neg (fun z => c (by
        have z2 : Tr.leaf ("bound" : Str) (.int (k : Int)) = Tr.leaf "bound" (.int (r : Int)) := e.mp z
        injection z2 with _ z3
        injection z3 with z4
        omega)), if_neg c]
theorem chg_lf (n : Nat) (l : Lf) (r : Nat) : chg (sub Kf.bnd fun _ => (Lf.num n).tr) l.tr r = (l.at n r).tr := by
  cases l with
  | num m => exact sub_lf n (.num m) r
  | bnd k => exact sub_lf n (.bnd k) r
theorem chg_tm (n : Nat) (t : Tm) (r : Nat) : chg (sub Kf.bnd fun _ => (Lf.num n).tr) t.tr r = (t.at n r).tr := by
  have i1 : inner "next" r = r := if_neg (by decide +kernel)
  have i2 : inner "plus" r = r := if_neg (by decide +kernel)
  have i3 : inner "times" r = r := if_neg (by decide +kernel)
  cases t with
  | lf l => exact chg_lf n l r
  | nx l =>
    show Tr.n1 "next" (chg _ l.tr (inner "next" r)) = Tr.n1 "next" (l.at n r).tr
    rw [i1, chg_lf]
  | pl l m =>
    show Tr.n2 "plus" (chg _ l.tr (inner "plus" r)) (chg _ m.tr (inner "plus" r)) = Tr.n2 "plus" (l.at n r).tr (m.at n r).tr
    rw [i2, chg_lf, chg_lf]
  | ti l m =>
    show Tr.n2 "times" (chg _ l.tr (inner "times" r)) (chg _ m.tr (inner "times" r)) = Tr.n2 "times" (l.at n r).tr (m.at n r).tr
    rw [i3, chg_lf, chg_lf]
theorem chg_sy (n : Nat) : ∀ (s : Sy) (r : Nat), chg (sub Kf.bnd fun _ => (Lf.num n).tr) s.tr r = (s.at n r).tr
  | .same a b, r => by
    have i : inner "same" r = r := if_neg (by decide +kernel)
    show Tr.n2 "same" (chg _ a.tr (inner "same" r)) (chg _ b.tr (inner "same" r)) = Tr.n2 "same" (a.at n r).tr (b.at n r).tr
    rw [i, chg_tm, chg_tm]
  | .no, r => rfl
  | .and a b, r => by
    have i : inner "and" r = r := if_neg (by decide +kernel)
    show Tr.n2 "and" (chg _ a.tr (inner "and" r)) (chg _ b.tr (inner "and" r)) = Tr.n2 "and" (a.at n r).tr (b.at n r).tr
    rw [i, chg_sy n a, chg_sy n b]
  | .cond a b, r => by
    have i : inner "if" r = r := if_neg (by decide +kernel)
    show Tr.n2 "if" (chg _ a.tr (inner "if" r)) (chg _ b.tr (inner "if" r)) = Tr.n2 "if" (a.at n r).tr (b.at n r).tr
    rw [i, chg_sy n a, chg_sy n b]
  | .or a b, r => by
    have i : inner "or" r = r := if_neg (by decide +kernel)
    show Tr.n2 "or" (chg _ a.tr (inner "or" r)) (chg _ b.tr (inner "or" r)) = Tr.n2 "or" (a.at n r).tr (b.at n r).tr
    rw [i, chg_sy n a, chg_sy n b]
  | .some a, r => by
    have i : inner "some" r = r + 1 := if_pos (by decide +kernel)
    show Tr.n1 "some" (chg _ a.tr (inner "some" r)) = Tr.n1 "some" (a.at n (r + 1)).tr
    rw [i, chg_sy n a]
theorem put_sy (n : Nat) (s : Sy) : putB (Lf.num n).tr s.tr = (s.at n 0).tr := chg_sy n s 0
theorem flat_tr : ∀ s : Sy, flatB s.tr = s.flat
  | .same a b => rfl
  | .no => rfl
  | .and a b => by
    show flatB (.n2 "and" a.tr b.tr) = (a.flat && b.flat)
    rw [flatB_n2, if_neg (by decide +kernel), if_neg (by decide +kernel), flat_tr a, flat_tr b]
  | .cond a b => by
    show flatB (.n2 "if" a.tr b.tr) = (a.flat && b.flat)
    rw [flatB_n2, if_neg (by decide +kernel), if_neg (by decide +kernel), flat_tr a, flat_tr b]
  | .or a b => by
    show flatB (.n2 "or" a.tr b.tr) = false
    rw [flatB_n2, if_neg (by decide +kernel), if_pos rfl]
  | .some a => rfl
/-! ### kinds -/
def Sy.kind (s : Sy) : Kd := kdT s.tr
theorem kind_same (a b : Tm) : (Sy.same a b).kind = .none := rfl
theorem kind_no : Sy.no.kind = .none := rfl
theorem kdT_n2 (w : Str) (a b : Tr) : kdT (.n2 w a b) = if w = "same" then .none else if w = "and" then Kd.pairK (kdT a) (kdT b) else if w = "or" then .either (kdT a) (kdT b) else Kd.fromK (kdT a) (kdT b) := rfl
theorem kdT_n1 (w : Str) (a : Tr) : kdT (.n1 w a) = if w = "all" then Kd.fromK .number (kdT a) else Kd.pairK .number (kdT a) := rfl
theorem kind_and (a b : Sy) : (Sy.and a b).kind = Kd.pairK a.kind b.kind := by
  show kdT (.n2 "and" a.tr b.tr) = _
  rw [kdT_n2, if_neg (by decide +kernel), if_pos rfl]
  rfl
theorem kind_or (a b : Sy) : (Sy.or a b).kind = .either a.kind b.kind := by
  show kdT (.n2 "or" a.tr b.tr) = _
  rw [kdT_n2, if_neg (by decide +kernel), if_neg (by decide +kernel), if_pos rfl]
  rfl
theorem kind_cond (a b : Sy) : (Sy.cond a b).kind = Kd.fromK a.kind b.kind := by
  show kdT (.n2 "if" a.tr b.tr) = _
  rw [kdT_n2, if_neg (by decide +kernel), if_neg (by decide +kernel), if_neg (by decide +kernel)]
  rfl
theorem kind_some (a : Sy) : (Sy.some a).kind = Kd.pairK .number a.kind := by
  show kdT (.n1 "some" a.tr) = _
  rw [kdT_n1, if_neg (by decide +kernel)]
  rfl
theorem kind_flat : ∀ {s : Sy} {c : Nat}, s.Ok c → (s.kind = .none ↔ s.flat = true)
  | .same a b, _, _ => by
    rw [kind_same]
    exact ⟨fun _ => rfl, fun _ => rfl⟩
  | .no, _, _ => ⟨fun _ => rfl, fun _ => rfl⟩
  | .and a b, c, h => by
    have ha := kind_flat h.1
    have hb := kind_flat h.2
    rw [kind_and]
    show _ ↔ (a.flat && b.flat) = true
    rw [Bool.and_eq_true, ← ha, ← hb]
    unfold Kd.pairK
    by_cases ca : a.kind = .none
    · rw [if_pos ca]
      exact ⟨fun h => ⟨ca, h⟩, fun h => h.2⟩
    · rw [if_neg ca]
      by_cases cb : b.kind = .none
      · rw [if_pos cb]
        exact ⟨fun h => absurd h ca, fun h => absurd h.1 ca⟩
      · rw [if_neg cb]
        exact ⟨fun h => (by cases h), fun h => absurd h.1 ca⟩
  | .cond a b, c, h => by
    have ha := kind_flat h.2.1
    have hb := kind_flat h.2.2
    have e : a.kind = .none := ha.mpr h.1
    rw [kind_cond]
    show _ ↔ (a.flat && b.flat) = true
    unfold Kd.fromK
    rw [if_pos (.inl e), h.1, Bool.true_and]
    exact hb
  | .or a b, c, h => by
    rw [kind_or]
    exact ⟨fun h => (by cases h), fun h => (by cases h)⟩
  | .some a, c, h => by
    rw [kind_some]
    unfold Kd.pairK
    rw [if_neg (by intro z; cases z)]
    split
    · exact ⟨fun h => (by cases h), fun h => (by cases h)⟩
    · exact ⟨fun h => (by cases h), fun h => (by cases h)⟩
end Kf
set_option Elab.async false
set_option linter.all false
set_option maxRecDepth 100000
set_option maxHeartbeats 8000000
set_option pp.maxSteps 500
/-! is_worth of anything. -/
namespace Kf
open PySem PySem.Spec PyProof.Rows L2 Sx
abbrev sWhole : Stmt := top 21
theorem scWhole : FnScope ["thing"] ["thing"] (defScope sWhole) := ⟨rfl, rfl, rfl, by decide +kernel, rfl, by decide +kernel, by decide +kernel⟩
abbrev sTwo : Stmt := top 24
theorem scTwo : FnScope ["thing"] ["thing"] (defScope sTwo) := ⟨rfl, rfl, rfl, by decide +kernel, rfl, by decide +kernel, by decide +kernel⟩
abbrev sIW : Stmt := top 25
abbrev iwN : List Str := ["kind", "thing", "todo", "piece", "part", "fits"]
theorem scIW : FnScope iwN ["kind", "thing"] (defScope sIW) := ⟨rfl, rfl, rfl, by decide +kernel, rfl, by decide +kernel, by decide +kernel⟩
theorem condT {b : Bool} {A B : Prop} (h : b = true) (a : A) : if b = true then A else B := by rw [if_pos h]; exact a
theorem condF {b : Bool} {A B : Prop} (h : b = false) (a : B) : if b = true then A else B := by rw [if_neg (by rw [h]; exact Bool.false_ne_true)]; exact a
theorem wdT {a b : Str} {A B : Prop} (e : a = b) (h : A) : if decide (V.str a = V.str b) = true then A else B := condT (by rw [e]; exact decide_eq_true rfl) h
theorem wdF {a b : Str} {A B : Prop} (n : (a == b) = false) (h : B) : if decide (V.str a = V.str b) = true then A else B := condF (decide_eq_false (fun e => by
  injection e with e
  rw [e] at n
  simp at n)) h
theorem same_trans {A B C : Hp} (h : Same A B) (k : Same B C) : Same A C := fun a o e => k a o (h a o e)
def NoTbl (H H' : Hp) : Prop := ∀ a o, (∀ ps, o ≠ .tbl ps) → H a = some o → H' a = some o
theorem nt_same {H H' : Hp} (s : Same H H') : NoTbl H H' := fun c o _ e => s c o e
theorem sqL_nt {K : PySem.W.Frag} {H H' : Hp} {a : Addr} {xs : List V} (b : NoTbl H H') (h : SqL K H a xs) : SqL K H' a xs := by
  rcases h with (h | ⟨o, h⟩) | h
  · exact .inl (.inl (b _ _ (fun ps z => by cases z) h))
  · exact .inl (.inr ⟨o, b _ _ (fun ps z => by cases z) h⟩)
  · exact .inr h
theorem sqT_nt {K : PySem.W.Frag} {H H' : Hp} {a : Addr} {xs : List V} (b : NoTbl H H') (h : SqT K H a xs) : SqT K H' a xs := by
  rcases h with (h | ⟨o, h⟩) | h
  · exact .inl (.inl (b _ _ (fun ps z => by cases z) h))
  · exact .inl (.inr ⟨o, b _ _ (fun ps z => by cases z) h⟩)
  · exact .inr h
mutual
theorem dp_nt {K : PySem.W.Frag} {H H' : Hp} (s : NoTbl H H') : ∀ (d : PyData) (v : V), Dp K H v d → Dp K H' v d
  | .none, _, h => by cases h; exact .non
  | .bool b, _, h => by cases h; exact .bl b
  | .int b, _, h => by cases h; exact .int b
  | .str b, _, h => by cases h; exact .str b
  | .list ds, _, h => by
    cases h with
    | lst h a => exact .lst (sqL_nt s h) (dps_nt s ds _ a)
  | .tuple ds, _, h => by
    cases h with
    | tup h a => exact .tup (sqT_nt s h) (dps_nt s ds _ a)
  | .dict _, _, h => by cases h
theorem dps_nt {K : PySem.W.Frag} {H H' : Hp} (s : NoTbl H H') : ∀ (ds : List PyData) (vs : List V), DpAll K H vs ds → DpAll K H' vs ds
  | [], _, h => by cases h; exact .nil
  | d :: ds, _, h => by
    cases h with
    | cons a b => exact .cons (dp_nt s d _ a) (dps_nt s ds _ b)
end

theorem sqT_of_tups {K : PySem.W.Frag} {H : Hp} {a : Addr} {xs : List V} (h : SqT K (tups H) a xs) : SqT K H a xs := sqT_up tups_in h
structure TxW (mg : Str → Option Value) : Prop where
  zIs : mg "isinstance" = none
  zInt : mg "int" = none
  zBool : mg "bool" = none
structure ZW (mg : Str → Option Value) : Prop where
  zLen : mg "len" = none
  zIsinstance : mg "isinstance" = none
  zTuple : mg "tuple" = none
def isTwo : PyData → Bool
  | .tuple [_, _] => true
  | _ => false
def numD : PyData → Bool
  | .int i => decide ((0 : Int) ≤ i) && decide (i < 10 ^ 60)
  | _ => false
def isN : PyData → Bool
  | .none => true
  | _ => false
/-- a worth of a kind -/
def fitsD : Kd → PyData → Bool
  | .none, d => isN d
  | .number, d => numD d
  | .pair a b, .tuple [x, y] => fitsD a x && fitsD b y
  | .pair _ _, _ => false
  | .frm _ _, _ => false
  | .either a b, .tuple [.str z, y] => if z = "this" then fitsD a y else if z = "that" then fitsD b y else false
  | .either _ _, _ => false
theorem fits_pair2 (a b : Kd) {d : PyData} (h : isTwo d = false) : fitsD (.pair a b) d = false := by
  cases d with
  | tuple ds =>
    match ds, h with
    | [], _ => rfl
    | [_], _ => rfl
    | _ :: _ :: _ :: _, _ => rfl
  | _ => rfl
theorem fits_either2 (a b : Kd) {d : PyData} (h : isTwo d = false) : fitsD (.either a b) d = false := by
  cases d with
  | tuple ds =>
    match ds, h with
    | [], _ => rfl
    | [x], _ => cases x <;> rfl
    | x :: _ :: _ :: _, _ => cases x <;> rfl
  | _ => rfl
/-- the first of two is a side's word -/
def sideD : PyData → Bool
  | .str z => decide (z = "this") || decide (z = "that")
  | _ => false
theorem fits_either3 (a b : Kd) {x y : PyData} (h : sideD x = false) : fitsD (.either a b) (.tuple [x, y]) = false := by
  cases x with
  | str z =>
    have h : (decide (z = "this") || decide (z = "that")) = false := h
    rw [Bool.or_eq_false_iff] at h
    show (if z = "this" then fitsD a y else if z = "that" then fitsD b y else false) = false
    rw [if_neg (of_decide_eq_false h.1), if_neg (of_decide_eq_false h.2)]
  | _ => rfl
theorem side_in (x : PyData) : ([PyData.str "this", PyData.str "that"].any fun z => PyData.eqv z x) = sideD x := by
  cases x with
  | str z =>
    show (PyData.eqv (.str "this") (.str z) || (PyData.eqv (.str "that") (.str z) || false)) = _
    rw [s_eqv, s_eqv, Bool.or_false]
    show _ = (decide (z = "this") || decide (z = "that"))
    rw [decide_eq_decide.mpr (by exact ⟨Eq.symm, Eq.symm⟩ : (("this" : Str) = z) ↔ (z = "this")), decide_eq_decide.mpr (by exact ⟨Eq.symm, Eq.symm⟩ : (("that" : Str) = z) ↔ (z = "that"))]
  | none => rfl
  | bool b => rfl
  | int i => rfl
  | list ds => rfl
  | tuple ds => rfl
  | dict ds => rfl
def szq : List (Kd × PyData) → Nat
  | [] => 0
  | q :: r => q.1.size + szq r
theorem szq_app (a b : List (Kd × PyData)) : szq (a ++ b) = szq a + szq b := by
  induction a with
  | nil => simp [szq]
  | cons q r ih =>
    show q.1.size + szq (r ++ b) = q.1.size + szq r + szq b
    omega
theorem kd_size1 (k : Kd) : 1 ≤ k.size := by cases k <;> simp [Kd.size]
theorem len_szq : ∀ ks : List (Kd × PyData), ks.length ≤ szq ks
  | [] => Nat.le_refl _
  | q :: r => by
    have := len_szq r
    have := kd_size1 q.1
    show r.length + 1 ≤ q.1.size + szq r
    omega
section
variable {P : Program} {w : World} {K : PySem.W.Frag} {mg : Str → Option Value} {base : Heap} {f fTw fW : Addr} {fd dTw dW : FuncData} {t0 : Tok}
def wholeD (d : PyData) : Bool := isI d && !isB d
def spWhole (K : PySem.W.Frag) : Sp := fun vs H Q _ => ∃ (v : V) (d : PyData), vs = [v] ∧ Dp K H v d ∧ Q (.bl (wholeD d)) H
theorem ok_whole {f : Addr} {fd : FuncData} {j : Nat} (F : Fun K "is_whole" "is_whole" sWhole f fd) (T : TxW mg) : FnOk P w K mg base CX0 (j + 1) f fd ["thing"] (spWhole K) := by
  refine F.ok scWhole (fun vs H Q E h => ?_) (fun cdv A outer s H vs Q E hr h => ?_)
  · obtain ⟨v, d, rfl, _⟩ := h
    rfl
  obtain ⟨v, d, rfl, hd, q⟩ := h
  refine ⟨_, pss_one (ps_ret (pe_and (pe_callB call_isi (by rfl) T.zIs (by decide +kernel) (pa_cons (pv 0) (pa_cons (pe_bltn (v := .ty "int") (by rfl) T.zInt (by decide +kernel) rfl) pa_nil)))
    (pe_one (pe_not (pe_callB call_isi (by rfl) T.zIs (by decide +kernel) (pa_cons (pv 0) (pa_cons (pe_bltn (v := .ty "bool") (by rfl) T.zBool (by decide +kernel) rfl) pa_nil))))))), ?_⟩
  refine ⟨_, rfl, _, _, _, _, isI d, rfl, .ty "int", dp_ty hd, kit_i d, _, rfl, ?_⟩
  unfold wholeD at q
  cases hi : isI d with
  | false =>
    rw [hi] at q
    exact iteF q
  | true =>
    rw [hi] at q
    refine iteT ⟨_, rfl, _, _, _, _, isB d, rfl, .ty "bool", dp_ty hd, kit_b d, _, rfl, ?_⟩
    exact q

def spTwoX (K : PySem.W.Frag) : Sp := fun vs H Q _ => ∃ (v : V) (d : PyData), vs = [v] ∧ Dp K H v d ∧ Q (.bl (isTwo d)) H
theorem two_len {K : PySem.W.Frag} {H : Hp} {xs : List V} {ds : List PyData} (h : DpAll K H xs ds) : decide (V.int (xs.length : Int) = V.int 2) = isTwo (.tuple ds) := by
  have l := dps_len h
  match ds, l with
  | [], l => rw [l]; rfl
  | [_], l => rw [l]; rfl
  | [_, _], l => rw [l]; rfl
  | _ :: _ :: _ :: r, l =>
    rw [l]
    refine decide_eq_false (fun z => ?_)
    injection z with z
    simp only [List.length_cons] at z
    omega
theorem ok_two (F : Fun K "is_two" "is_two" sTwo f fd) (Z : ZW mg) : FnOk P w K mg base CX0 1 f fd ["thing"] (spTwoX K) := by
  refine F.ok scTwo (fun vs H Q E h => ?_) (fun cdv Ar outer s0 H vs Q E hr h => ?_)
  · obtain ⟨v, d, rfl, _⟩ := h
    rfl
  obtain ⟨v, d, rfl, hd, q⟩ := h
  refine ⟨_, (pss_one (ps_ret (pe_and (pe_callB call_isi (by rfl) Z.zIsinstance (by decide +kernel) (pa_cons (pv 0) (pa_cons (pe_bltn (v := .ty "tuple") (by rfl) Z.zTuple (by decide +kernel) rfl) pa_nil))) (pe_one (pe_cmpR op_eq (pe_callB call_len_seq (by rfl) Z.zLen PySem.boot_len (pa_cons (pv 0) pa_nil)) pe_int (nomark _)))))), ?_⟩
  refine ⟨_, rfl, _, _, _, _, isTu d, rfl, .ty "tuple", dp_ty hd, kit_tu _, ?_⟩
  cases ht : isTu d with
  | false =>
    refine ⟨_, rfl, condF rfl ?_⟩
    have e : isTwo d = false := by
      cases d with
      | tuple _ => cases ht
      | _ => rfl
    rw [e] at q
    exact q
  | true =>
    refine ⟨_, rfl, condT rfl ?_⟩
    cases d with
    | tuple ds =>
      cases hd with
      | @tup p xs _ hs ha =>
      refine ⟨_, rfl, p, xs, rfl, .inr hs, rfl, ?_⟩
      show Q (V.bl (decide (V.int (xs.length : Int) = V.int 2))) H
      rw [two_len ha]
      exact q
    | _ => cases ht
/-- a kind and what is to be of it: the thing stands in the heap at first -/
def PrX (K : PySem.W.Frag) (H X : Hp) (u : V) (q : Kd × PyData) : Prop := ∃ (a : Addr) (kv v : V), u = .ref a ∧ X a = some (.tup [kv, v]) ∧ Dp K H kv (kdD q.1) ∧ Dp K H v q.2 ∧ ats q.2 = true
theorem PrX.keep {H X X' : Hp} (t : Tups X X') {u : V} {q : Kd × PyData} (h : PrX K H X u q) : PrX K H X' u q := by
  obtain ⟨a, kv, v, e, h1, h2, h3⟩ := h
  exact ⟨a, kv, v, e, t _ _ h1, h2, h3⟩
def spIWX (K : PySem.W.Frag) : Sp := fun vs H Q _ => ∃ (kv v : V) (k : Kd) (d : PyData), vs = [kv, v] ∧ Dp K H kv (kdD k) ∧ Dp K H v d ∧ ats d = true ∧ k.size ≤ 20000 ∧ ∀ H', Same H H' → Q (.bl (fitsD k d)) H'
theorem Dp.view {H : Hp} {v : V} {ds : List PyData} (h : Dp K H v (.tuple ds)) : ∃ a xs, v = .ref a ∧ SqT K H a xs ∧ DpAll K H xs ds := by
  cases h with
  | tup hs ha => exact ⟨_, _, rfl, hs, ha⟩
theorem non_is {H : Hp} {v : V} {d : PyData} (h : Dp K H v d) : decide (v = .non) = isN d := by
  cases d with
  | none => cases h; rfl
  | bool b => cases h; rfl
  | int i => cases h; rfl
  | str z => cases h; rfl
  | list ds => cases h; rfl
  | tuple ds => cases h; rfl
  | dict ds => cases h
theorem sq2 {X : Hp} {a : Addr} {xs : List V} (l : Addr) {ys zs : List V} (h : SqT K X a xs) (e : X l = some (.lst ys)) : SqT K (upd X l (.lst zs)) a xs := by
  rcases h with (h | ⟨o, h⟩) | h
  · exact .inl (.inl (tups_lst e _ _ h))
  · exact .inl (.inr ⟨o, by
      rw [upd_ne (ne_of h e (by intro z; cases z))]
      exact h⟩)
  · exact .inr h
theorem ok_iwx (F : Fun K "is_worth" "is_worth" sIW f fd) (mTG : mg "TOO_GREAT" = some (.int (10 ^ 60) t0)) (GTw : FnOk P w K mg base CX0 1 fTw dTw ["thing"] (spTwoX K)) (bTw : Binds K dTw ["thing"] []) (kTw : PySem.W.keepIn K (.ref fTw) = true) (mTw : mg "is_two" = some (.ref fTw))
    (GW : FnOk P w K mg base CX0 1 fW dW ["thing"] (spWhole K)) (bW : Binds K dW ["thing"] []) (kW : PySem.W.keepIn K (.ref fW) = true) (mW : mg "is_whole" = some (.ref fW)) : FnOk P w K mg base CX0 2 f fd ["kind", "thing"] (spIWX K) := by
  refine F.ok scIW (fun vs H Q E h => ?_) (fun cdv Ar outer s0 H vs Q E hr h => ?_)
  · obtain ⟨kv, v, k, x, rfl, _⟩ := h
    rfl
  have h1 : Room 1 _ := hr
  have u1 : (Ar.deeper (envOfC "is_worth" (defScope sIW) s0.heap.objs.size f cdv)).units + 130 < cLine := by
    have := hr.un
    omega
  obtain ⟨kv, v, k, d, rfl, hk, hv, ha, sz0, q⟩ := h
  refine ⟨_, (pss_cons (ps_set (i := 2) scIW.nd rfl (.inl rfl) (pe_lst (pa_cons (pe_tup (pa_cons (pv 0) (pa_cons (pv 1) pa_nil))) pa_nil)))
    (pss_cons (ps_while PassesOwn.never (pt_truth (pv 2) (by intro _; rfl)) (pss_cons (ps_asg (pe_bm0 PySem.F.plainAttrs_list PySem.F.slot_list_pop PySem.F.type_list_pop mt_pop (pv 2)) (pg_tup (by rfl) (pgs_cons (pg_name (i := 3) scIW.nd rfl (.inl rfl)) (pgs_cons (pg_name (i := 4) scIW.nd rfl (.inl rfl)) pgs_nil))))
    (pss_cons (ps_if (pt_cmpR op_eq (pe_ix ix_tup (pv 3) pe_int (fun _ _ => rfl)) pe_str (nomark _)) (pss_one (ps_set (i := 5) scIW.nd rfl (.inl rfl) (pe_cmpR op_isN (pv 4) pe_non (nomark _)))) (pss_one (ps_if (pt_cmpR op_eq (pe_ix ix_tup (pv 3) pe_int (fun _ _ => rfl)) pe_str (nomark _)) (pss_one (ps_set (i := 5) scIW.nd rfl (.inl rfl) (pe_and (pe_call GW h1 (by rfl) mW kW bW .nil pass0 (pa_cons (pv 4) pa_nil)) (pe_one (pe_chain op_le op_lt pe_int (pv 4) (pe_glob (v := .int (10 ^ 60)) (by rfl) mTG ⟨_, rfl⟩)))))) (pss_one (ps_if (pt_cmpR op_eq (pe_ix ix_tup (pv 3) pe_int (fun _ _ => rfl)) pe_str (nomark _)) (pss_cons (ps_set (i := 5) scIW.nd rfl (.inl rfl) (pe_call GTw h1 (by rfl) mTw kTw bTw .nil pass0 (pa_cons (pv 4) pa_nil)))
    (pss_one (ps_if (pt_val (pv 5)) (pss_cons (ps_expr (pe_bm PySem.F.plainAttrs_list PySem.F.slot_list_append PySem.F.type_list_append mt_append (pv 2) (pa_cons (pe_tup (pa_cons (pe_ix ix_tup (pv 3) pe_int (fun _ _ => rfl)) (pa_cons (pe_ix ix_tup (pv 4) pe_int (fun _ _ => rfl)) pa_nil))) pa_nil)))
    (pss_one (ps_expr (pe_bm PySem.F.plainAttrs_list PySem.F.slot_list_append PySem.F.type_list_append mt_append (pv 2) (pa_cons (pe_tup (pa_cons (pe_ix ix_tup (pv 3) pe_int (fun _ _ => rfl)) (pa_cons (pe_ix ix_tup (pv 4) pe_int (fun _ _ => rfl)) pa_nil))) pa_nil))))) pss_nil))) (pss_cons (ps_set (i := 5) scIW.nd rfl (.inl rfl) (pe_and (pe_cmpR op_eq (pe_ix ix_tup (pv 3) pe_int (fun _ _ => rfl)) pe_str (nomark _)) (pe_and (pe_call GTw h1 (by rfl) mTw kTw bTw .nil pass0 (pa_cons (pv 4) pa_nil)) (pe_one (pe_cmpR (op_inW u1) (pe_ix ix_tup (pv 4) pe_int (fun _ _ => rfl)) (pe_tup (pa_cons pe_str (pa_cons pe_str pa_nil))) (by rfl))))))
    (pss_one (ps_if (pt_val (pv 5)) (pss_one (ps_expr (pe_bm PySem.F.plainAttrs_list PySem.F.slot_list_append PySem.F.type_list_append mt_append (pv 2) (pa_cons (pe_tup (pa_cons (pe_ix ix_tup (pv 3) (pe_ifExp (pt_cmpR op_eq (pe_ix ix_tup (pv 4) pe_int (fun _ _ => rfl)) pe_str (nomark _)) pe_int pe_int) (fun _ _ => rfl)) (pa_cons (pe_ix ix_tup (pv 4) pe_int (fun _ _ => rfl)) pa_nil))) pa_nil)))) pss_nil))))))))
    (pss_one (ps_if (pt_not (pt_val (pv 5))) (pss_one (ps_ret pe_bl)) pss_nil)))))
    (pss_one (ps_ret pe_bl)))), ?_⟩
  have big : 100000 ≤ sizeLine := by decide
  refine ⟨_, rfl, _, rfl, (by decide : 2 ≤ sizeLine), fun q0 nq => ⟨(by decide : 1 ≤ sizeLine), fun l nl0 => ?_⟩⟩
  have s0' := same_new (o := HO.tup [kv, v]) nq
  have nl : H l = none := by
    cases e : H l with
    | none => rfl
    | some o =>
      have z := s0' _ _ e
      rw [nl0] at z
      cases z
  have s1 := same_put (o := HO.lst [.ref q0]) s0' nl0
  have tq : upd (upd H q0 (.tup [kv, v])) l (.lst [.ref q0]) q0 = some (.tup [kv, v]) := same_new nl0 _ _ upd_same
  refine ⟨fun mm σ X => ∃ (us : List V) (ks : List (Kd × PyData)) (y3 y4 y5 : Option V), σ = [some kv, some v, some (.ref l), y3, y4, y5] ∧ X l = some (.lst us) ∧ Same H X ∧ All2 (PrX K H X) us ks ∧ szq ks ≤ mm ∧ mm ≤ 20001 ∧ fitsD k d = ks.all fun e => fitsD e.1 e.2,
    ⟨k.size, [.ref q0], [(k, d)], none, none, none, rfl, upd_same, s1, .one ⟨q0, kv, v, rfl, tq, hk, hv, ha⟩, by simp [szq], by omega, by simp⟩, ?_⟩
  rintro mm σ X ⟨us, ks, y3, y4, y5, rfl, hl, sm, al, sz, m40, ev⟩
  refine ⟨_, rfl, !us.isEmpty, .inl ⟨us, .inl (.inl hl), rfl⟩, ?_⟩
  rcases List.eq_nil_or_concat ks with en | ⟨ks0, k1, en⟩
  · subst en
    cases al
    have q := q X sm
    rw [ev] at q
    exact iteF q
  rw [List.concat_eq_append] at en
  subst en
  obtain ⟨us0, u, rfl, al0, hu⟩ := al.last
  have l0 := al0.len
  rw [szq_app] at sz
  obtain ⟨k1, d1⟩ := k1
  have sz : szq ks0 + (k1.size + 0) ≤ mm := sz
  have p1 := kd_size1 k1
  have ln := len_szq ks0
  rw [List.all_append] at ev
  have ev : fitsD k d = (ks0.all (fun e => fitsD e.1 e.2) && (fitsD k1 d1 && true)) := ev
  rw [Bool.and_true] at ev
  refine condT (by simp) ⟨fun σ' X' => ∃ m', m' < mm ∧ ∃ (us : List V) (ks : List (Kd × PyData)) (y3 y4 y5 : Option V), σ' = [some kv, some v, some (.ref l), y3, y4, y5] ∧ X' l = some (.lst us) ∧ Same H X' ∧ All2 (PrX K H X') us ks ∧ szq ks ≤ m' ∧ m' ≤ 20001 ∧ fitsD k d = ks.all fun e => fitsD e.1 e.2, fun _ _ h => h, ?_⟩
  refine ⟨_, rfl, .inl ⟨rfl, _, .inl (.inl hl)⟩, l, _, u, rfl, rfl, hl, ?_, ?_⟩
  · rw [List.length_append, List.length_singleton, Nat.add_sub_cancel, List.getElem?_append_right (Nat.le_refl _), Nat.sub_self]
    rfl
  rw [List.dropLast_concat]
  have t2 : Tups X (upd X l (.lst us0)) := tups_lst hl
  have s2 : Same H (upd X l (.lst us0)) := same_own sm nl
  have hl2 : upd X l (.lst us0) l = some (.lst us0) := upd_same
  have al2 : All2 (PrX K H (upd X l (.lst us0))) us0 ks0 := al0.mono fun _ _ h => PrX.keep t2 h
  obtain ⟨qi, vk, vx, rfl, hqi, hk2, hx0, at1⟩ := PrX.keep t2 hu
  change Dp K H vk (kdD k1) at hk2
  change Dp K H vx d1 at hx0
  change ats d1 = true at at1
  clear t2 al0 hu hl sm
  generalize upd X l (.lst us0) = X2 at s2 hl2 al2 hk2 hqi
  have hx2 : Dp K X2 vx d1 := dp_up s2 _ _ hx0
  have qn : fitsD k1 d1 = false → ∀ X', Same H X' → Q (.bl false) X' := fun e X' s => by
    have z := q X' s
    rw [ev, e, Bool.and_false] at z
    exact z
  refine ⟨qi, [vk, vx], rfl, .inl (.inl hqi), rfl, vk, [vx], rfl, vx, [], rfl, rfl, ?_⟩
  have fin : fitsD k1 d1 = true → ∀ (X3 : Hp), Same X2 X3 → ∀ y5 : Option V, ∃ m', m' < mm ∧ ∃ (us : List V) (ks : List (Kd × PyData)) (y3 y4 y5' : Option V), [some kv, some v, some (.ref l), some vk, some vx, y5] = [some kv, some v, some (.ref l), y3, y4, y5'] ∧ X3 l = some (.lst us) ∧ Same H X3 ∧ All2 (PrX K H X3) us ks ∧ szq ks ≤ m' ∧ m' ≤ 20001 ∧ fitsD k d = ks.all fun e => fitsD e.1 e.2 := fun e X3 s3 y5 =>
    ⟨mm - 1, by omega, us0, ks0, _, _, y5, rfl, s3 _ _ hl2, same_trans s2 s3, al2.mono fun _ _ h => PrX.keep (tups_same s3) h, by omega, by omega, by rw [ev, e, Bool.and_true]⟩
  cases k1 with
  | none =>
    obtain ⟨qp, xs, rfl, hs, hx⟩ := Dp.view (show Dp K H vk (.tuple [.str "none"]) from hk2)
    have hs := sqT_up s2 hs
    cases hx with
    | cons h1 hx =>
    cases h1
    cases hx
    refine ⟨_, rfl, qp, _, 0, _, rfl, rfl, hs, head_at _ _, rfl, _, rfl, wdT rfl ⟨_, rfl, rfl, ?_⟩⟩
    rw [non_is hx2]
    refine ⟨_, rfl, _, rfl, ?_⟩
    cases c : isN d1 with
    | true => exact condF rfl (fin c X2 (fun _ _ e => e) _)
    | false => exact condT rfl (qn c X2 s2)
  | number =>
    obtain ⟨qp, xs, rfl, hs, hx⟩ := Dp.view (show Dp K H vk (.tuple [.str "number"]) from hk2)
    have hs := sqT_up s2 hs
    cases hx with
    | cons h1 hx =>
    cases h1
    cases hx
    refine ⟨_, rfl, qp, _, 0, _, rfl, rfl, hs, head_at _ _, rfl, _, rfl, wdF (by decide +kernel) ?_⟩
    refine ⟨_, rfl, qp, _, 0, _, rfl, rfl, hs, head_at _ _, rfl, _, rfl, wdT rfl ?_⟩
    refine ⟨_, rfl, _, _, rfl, hx2, _, rfl, ?_⟩
    cases c : wholeD d1 with
    | false =>
      refine condF rfl ⟨_, rfl, _, rfl, condT rfl (qn ?_ X2 s2)⟩
      cases d1 with
      | int i => cases c
      | _ => rfl
    | true =>
      refine condT rfl ?_
      obtain ⟨i, rfl⟩ : ∃ i, d1 = .int i := by
        cases d1 with
        | int i => exact ⟨i, rfl⟩
        | bool b => cases c
        | none => cases c
        | str z => cases c
        | list z => cases c
        | tuple z => cases c
        | dict z => cases c
      cases hx2
      refine ⟨_, rfl, _, _, rfl, rfl, _, rfl, ?_⟩
      cases c0 : decide ((0 : Int) ≤ i) with
      | false =>
        refine condF rfl ⟨_, rfl, _, rfl, condT rfl (qn ?_ X2 s2)⟩
        show (decide ((0 : Int) ≤ i) && _) = false
        rw [c0]
        rfl
      | true =>
        refine condT rfl ⟨_, _, rfl, rfl, ?_⟩
        refine ⟨_, rfl, _, rfl, ?_⟩
        have e2 : fitsD .number (.int i) = decide (i < 10 ^ 60) := by
          show (decide ((0 : Int) ≤ i) && decide (i < 10 ^ 60)) = _
          rw [c0]
          rfl
        cases c1 : decide (i < 10 ^ 60) with
        | true => exact condF rfl (fin (e2.trans c1) X2 (fun _ _ e => e) _)
        | false => exact condT rfl (qn (e2.trans c1) X2 s2)
  | pair ka kb =>
    obtain ⟨qp, xs, rfl, hs, hx⟩ := Dp.view (show Dp K H vk (.tuple [.str "pair", kdD ka, kdD kb]) from hk2)
    have hs := sqT_up s2 hs
    cases hx with
    | cons h1 hx =>
    cases h1
    cases hx with
    | @cons va _ _ _ ha1 hx =>
    cases hx with
    | @cons vb _ _ _ hb1 hx =>
    cases hx

    refine ⟨_, rfl, qp, _, 0, _, rfl, rfl, hs, head_at _ _, rfl, _, rfl, wdF (by decide +kernel) ?_⟩
    refine ⟨_, rfl, qp, _, 0, _, rfl, rfl, hs, head_at _ _, rfl, _, rfl, wdF (by decide +kernel) ?_⟩
    refine ⟨_, rfl, qp, _, 0, _, rfl, rfl, hs, head_at _ _, rfl, _, rfl, wdT rfl ?_⟩
    refine ⟨_, rfl, vx, d1, rfl, hx2, ?_⟩
    refine ⟨_, rfl, _, rfl, ?_⟩
    cases c : isTwo d1 with
    | false => exact condF rfl ⟨_, rfl, _, rfl, condT rfl (qn (fits_pair2 ka kb c) X2 s2)⟩
    | true =>
      obtain ⟨x, y, rfl⟩ : ∃ x y, d1 = .tuple [x, y] := by
        match d1, c with
        | .tuple [x, y], _ => exact ⟨x, y, rfl⟩
      refine condT rfl ?_
      cases hx0 with
      | @tup qx ys _ hsx0 hxx =>
      cases hxx with
      | @cons ua _ _ _ hua hxx =>
      cases hxx with
      | @cons ub _ _ _ hub hxx =>
      cases hxx
      have hsx : SqT K X2 qx [ua, ub] := sqT_up s2 hsx0
      have atx : ats x = true ∧ ats y = true := by
        have z : (ats x && (ats y && true)) = true := at1
        rw [Bool.and_true, Bool.and_eq_true] at z
        exact z
      refine ⟨_, rfl, .inl ⟨rfl, _, .inl (.inl hl2)⟩, _, rfl, qp, _, 2, _, rfl, rfl, hs, atI_nat (j := 2) rfl, _, rfl, qx, _, 1, _, rfl, rfl, hsx, atI_nat (j := 1) rfl, (by decide : 2 ≤ sizeLine), fun q3 n3 => ?_⟩
      have s3 := same_new (o := HO.tup [vb, ub]) n3
      have zz : szq ks0 + (ka.size + kb.size + 1 + 0) ≤ mm := sz
      refine ⟨l, _, _, rfl, rfl, s3 _ _ hl2, by omega, ?_⟩
      have t4 : Tups (upd X2 q3 (.tup [vb, ub])) (upd (upd X2 q3 (.tup [vb, ub])) l (.lst (us0 ++ [.ref q3]))) := tups_lst (s3 _ _ hl2)
      have t34 := fun {u q} (h : PrX K H X2 u q) => PrX.keep t4 (PrX.keep (tups_same s3) h)
      have h3 : upd (upd X2 q3 (.tup [vb, ub])) l (.lst (us0 ++ [.ref q3])) q3 = some (.tup [vb, ub]) := t4 _ _ upd_same
      have hl4 : upd (upd X2 q3 (.tup [vb, ub])) l (.lst (us0 ++ [.ref q3])) l = some (.lst (us0 ++ [.ref q3])) := upd_same
      have s4 : Same H (upd (upd X2 q3 (.tup [vb, ub])) l (.lst (us0 ++ [.ref q3]))) := same_own (same_trans s2 s3) nl
      have seqk : ∀ {a : Addr} {zs : List V}, SqT K X2 a zs → SqT K (upd (upd X2 q3 (.tup [vb, ub])) l (.lst (us0 ++ [.ref q3]))) a zs := fun h => sq2 l (sqT_up s3 h) (s3 _ _ hl2)
      have al4 : All2 (PrX K H (upd (upd X2 q3 (.tup [vb, ub])) l (.lst (us0 ++ [.ref q3])))) us0 ks0 := al2.mono fun _ _ h => t34 h
      generalize upd (upd X2 q3 (.tup [vb, ub])) l (.lst (us0 ++ [.ref q3])) = X4 at h3 hl4 s4 seqk al4 ⊢
      refine ⟨_, rfl, .inl ⟨rfl, _, .inl (.inl hl4)⟩, _, rfl, qp, _, 1, _, rfl, rfl, seqk hs, atI_nat (j := 1) rfl, _, rfl, qx, _, 0, _, rfl, rfl, seqk hsx, atI_nat (j := 0) rfl, (by decide : 2 ≤ sizeLine), fun q5 n5 => ?_⟩
      have s5 := same_new (o := HO.tup [va, ua]) n5
      refine ⟨l, _, _, rfl, rfl, s5 _ _ hl4, by rw [List.length_append, List.length_singleton]; omega, ?_⟩
      have t6 : Tups (upd X4 q5 (.tup [va, ua])) (upd (upd X4 q5 (.tup [va, ua])) l (.lst (us0 ++ [.ref q3] ++ [.ref q5]))) := tups_lst (s5 _ _ hl4)
      refine ⟨_, rfl, _, rfl, condF rfl ⟨mm - 1, by omega, us0 ++ [.ref q3] ++ [.ref q5], ks0 ++ [(kb, y)] ++ [(ka, x)], _, _, _, rfl, upd_same, same_own (same_trans s4 s5) nl, ?_, ?_, by omega, ?_⟩⟩
      · have kp := fun {u q} (h : PrX K H X4 u q) => PrX.keep t6 (PrX.keep (tups_same s5) h)
        exact ((al4.mono fun _ _ h => kp h).app (.one (kp (show PrX K H X4 _ (kb, y) from ⟨q3, vb, ub, rfl, h3, hb1, hub, atx.2⟩)))).app (.one ⟨q5, va, ua, rfl, t6 _ _ upd_same, ha1, hua, atx.1⟩)
      · rw [szq_app, szq_app]
        show szq ks0 + (kb.size + 0) + (ka.size + 0) ≤ mm - 1
        omega
      · rw [ev, List.all_append, List.all_append]
        show (_ && (fitsD ka x && fitsD kb y)) = (_ && (fitsD kb y && true) && (fitsD ka x && true))
        rw [Bool.and_true, Bool.and_true, Bool.and_assoc, Bool.and_comm (fitsD ka x)]
  | frm ka kb =>
    obtain ⟨qp, xs, rfl, hs, hx⟩ := Dp.view (show Dp K H vk (.tuple [.str "from", kdD ka, kdD kb]) from hk2)
    have hs := sqT_up s2 hs
    cases hx with
    | cons h1 hx =>
    cases h1

    refine ⟨_, rfl, qp, _, 0, _, rfl, rfl, hs, head_at _ _, rfl, _, rfl, wdF (by decide +kernel) ?_⟩
    refine ⟨_, rfl, qp, _, 0, _, rfl, rfl, hs, head_at _ _, rfl, _, rfl, wdF (by decide +kernel) ?_⟩
    refine ⟨_, rfl, qp, _, 0, _, rfl, rfl, hs, head_at _ _, rfl, _, rfl, wdF (by decide +kernel) ?_⟩
    refine ⟨_, rfl, qp, _, 0, _, rfl, rfl, hs, head_at _ _, rfl, _, rfl, wdF (by decide +kernel) ?_⟩
    refine ⟨_, rfl, _, rfl, condF (by decide +kernel) ⟨_, rfl, _, rfl, condT (by decide +kernel) (qn rfl X2 s2)⟩⟩
  | either ka kb =>
    obtain ⟨qp, xs, rfl, hs, hx⟩ := Dp.view (show Dp K H vk (.tuple [.str "either", kdD ka, kdD kb]) from hk2)
    have hs := sqT_up s2 hs
    cases hx with
    | cons h1 hx =>
    cases h1
    cases hx with
    | @cons va _ _ _ ha1 hx =>
    cases hx with
    | @cons vb _ _ _ hb1 hx =>
    cases hx

    refine ⟨_, rfl, qp, _, 0, _, rfl, rfl, hs, head_at _ _, rfl, _, rfl, wdF (by decide +kernel) ?_⟩
    refine ⟨_, rfl, qp, _, 0, _, rfl, rfl, hs, head_at _ _, rfl, _, rfl, wdF (by decide +kernel) ?_⟩
    refine ⟨_, rfl, qp, _, 0, _, rfl, rfl, hs, head_at _ _, rfl, _, rfl, wdF (by decide +kernel) ?_⟩
    refine ⟨_, rfl, qp, _, 0, _, rfl, rfl, hs, head_at _ _, rfl, _, rfl, wdT rfl ?_⟩
    refine ⟨_, rfl, vx, d1, rfl, hx2, ?_⟩
    refine ⟨_, rfl, ?_⟩
    cases c : isTwo d1 with
    | false => exact condF rfl ⟨_, rfl, _, rfl, condF rfl ⟨_, rfl, _, rfl, condT rfl (qn (fits_either2 ka kb c) X2 s2)⟩⟩
    | true =>
      obtain ⟨x, y, rfl⟩ : ∃ x y, d1 = .tuple [x, y] := by
        match d1, c with
        | .tuple [x, y], _ => exact ⟨x, y, rfl⟩
      refine condT rfl ?_
      cases hx0 with
      | @tup qx ys _ hsx0 hxx =>
      cases hxx with
      | @cons u1' _ _ _ hu1 hxx =>
      cases hxx with
      | @cons ua _ _ _ hua hxx =>
      cases hxx
      have hsx : SqT K X2 qx [u1', ua] := sqT_up s2 hsx0
      have atx : ats x = true ∧ ats y = true := by
        have z : (ats x && (ats y && true)) = true := at1
        rw [Bool.and_true, Bool.and_eq_true] at z
        exact z
      refine ⟨_, rfl, qx, _, 0, _, rfl, rfl, hsx, head_at _ _, (by decide : 2 ≤ sizeLine), fun q2 n2 => ?_⟩
      have s3 := same_new (o := HO.tup [.str "this", .str "that"]) n2
      have hl3 := s3 _ _ hl2
      refine ⟨x, [.str "this", .str "that"], dp_up (same_trans s2 s3) _ _ hu1, .tup (.inl (.inl upd_same)) (.cons (.str _) (.cons (.str _) .nil)), (fit x atx.1).lay, (by decide +kernel), Nat.le_trans (Nat.min_le_left _ _) (by decide), ?_⟩
      rw [side_in]
      refine ⟨_, rfl, _, rfl, ?_⟩
      have al3 : All2 (PrX K H (upd X2 q2 (.tup [.str "this", .str "that"]))) us0 ks0 := al2.mono fun _ _ h => PrX.keep (tups_same s3) h
      have hs3 := sqT_up s3 hs
      have hsx3 := sqT_up s3 hsx
      have sH3 := same_trans s2 s3
      generalize upd X2 q2 (.tup [.str "this", .str "that"]) = X3 at s3 hl3 al3 hs3 hsx3 sH3
      cases c2 : sideD x with
      | false => exact condF rfl ⟨_, rfl, _, rfl, condT rfl (qn (fits_either3 ka kb c2) X3 sH3)⟩
      | true =>
        refine condT rfl ?_
        have zz : szq ks0 + (ka.size + kb.size + 1 + 0) ≤ mm := sz
        have pa := kd_size1 ka
        have pb := kd_size1 kb
        have push : ∀ (vc : V) (kc : Kd), Dp K H vc (kdD kc) → kc.size + 1 ≤ ka.size + kb.size + 1 → fitsD (.either ka kb) (.tuple [x, y]) = fitsD kc y → ∀ q3, X3 q3 = none → ∃ m', m' < mm ∧ ∃ (us : List V) (ks : List (Kd × PyData)) (y3 y4 y5' : Option V), [some kv, some v, some (.ref l), some (.ref qp), some (.ref qx), some (.bl true)] = [some kv, some v, some (.ref l), y3, y4, y5'] ∧ upd (upd X3 q3 (.tup [vc, ua])) l (.lst (us0 ++ [.ref q3])) l = some (.lst us) ∧ Same H (upd (upd X3 q3 (.tup [vc, ua])) l (.lst (us0 ++ [.ref q3]))) ∧ All2 (PrX K H (upd (upd X3 q3 (.tup [vc, ua])) l (.lst (us0 ++ [.ref q3])))) us ks ∧ szq ks ≤ m' ∧ m' ≤ 20001 ∧ fitsD k d = ks.all fun e => fitsD e.1 e.2 := fun vc kc hc lc ec q3 n3 => by
          have s4 := same_new (o := HO.tup [vc, ua]) n3
          have t5 : Tups (upd X3 q3 (.tup [vc, ua])) (upd (upd X3 q3 (.tup [vc, ua])) l (.lst (us0 ++ [.ref q3]))) := tups_lst (s4 _ _ hl3)
          refine ⟨mm - 1, by omega, us0 ++ [.ref q3], ks0 ++ [(kc, y)], _, _, _, rfl, upd_same, same_own (same_trans sH3 s4) nl, ?_, ?_, by omega, ?_⟩
          · exact (al3.mono fun _ _ h => PrX.keep t5 (PrX.keep (tups_same s4) h)).app (.one ⟨q3, vc, ua, rfl, t5 _ _ upd_same, hc, hua, atx.2⟩)
          · rw [szq_app]
            show szq ks0 + (kc.size + 0) ≤ mm - 1
            omega
          · rw [ev, ec, List.all_append]
            show (_ && fitsD kc y) = (_ && (fitsD kc y && true))
            rw [Bool.and_true]
        obtain ⟨z, rfl⟩ : ∃ z, x = .str z := by
          cases x with
          | str z => exact ⟨z, rfl⟩
          | _ => cases c2
        cases hu1
        refine ⟨_, rfl, .inl ⟨rfl, _, .inl (.inl hl3)⟩, _, rfl, _, rfl, qx, _, 0, _, rfl, rfl, hsx3, head_at _ _, rfl, _, rfl, ?_⟩
        by_cases ez : z = "this"
        · subst ez
          refine wdT rfl ⟨qp, _, 1, _, rfl, rfl, hs3, atI_nat (j := 1) rfl, _, rfl, qx, _, 1, _, rfl, rfl, hsx3, atI_nat (j := 1) rfl, (by decide : 2 ≤ sizeLine), fun q3 n3 => ?_⟩
          have s4 := same_new (o := HO.tup [va, ua]) n3
          refine ⟨l, _, _, rfl, rfl, s4 _ _ hl3, by omega, ?_⟩
          refine ⟨_, rfl, _, rfl, condF rfl ?_⟩
          exact push va ka ha1 (by omega) (if_pos rfl) q3 n3
        · have e2 : z = "that" := by
            have c2 : (decide (z = "this") || decide (z = "that")) = true := c2
            rw [decide_eq_false ez, Bool.false_or] at c2
            exact of_decide_eq_true c2
          subst e2
          refine wdF (by decide +kernel) ⟨qp, _, 2, _, rfl, rfl, hs3, atI_nat (j := 2) rfl, _, rfl, qx, _, 1, _, rfl, rfl, hsx3, atI_nat (j := 1) rfl, (by decide : 2 ≤ sizeLine), fun q3 n3 => ?_⟩
          have s4 := same_new (o := HO.tup [vb, ua]) n3
          refine ⟨l, _, _, rfl, rfl, s4 _ _ hl3, by omega, ?_⟩
          refine ⟨_, rfl, _, rfl, condF rfl ?_⟩
          refine push vb kb hb1 (by omega) ?_ q3 n3
          show (if ("that" : Str) = "this" then _ else if ("that" : Str) = "that" then fitsD kb y else false) = fitsD kb y
          rw [if_neg ez, if_pos rfl]
end
end Kf
set_option Elab.async false
set_option linter.all false
set_option maxRecDepth 100000
set_option maxHeartbeats 4000000
set_option pp.maxSteps 600
/-! What bears a seen saying: the mathematics. -/
namespace Kf
open PySem PySem.Spec PyProof.Rows L2 Sx
def un1 : PyData → PyData
  | .tuple (x :: _) => x
  | _ => .none
def un2 : PyData → PyData
  | .tuple (_ :: y :: _) => y
  | _ => .none
def numN : PyData → Nat
  | .int i => i.toNat
  | _ => 0
def isThat : PyData → Bool
  | .str z => decide (z = "that")
  | _ => false
def sides (a b : Sy) (d : PyData) : PyData × PyData := if a.flat = true then (.none, d) else if b.flat = true then (d, .none) else (un1 d, un2 d)
def borne (s : Sy) (d : PyData) : Bool :=
  if s.flat = true then s.tru else match s with
  | .and a b => borne a (sides a b d).1 && borne b (sides a b d).2
  | .or a b => if isThat (un1 d) = true then borne b (un2 d) else borne a (un2 d)
  | .cond a b => !a.tru || borne b d
  | .some a => if a.flat = true then borne (a.at (numN d) 0) .none else borne (a.at (numN (un1 d)) 0) (un2 d)
  | _ => true
termination_by s.sz
decreasing_by all_goals (simp only [Sy.sz, sz_at]; omega)
theorem borne_flat {s : Sy} {d : PyData} (h : s.flat = true) : borne s d = s.tru := by
  rw [borne.eq_def, if_pos h]
theorem borne_and {a b : Sy} {d : PyData} (h : (Sy.and a b).flat = false) : borne (.and a b) d = (borne a (sides a b d).1 && borne b (sides a b d).2) := by
  rw [borne.eq_def, if_neg (by rw [h]; exact Bool.false_ne_true)]
theorem borne_or {a b : Sy} {d : PyData} : borne (.or a b) d = if isThat (un1 d) = true then borne b (un2 d) else borne a (un2 d) := by
  rw [borne.eq_def, if_neg (by exact Bool.false_ne_true)]
theorem borne_cond {a b : Sy} {d : PyData} (h : (Sy.cond a b).flat = false) : borne (.cond a b) d = (!a.tru || borne b d) := by
  rw [borne.eq_def, if_neg (by rw [h]; exact Bool.false_ne_true)]
theorem borne_some {a : Sy} {d : PyData} : borne (.some a) d = if a.flat = true then borne (a.at (numN d) 0) .none else borne (a.at (numN (un1 d)) 0) (un2 d) := by
  rw [borne.eq_def, if_neg (by exact Bool.false_ne_true)]
/-! ### small numbers -/
mutual
def sml : PyData → Bool
  | .int i => decide (i ≤ 5) || decide ((10 : Int) ^ 60 ≤ i)
  | .list ds => smls ds
  | .tuple ds => smls ds
  | _ => true
def smls : List PyData → Bool
  | [] => true
  | d :: ds => sml d && smls ds
end
theorem sml_un1 {d : PyData} (h : sml d = true) : sml (un1 d) = true := by
  cases d with
  | tuple ds =>
    cases ds with
    | nil => rfl
    | cons x r =>
      have h : (sml x && smls r) = true := h
      rw [Bool.and_eq_true] at h
      exact h.1
  | _ => rfl
theorem sml_un2 {d : PyData} (h : sml d = true) : sml (un2 d) = true := by
  cases d with
  | tuple ds =>
    match ds, h with
    | [], _ => rfl
    | [x], _ => rfl
    | x :: y :: r, h =>
      have h : (sml x && (sml y && smls r)) = true := h
      rw [Bool.and_eq_true, Bool.and_eq_true] at h
      exact h.2.1
  | _ => rfl
theorem ats_un1 {d : PyData} (h : ats d = true) : ats (un1 d) = true := by
  cases d with
  | tuple ds =>
    cases ds with
    | nil => rfl
    | cons x r =>
      have h : (ats x && atss r) = true := h
      rw [Bool.and_eq_true] at h
      exact h.1
  | _ => rfl
theorem ats_un2 {d : PyData} (h : ats d = true) : ats (un2 d) = true := by
  cases d with
  | tuple ds =>
    match ds, h with
    | [], _ => rfl
    | [x], _ => rfl
    | x :: y :: r, h =>
      have h : (ats x && (ats y && atss r)) = true := h
      rw [Bool.and_eq_true, Bool.and_eq_true] at h
      exact h.2.1
  | _ => rfl
theorem num_small {d : PyData} (h : numD d = true) (s : sml d = true) : d = .int (numN d : Int) ∧ numN d ≤ 5 := by
  cases d with
  | int i =>
    have h : (decide ((0 : Int) ≤ i) && decide (i < 10 ^ 60)) = true := h
    have s : (decide (i ≤ 5) || decide ((10 : Int) ^ 60 ≤ i)) = true := s
    rw [Bool.and_eq_true, decide_eq_true_iff, decide_eq_true_iff] at h
    rw [Bool.or_eq_true, decide_eq_true_iff, decide_eq_true_iff] at s
    have i5 : i ≤ 5 := s.elim id fun z => absurd h.2 (Int.not_lt.mpr z)
    refine ⟨?_, ?_⟩
    · show PyData.int i = PyData.int (i.toNat : Int)
      rw [Int.toNat_of_nonneg h.1]
    · show i.toNat ≤ 5
      omega
  | _ => cases h
theorem two_is {d : PyData} (h : isTwo d = true) : d = .tuple [un1 d, un2 d] := by
  match d, h with
  | .tuple [x, y], _ => rfl
/-! ### what fits, part by part -/
theorem none_fits {s : Sy} {c : Nat} (ok : s.Ok c) (h : s.flat = true) (d : PyData) : fitsD s.kind d = isN d := by
  rw [(kind_flat ok).mpr h]
  rfl
theorem fits_and {a b : Sy} {c : Nat} (ok : (Sy.and a b).Ok c) (d : PyData) : fitsD (Sy.and a b).kind d = ((a.flat || b.flat || isTwo d) && (fitsD a.kind (sides a b d).1 && fitsD b.kind (sides a b d).2)) := by
  have ka := kind_flat ok.1
  have kb := kind_flat ok.2
  rw [kind_and]
  unfold Kd.pairK sides
  by_cases fa : a.flat = true
  · rw [if_pos (ka.mpr fa), if_pos fa, fa, none_fits ok.1 fa]
    simp [isN]
  · rw [if_neg (fun z => fa (ka.mp z)), if_neg fa]
    have fa' : a.flat = false := by simpa using fa
    by_cases fb : b.flat = true
    · rw [if_pos (kb.mpr fb), if_pos fb, fb, none_fits ok.2 fb]
      simp [isN]
    · rw [if_neg (fun z => fb (kb.mp z)), if_neg fb]
      have fb' : b.flat = false := by simpa using fb
      rw [fa', fb']
      cases c2 : isTwo d with
      | false => rw [fits_pair2 _ _ c2]; rfl
      | true =>
        have e := two_is c2
        rw [e]
        simp [fitsD, un1, un2]
theorem fits_or {a b : Sy} (d : PyData) : fitsD (Sy.or a b).kind d = (isTwo d && sideD (un1 d) && (if isThat (un1 d) = true then fitsD b.kind (un2 d) else fitsD a.kind (un2 d))) := by
  rw [kind_or]
  cases c2 : isTwo d with
  | false => rw [fits_either2 _ _ c2]; rfl
  | true =>
    have e := two_is c2
    rw [e]
    show fitsD _ _ = (true && sideD (un1 d) && (if isThat (un1 d) = true then fitsD b.kind (un2 d) else fitsD a.kind (un2 d)))
    rw [Bool.true_and]
    cases c3 : sideD (un1 d) with
    | false => rw [fits_either3 _ _ c3]; rfl
    | true =>
      rw [Bool.true_and]
      cases u : un1 d with
      | str z =>
        rw [u] at c3
        have c3 : (decide (z = "this") || decide (z = "that")) = true := c3
        show (if z = "this" then fitsD a.kind (un2 d) else if z = "that" then fitsD b.kind (un2 d) else false) = (if decide (z = "that") = true then fitsD b.kind (un2 d) else fitsD a.kind (un2 d))
        by_cases z1 : z = "this"
        · subst z1
          rw [if_pos rfl, if_neg (by decide +kernel)]
        · rw [decide_eq_false z1, Bool.false_or] at c3
          rw [if_neg z1, if_pos (of_decide_eq_true c3), if_pos c3]
      | _ =>
        rw [u] at c3
        cases c3
theorem fits_cond {a b : Sy} {c : Nat} (ok : (Sy.cond a b).Ok c) (d : PyData) : fitsD (Sy.cond a b).kind d = fitsD b.kind d := by
  rw [kind_cond]
  unfold Kd.fromK
  rw [if_pos (.inl ((kind_flat ok.2.1).mpr ok.1))]
theorem fits_some {a : Sy} {c : Nat} (ok : (Sy.some a).Ok c) (d : PyData) : fitsD (Sy.some a).kind d = if a.flat = true then numD d else (isTwo d && (numD (un1 d) && fitsD a.kind (un2 d))) := by
  have ka := kind_flat (s := a) ok
  rw [kind_some]
  unfold Kd.pairK
  rw [if_neg (by intro z; cases z)]
  by_cases fa : a.flat = true
  · rw [if_pos (ka.mpr fa), if_pos fa]
    rfl
  · rw [if_neg (fun z => fa (ka.mp z)), if_neg fa]
    cases c2 : isTwo d with
    | false => rw [fits_pair2 _ _ c2]; rfl
    | true =>
      have e := two_is c2
      rw [e]
      simp [fitsD, un1, un2]
/-- the kind of a body stays -/
theorem kind_at (n : Nat) : ∀ (s : Sy) (r : Nat), (s.at n r).kind = s.kind
  | .same _ _, _ => rfl
  | .no, _ => rfl
  | .and a b, r => by
    show (Sy.and (a.at n r) (b.at n r)).kind = _
    rw [kind_and, kind_and, kind_at n a, kind_at n b]
  | .cond a b, r => by
    show (Sy.cond (a.at n r) (b.at n r)).kind = _
    rw [kind_cond, kind_cond, kind_at n a, kind_at n b]
  | .or a b, r => by
    show (Sy.or (a.at n r) (b.at n r)).kind = _
    rw [kind_or, kind_or, kind_at n a, kind_at n b]
  | .some a, r => by
    show (Sy.some (a.at n (r + 1))).kind = _
    rw [kind_some, kind_some, kind_at n a]
/-- a saying and what is to bear it -/
structure Pr (s : Sy) (d : PyData) : Prop where
  ok : s.Ok 0
  dp : s.dp ≤ 8
  fit : fitsD s.kind d = true
  sml : sml d = true
  ats : ats d = true
theorem Pr.and {a b : Sy} {d : PyData} (h : Pr (.and a b) d) : Pr a (sides a b d).1 ∧ Pr b (sides a b d).2 ∧ (a.flat = false → b.flat = false → d = .tuple [un1 d, un2 d]) := by
  have dd : max a.dp b.dp + 1 ≤ 8 := h.dp
  have f := h.fit
  rw [fits_and h.ok, Bool.and_eq_true, Bool.and_eq_true] at f
  have s1 : Kf.sml (sides a b d).1 = true ∧ Kf.ats (sides a b d).1 = true := by
    unfold sides
    split
    · exact ⟨rfl, rfl⟩
    · split
      · exact ⟨h.sml, h.ats⟩
      · exact ⟨sml_un1 h.sml, ats_un1 h.ats⟩
  have s2 : Kf.sml (sides a b d).2 = true ∧ Kf.ats (sides a b d).2 = true := by
    unfold sides
    split
    · exact ⟨h.sml, h.ats⟩
    · split
      · exact ⟨rfl, rfl⟩
      · exact ⟨sml_un2 h.sml, ats_un2 h.ats⟩
  refine ⟨⟨h.ok.1, by omega, f.2.1, s1.1, s1.2⟩, ⟨h.ok.2, by omega, f.2.2, s2.1, s2.2⟩, fun fa fb => two_is ?_⟩
  have z := f.1
  rw [fa, fb] at z
  exact z
theorem Pr.or {a b : Sy} {d : PyData} (h : Pr (.or a b) d) : d = .tuple [un1 d, un2 d] ∧ sideD (un1 d) = true ∧ (isThat (un1 d) = true → Pr b (un2 d)) ∧ (isThat (un1 d) = false → Pr a (un2 d)) := by
  have dd : max a.dp b.dp + 1 ≤ 8 := h.dp
  have f := h.fit
  rw [fits_or, Bool.and_eq_true, Bool.and_eq_true] at f
  refine ⟨two_is f.1.1, f.1.2, fun e => ⟨h.ok.2, by omega, ?_, sml_un2 h.sml, ats_un2 h.ats⟩, fun e => ⟨h.ok.1, by omega, ?_, sml_un2 h.sml, ats_un2 h.ats⟩⟩
  · have z := f.2
    rw [if_pos e] at z
    exact z
  · have z := f.2
    rw [if_neg (by rw [e]; exact Bool.false_ne_true)] at z
    exact z
theorem Pr.cond {a b : Sy} {d : PyData} (h : Pr (.cond a b) d) : Pr b d := by
  have dd : max a.dp b.dp + 1 ≤ 8 := h.dp
  have f := h.fit
  rw [fits_cond h.ok] at f
  exact ⟨h.ok.2.2, by omega, f, h.sml, h.ats⟩
theorem Pr.someF {a : Sy} {d : PyData} (h : Pr (.some a) d) (fa : a.flat = true) : d = .int (numN d : Int) ∧ numN d ≤ 5 ∧ Pr (a.at (numN d) 0) .none := by
  have dd : a.dp + 1 ≤ 8 := h.dp
  have f := h.fit
  rw [fits_some h.ok, if_pos fa] at f
  obtain ⟨e, n5⟩ := num_small f h.sml
  refine ⟨e, n5, ok_at (s := a) n5 h.ok, by rw [dp_at]; omega, ?_, rfl, rfl⟩
  rw [kind_at, none_fits (s := a) h.ok fa]
  rfl
theorem Pr.someN {a : Sy} {d : PyData} (h : Pr (.some a) d) (fa : a.flat = false) : d = .tuple [un1 d, un2 d] ∧ un1 d = .int (numN (un1 d) : Int) ∧ numN (un1 d) ≤ 5 ∧ Pr (a.at (numN (un1 d)) 0) (un2 d) := by
  have dd : a.dp + 1 ≤ 8 := h.dp
  have f := h.fit
  rw [fits_some h.ok, if_neg (by rw [fa]; exact Bool.false_ne_true), Bool.and_eq_true, Bool.and_eq_true] at f
  obtain ⟨e, n5⟩ := num_small f.2.1 (sml_un1 h.sml)
  exact ⟨two_is f.1, e, n5, ok_at (s := a) n5 h.ok, by rw [dp_at]; omega, by rw [kind_at]; exact f.2.2, sml_un2 h.sml, ats_un2 h.ats⟩
end Kf
set_option Elab.async false
set_option linter.all false
set_option maxRecDepth 100000
set_option maxHeartbeats 8000000
set_option pp.maxSteps 500
/-! bears. -/
namespace Kf
open PySem PySem.Spec PyProof.Rows L2 Sx LmY LamX NdefX
abbrev sWB : Stmt := top 32
abbrev wBN : List Str := ["saying", "told"]
theorem scWB : FnScope wBN ["saying", "told"] (defScope sWB) := ⟨rfl, rfl, rfl, by decide +kernel, rfl, by decide +kernel, by decide +kernel⟩
abbrev sSS : Stmt := top 33
abbrev sSN : List Str := ["saying", "told", "number", "rest"]
theorem scSS : FnScope sSN ["saying", "told"] (defScope sSS) := ⟨rfl, rfl, rfl, by decide +kernel, rfl, by decide +kernel, by decide +kernel⟩
abbrev sBe : Stmt := top 34
abbrev beN : List Str := ["saying", "thing", "bearing", "todo", "piece", "told", "left", "right"]
theorem scBe : FnScope beN ["saying", "thing"] (defScope sBe) := ⟨rfl, rfl, rfl, by decide +kernel, rfl, by decide +kernel, by decide +kernel⟩
theorem fn_calm {P : Program} {w : World} {K : PySem.W.Frag} {mg : Str → Option Value} {base : Heap} {k : Nat} {f : Addr} {fd : FuncData} {ps : List Str} {sp sp0 : Sp} (F : FnOk P w K mg base (L2.CX P w) k f fd ps sp)
    (h : ∀ vs H Q E, sp0 vs H Q E → sp vs H Q fun _ _ _ => False) : FnOk P w K mg base CX0 k f fd ps sp0 :=
  ⟨fun vs H Q E q => F.len vs H Q _ (h _ _ _ _ q), fun A outer s H args us vs Q E hr he hb hv hs => codeAny_mono (F.run A outer s H args us vs Q _ hr he hb hv (h _ _ _ _ hs)) fun r s' hq => by
    cases r with
    | ok fl => cases fl <;> exact hq
    | error e =>
      obtain ⟨_, _, _, _, _, _, _, _, _, _, _, _, z⟩ := hq
      exact z.elim⟩

theorem ext_tups {H H' : Hp} (e : ExtN H H') : Tups H H' := fun b xs h => e b _ h fun ps z => by cases z
theorem ext_same {H H' : Hp} (s : Same H H') : ExtN H H' := fun b o e _ => s b o e
theorem ext_nt {H H' : Hp} (e : ExtN H H') : NoTbl H H' := fun a o n h => e a o h n
theorem ext_own {H X : Hp} {l : Addr} {o : HO} (e : ExtN H X) (n : H l = none) : ExtN H (upd X l o) := fun b u h k => by
  rw [upd_ne (ne_of_none h n)]
  exact e b u h k
theorem tabs_own {T : List (Addr × Str)} {X : Hp} {l : Addr} {us : List V} {o : HO} (h : Tabs T X) (e : X l = some (.lst us)) : Tabs T (upd X l o) := fun p hp => by
  obtain ⟨ps, h1, h2, h3⟩ := h p hp
  refine ⟨ps, by rw [upd_ne (ne_of h1 e (by intro z; cases z))]; exact h1, h2, fun pos cv hc => ?_⟩
  obtain ⟨c, e1, e2⟩ := h3 pos cv hc
  exact ⟨c, e1, by rw [upd_ne (ne_of e2 e (by intro z; unfold CodeO at z; cases z))]; exact e2⟩
theorem tabs_same {T : List (Addr × Str)} {X X' : Hp} (h : Tabs T X) (s : Same X X') : Tabs T X' := h.ext s
/-- how a saying is to be for the program's looks -/
structure Lk (s : Sy) : Prop where
  wf : s.tr.Wf kS
  dp : s.tr.deep ≤ 10
  sz : s.tr.size ≤ 1100
theorem lk_of {s : Sy} (ok : s.Ok 0) (d : s.dp ≤ 8) : Lk s := by
  have a := sy_deep s
  have b := size_deep s.tr
  have c : 2 ^ s.tr.deep ≤ 2 ^ 10 := Nat.pow_le_pow_right (by decide) (by omega)
  have e : 2 ^ 10 = 1024 := by decide
  exact ⟨wf_sy (c := 0) (by omega) ok, by omega, by omega⟩
theorem lk_of1 {s : Sy} (ok : s.Ok 1) (d : s.dp ≤ 8) : Lk s := by
  have a := sy_deep s
  have b := size_deep s.tr
  have c : 2 ^ s.tr.deep ≤ 2 ^ 10 := Nat.pow_le_pow_right (by decide) (by omega)
  have e : 2 ^ 10 = 1024 := by decide
  exact ⟨wf_sy (c := 1) (by omega) ok, by omega, by omega⟩
def szb : List (Sy × PyData) → Nat
  | [] => 0
  | q :: r => q.1.sz + szb r
theorem szb_app (a b : List (Sy × PyData)) : szb (a ++ b) = szb a + szb b := by
  induction a with
  | nil => simp [szb]
  | cons q r ih =>
    show q.1.sz + szb (r ++ b) = q.1.sz + szb r + szb b
    omega
theorem sy_sz1 (s : Sy) : 1 ≤ s.sz := by cases s <;> simp [Sy.sz]
theorem len_szb : ∀ ks : List (Sy × PyData), ks.length ≤ szb ks
  | [] => Nat.le_refl _
  | q :: r => by
    have := len_szb r
    have := sy_sz1 q.1
    show r.length + 1 ≤ q.1.sz + szb r
    omega
theorem sz_size : ∀ s : Sy, s.sz ≤ s.tr.size
  | .same a b => by
    show 1 ≤ a.tr.size + b.tr.size + 1
    omega
  | .no => Nat.le_refl _
  | .and a b => by
    have := sz_size a
    have := sz_size b
    show a.sz + b.sz + 1 ≤ a.tr.size + b.tr.size + 1
    omega
  | .cond a b => by
    have := sz_size a
    have := sz_size b
    show a.sz + b.sz + 1 ≤ a.tr.size + b.tr.size + 1
    omega
  | .or a b => by
    have := sz_size a
    have := sz_size b
    show a.sz + b.sz + 1 ≤ a.tr.size + b.tr.size + 1
    omega
  | .some a => by
    have := sz_size a
    show a.sz + 1 ≤ a.tr.size + 1
    omega
section
variable {P : Program} {w : World} {K : PySem.W.Frag} {mg : Str → Option Value} {base : Heap} {T0 : List (Addr × Str)} {NO NU PA TM f fk fp fi ff ft fw fs : Addr} {fd dk dp di df dt dw ds : FuncData}
/-- is_true where no term is too great -/
def spTrueS : Sp := fun vs H Q _ => ∃ (v : V) (s : Sy), vs = [v] ∧ At H s.tr v ∧ s.flat = true ∧ s.Ok 0 ∧ s.dp ≤ 8 ∧ ∀ H', Same H H' → Q (.bl s.tru) H'
theorem true_calm (G : FnOk P w K mg base (L2.CX P w) 4 f fd ["saying"] (spTrue TM)) : FnOk P w K mg base CX0 4 f fd ["saying"] spTrueS :=
  fn_calm G fun vs H Q E h => by
    obtain ⟨v, s, rfl, ha, fl, ok, dd, q⟩ := h
    have e := tru_sy fl ok
    refine ⟨v, s.tr, rfl, ha, fl_sy fl ok, by have := sy_deep s; omega, fun b H' eb sm => ?_, fun H' en _ => ?_⟩
    · rw [e] at eb
      cases eb
      exact q H' sm
    · rw [e] at en
      cases en
theorem two_pow {a b m n : Nat} (h : a + 1 ≤ 2 ^ m) (g : b + 1 ≤ 2 ^ n) : a + b + 1 + 1 ≤ 2 ^ (max m n + 1) := by
  have p : 2 ^ (max m n + 1) = 2 ^ (max m n) * 2 := Nat.pow_succ _ _
  have q1 : 2 ^ m ≤ 2 ^ (max m n) := Nat.pow_le_pow_right (by decide) (Nat.le_max_left _ _)
  have q2 : 2 ^ n ≤ 2 ^ (max m n) := Nat.pow_le_pow_right (by decide) (Nat.le_max_right _ _)
  omega
theorem free_of {H H' : Hp} {l : Addr} (s : Same H H') (n : H' l = none) : H l = none := by
  cases e : H l with
  | none => rfl
  | some o =>
    have z := s _ _ e
    rw [n] at z
    cases z
theorem free_ext {H H' : Hp} {l : Addr} (s : ExtN H H') (hT : Tabs T0 H) (n : H' l = none) (tb : ∀ ps, H l ≠ some (.tbl ps)) : H l = none := by
  cases e : H l with
  | none => rfl
  | some o =>
    have z := s _ _ e (fun ps z => tb ps (by rw [e, z]))
    rw [n] at z
    cases z
theorem lsn {H : Hp} : LS H [] := fun a h => nomatch h
/-- the kind is no kind at all just where the saying is flat -/
theorem kd_flat {s : Sy} {c : Nat} (ok : s.Ok c) : PyData.eqv (kd s.tr) none1 = s.flat := by
  rw [kd_is, kd_none]
  have := kind_flat ok
  cases e : s.flat with
  | true => exact decide_eq_true (this.mpr e)
  | false => exact decide_eq_false (fun z => by
      rw [this.mp z] at e
      cases e)
theorem kd_gk {s : Sy} (l : Lk s) : (kd s.tr).canLay0 = true ∧ (kd s.tr).depth ≤ 120 := by
  have g := gk_kd (t := s.tr) (by have := l.dp; omega)
  exact ⟨g.1, Nat.le_trans g.2 (by decide)⟩
theorem lay0 : none1.canLay0 = true := by decide +kernel
/-! ### worths_of_both -/
def spWB (K : PySem.W.Frag) : Sp := fun vs H Q _ => ∃ (H0 : Hp) (v1 v2 : V) (a b : Sy) (d : PyData), vs = [v1, v2] ∧ NoTbl H0 H ∧ At H (Sy.and a b).tr v1 ∧ (Sy.and a b).Ok 0 ∧ (Sy.and a b).dp ≤ 8 ∧ Dp K H0 v2 d ∧ (a.flat = false → b.flat = false → d = .tuple [un1 d, un2 d]) ∧
  ∀ l x y H', Same H H' → H l = none → H' l = some (.lst [x, y]) → Dp K H0 x (sides a b d).1 → Dp K H0 y (sides a b d).2 → Q (.ref l) H'
theorem ok_wb (F : Fun K "worths_of_both" "worths_of_both" sWB f fd) (T : Tx K mg NO NU PA) (GK : FnOk P w K mg base CX0 3 fk dk ["saying"] (spKindOf K)) (bK : L2.Binds K dk ["saying"] []) (kK : PySem.W.keepIn K (.ref fk) = true) (mK : mg "kind_of" = some (.ref fk)) : FnOk P w K mg base CX0 4 f fd ["saying", "told"] (spWB K) := by
  refine F.ok scWB (fun vs H Q E h => ?_) (fun cdv Ar outer s0 H vs Q E hr h => ?_)
  · obtain ⟨_, v1, v2, a, b, d, rfl, _⟩ := h
    rfl
  have u1 : (Ar.deeper (envOfC "worths_of_both" (defScope sWB) s0.heap.objs.size f cdv)).units + 130 < cLine := by
    have := hr.un
    omega
  obtain ⟨H0, v1, v2, a, b, d, rfl, n0, hA, ok, dd, hd, two, q⟩ := h
  refine ⟨_, (pss_cons (ps_if (pt_cmpR (op_eqW u1) (pe_call GK hr (by rfl) mK kK bK .nil pass0 (pa_cons (pe_ix ix_tup (pv 0) pe_int (fun _ _ => rfl)) pa_nil)) (pe_glob (v := .ref NO) (by rfl) T.mO rfl) (nomark _)) (pss_one (ps_ret (pe_lst (pa_cons pe_non (pa_cons (pv 1) pa_nil))))) pss_nil)
    (pss_one (ps_ret (pe_ifExp (pt_cmpR (op_eqW u1) (pe_call GK hr (by rfl) mK kK bK .nil pass0 (pa_cons (pe_ix ix_tup (pv 0) pe_int (fun _ _ => rfl)) pa_nil)) (pe_glob (v := .ref NO) (by rfl) T.mO rfl) (nomark _)) (pe_lst (pa_cons (pv 1) (pa_cons pe_non pa_nil))) (pe_lst (pa_cons (pe_ix ix_tup (pv 1) pe_int (fun _ _ => rfl)) (pa_cons (pe_ix ix_tup (pv 1) pe_int (fun _ _ => rfl)) pa_nil))))))), ?_⟩
  obtain ⟨p, x, y, rfl, hp, hx, hy⟩ := hA
  have dd : max a.dp b.dp + 1 ≤ 8 := dd
  have la := lk_of ok.1 (by omega)
  have lb := lk_of ok.2 (by omega)
  have ga := kd_gk la
  have gb := kd_gk lb
  refine ⟨_, rfl, p, _, 1, _, rfl, rfl, .inl (.inl hp), atI_nat (j := 1) rfl, [], x, a.tr, rfl, lsn, hx, la.wf, by have := la.dp; omega, by have := la.sz; omega, fun u H1 hu s1 => ?_⟩
  refine ⟨kd a.tr, none1, hu.dp, dp_none T H1, ga.1, lay0, ga.2, ?_⟩
  rw [kd_flat ok.1]
  refine ⟨_, rfl, ?_⟩
  unfold sides at q
  cases fa : a.flat with
  | true =>
    rw [fa] at q
    refine condT rfl ⟨_, rfl, (by decide : 2 ≤ sizeLine), fun l nl => ?_⟩
    exact q l _ _ _ (same_trans s1 (same_new nl)) (free_of s1 nl) upd_same .non hd
  | false =>
    rw [fa] at q
    refine condF rfl ?_
    refine ⟨_, rfl, p, _, 2, _, rfl, rfl, .inl (.inl (s1 _ _ hp)), atI_nat (j := 2) rfl, [], y, b.tr, rfl, lsn, hy.keep (tups_same s1), lb.wf, by have := lb.dp; omega, by have := lb.sz; omega, fun u2 H2 hu2 s2 => ?_⟩
    refine ⟨kd b.tr, none1, hu2.dp, dp_none T H2, gb.1, lay0, gb.2, ?_⟩
    rw [kd_flat ok.2]
    have s12 := same_trans s1 s2
    refine ⟨_, rfl, ?_⟩
    cases fb : b.flat with
    | true =>
      rw [fb] at q
      refine condT rfl ⟨_, rfl, (by decide : 2 ≤ sizeLine), fun l nl => ?_⟩
      exact q l _ _ _ (same_trans s12 (same_new nl)) (free_of s12 nl) upd_same hd .non
    | false =>
      rw [fb] at q
      have e := two fa fb
      rw [e] at hd
      obtain ⟨qd, xs, rfl, hs, hx2⟩ := Dp.view hd
      cases hx2 with
      | @cons x1 _ _ _ h1 hx2 =>
      cases hx2 with
      | @cons x2 _ _ _ h2 hx2 =>
      cases hx2
      have hs2 := sqT_up s12 (sqT_nt n0 hs)
      refine condF rfl ⟨_, rfl, qd, _, 0, _, rfl, rfl, hs2, atI_nat (j := 0) rfl, _, rfl, qd, _, 1, _, rfl, rfl, hs2, atI_nat (j := 1) rfl, (by decide : 2 ≤ sizeLine), fun l nl => ?_⟩
      exact q l _ _ _ (same_trans s12 (same_new nl)) (free_of s12 nl) upd_same h1 h2
/-! ### seen_in_some -/
def spSS (K : PySem.W.Frag) (T0 : List (Addr × Str)) : Sp := fun vs H Q _ => ∃ (H0 : Hp) (v1 v2 : V) (a : Sy) (d : PyData) (n : Nat), vs = [v1, v2] ∧ NoTbl H0 H ∧ At H (Sy.some a).tr v1 ∧ (Sy.some a).Ok 0 ∧ (Sy.some a).dp ≤ 8 ∧ Dp K H0 v2 d ∧ Tabs T0 H ∧ ((a.flat = true ∧ d = .int (n : Int)) ∨ (a.flat = false ∧ d = .tuple [un1 d, un2 d] ∧ un1 d = .int (n : Int))) ∧
  ∀ q x y H', ExtN H H' → Tabs T0 H' → H' q = some (.tup [x, y]) → At H' (a.at n 0).tr x → Dp K H0 y (if a.flat = true then .none else un2 d) → Q (.ref q) H'
theorem ok_ss (F : Fun K "seen_in_some" "seen_in_some" sSS f fd) (T : Tx K mg NO NU PA) (GK : FnOk P w K mg base CX0 3 fk dk ["saying"] (spKindOf K)) (bK : L2.Binds K dk ["saying"] []) (kK : PySem.W.keepIn K (.ref fk) = true) (mK : mg "kind_of" = some (.ref fk))
    (GP : FnOk P w K mg base CX0 4 fp dp ["body", "term"] (spPutIn T0)) (bP : L2.Binds K dp ["body", "term"] []) (kP : PySem.W.keepIn K (.ref fp) = true) (mP : mg "put_in" = some (.ref fp)) : FnOk P w K mg base CX0 5 f fd ["saying", "told"] (spSS K T0) := by
  refine F.ok scSS (fun vs H Q E h => ?_) (fun cdv Ar outer s0 H vs Q E hr h => ?_)
  · obtain ⟨_, v1, v2, a, d, n, rfl, _⟩ := h
    rfl
  have h3 : Room 3 _ := hr.mono (by decide)
  have u1 : (Ar.deeper (envOfC "seen_in_some" (defScope sSS) s0.heap.objs.size f cdv)).units + 130 < cLine := by
    have := hr.un
    omega
  obtain ⟨H0, v1, v2, a, d, n, rfl, n0, hA, ok, dd, hd, hT, ways, q⟩ := h
  refine ⟨_, (pss_cons (ps_asg (pe_ifExp (pt_cmpR (op_eqW u1) (pe_call GK h3 (by rfl) mK kK bK .nil pass0 (pa_cons (pe_ix ix_tup (pv 0) pe_int (fun _ _ => rfl)) pa_nil)) (pe_glob (v := .ref NO) (by rfl) T.mO rfl) (nomark _)) (pe_tup (pa_cons (pv 1) (pa_cons pe_non pa_nil))) (pv 1)) (pg_tup (by rfl) (pgs_cons (pg_name (i := 2) scSS.nd rfl (.inl rfl)) (pgs_cons (pg_name (i := 3) scSS.nd rfl (.inl rfl)) pgs_nil))))
    (pss_one (ps_ret (pe_tup (pa_cons (pe_call GP hr (by rfl) mP kP bP .nil pass0 (pa_cons (pe_ix ix_tup (pv 0) pe_int (fun _ _ => rfl)) (pa_cons (pe_tup (pa_cons pe_str (pa_cons (pv 2) pa_nil))) pa_nil))) (pa_cons (pv 3) pa_nil)))))), ?_⟩
  obtain ⟨p, x, rfl, hp, hx⟩ := hA
  have dd : a.dp + 1 ≤ 8 := dd
  have ok : a.Ok 1 := ok
  have la := lk_of1 ok (by omega)
  have ga := kd_gk la
  refine ⟨_, rfl, p, _, 1, _, rfl, rfl, .inl (.inl hp), atI_nat (j := 1) rfl, [], x, a.tr, rfl, lsn, hx, la.wf, by have := la.dp; omega, by have := la.sz; omega, fun u H1 hu s1 => ?_⟩
  refine ⟨kd a.tr, none1, hu.dp, dp_none T H1, ga.1, lay0, ga.2, ?_⟩
  rw [kd_flat ok]
  refine ⟨_, rfl, ?_⟩
  rcases ways with ⟨fa, rfl⟩ | ⟨fa, e, e1⟩
  · rw [fa] at q ⊢
    cases hd
    refine condT rfl ⟨_, rfl, (by decide : 2 ≤ sizeLine), fun t nt => ?_⟩
    have s2 := same_trans s1 (same_new (o := HO.tup [.int (n : Int), .non]) nt)
    have ft : upd H1 t (.tup [.int (n : Int), .non]) t = _ := upd_same
    generalize upd H1 t (.tup [.int (n : Int), .non]) = H2 at s2 ft ⊢
    refine ⟨t, _, rfl, .inl (.inl ft), rfl, _, _, rfl, _, _, rfl, rfl, ?_⟩
    refine ⟨_, rfl, p, _, 1, _, rfl, rfl, .inl (.inl (s2 _ _ hp)), atI_nat (j := 1) rfl, _, rfl, (by decide : 2 ≤ sizeLine), fun q2 n2 => ?_⟩
    have s3 := same_trans s2 (same_new (o := HO.tup [.str "num", .int (n : Int)]) n2)
    refine ⟨x, .ref q2, a.tr, (Lf.num n).tr, rfl, hx.keep (tups_same s3), okt_sy a, lay_sy a, by have := la.dp; omega, ⟨q2, rfl, upd_same⟩, tabs_same hT s3, fun v H4 e4 t4 h4 => ?_⟩
    rw [put_sy] at h4
    refine ⟨_, rfl, (by decide : 2 ≤ sizeLine), fun q5 n5 => ?_⟩
    have s5 := same_new (o := HO.tup [v, .non]) n5
    have eH := (ext_same s3).trans e4
    exact q q5 _ _ _ (eH.trans (ext_same s5)) (tabs_same t4 s5) upd_same (h4.keep (tups_same s5)) .non
  · rw [fa] at q ⊢
    rw [e] at hd
    obtain ⟨qd, xs, rfl, hs, hx2⟩ := Dp.view hd
    cases hx2 with
    | @cons x1 _ _ _ h1 hx2 =>
    cases hx2 with
    | @cons x2 _ _ _ h2 hx2 =>
    cases hx2
    rw [e1] at h1
    cases h1
    refine condF rfl ⟨_, rfl, ?_⟩
    refine ⟨qd, _, rfl, sqT_up s1 (sqT_nt n0 hs), rfl, _, _, rfl, _, _, rfl, rfl, ?_⟩
    refine ⟨_, rfl, p, _, 1, _, rfl, rfl, .inl (.inl (s1 _ _ hp)), atI_nat (j := 1) rfl, _, rfl, (by decide : 2 ≤ sizeLine), fun q2 n2 => ?_⟩
    have s3 := same_trans s1 (same_new (o := HO.tup [.str "num", .int (n : Int)]) n2)
    refine ⟨x, .ref q2, a.tr, (Lf.num n).tr, rfl, hx.keep (tups_same s3), okt_sy a, lay_sy a, by have := la.dp; omega, ⟨q2, rfl, upd_same⟩, tabs_same hT s3, fun v H4 e4 t4 h4 => ?_⟩
    rw [put_sy] at h4
    refine ⟨_, rfl, (by decide : 2 ≤ sizeLine), fun q5 n5 => ?_⟩
    have s5 := same_new (o := HO.tup [v, x2]) n5
    have eH := (ext_same s3).trans e4
    exact q q5 _ _ _ (eH.trans (ext_same s5)) (tabs_same t4 s5) upd_same (h4.keep (tups_same s5)) h2
/-! ### bears -/
theorem kd_size2 : ∀ k : Kd, k.size + 1 ≤ 2 ^ k.deep
  | .none => by decide
  | .number => by decide
  | .pair a b => two_pow (kd_size2 a) (kd_size2 b)
  | .frm a b => two_pow (kd_size2 a) (kd_size2 b)
  | .either a b => two_pow (kd_size2 a) (kd_size2 b)
/-- a saying and a thing, laid for the walk; the thing stands in the heap at first -/
def PrB (K : PySem.W.Frag) (H X : Hp) (u : V) (e : Sy × PyData) : Prop := ∃ (a : Addr) (v1 v2 : V), u = .ref a ∧ X a = some (.tup [v1, v2]) ∧ At X e.1.tr v1 ∧ Dp K H v2 e.2
theorem PrB.keep {H X X' : Hp} (t : Tups X X') {u : V} {q : Sy × PyData} (h : PrB K H X u q) : PrB K H X' u q := by
  obtain ⟨a, kv, v, e, h1, h2, h3⟩ := h
  exact ⟨a, kv, v, e, t _ _ h1, h2.keep t, h3⟩
def spBe (K : PySem.W.Frag) (T0 : List (Addr × Str)) : Sp := fun vs H Q _ => ∃ (v1 v2 : V) (s : Sy) (d : PyData), vs = [v1, v2] ∧ At H s.tr v1 ∧ s.Ok 0 ∧ s.dp ≤ 8 ∧ Dp K H v2 d ∧ ats d = true ∧ sml d = true ∧ Tabs T0 H ∧ ∀ H', ExtN H H' → Tabs T0 H' → Q (.bl (fitsD s.kind d && borne s d)) H'
theorem ok_be (F : Fun K "bears" "bears" sBe f fd) (GI : FnOk P w K mg base CX0 2 fi di ["kind", "thing"] (spIWX K)) (bI : L2.Binds K di ["kind", "thing"] []) (kI : PySem.W.keepIn K (.ref fi) = true) (mI : mg "is_worth" = some (.ref fi))
    (GK : FnOk P w K mg base CX0 3 fk dk ["saying"] (spKindOf K)) (bK : L2.Binds K dk ["saying"] []) (kK : PySem.W.keepIn K (.ref fk) = true) (mK : mg "kind_of" = some (.ref fk))
    (GF : FnOk P w K mg base CX0 2 ff df ["saying"] (spQ flatB)) (bF : L2.Binds K df ["saying"] []) (kF : PySem.W.keepIn K (.ref ff) = true) (mF : mg "is_flat" = some (.ref ff))
    (GT : FnOk P w K mg base CX0 4 ft dt ["saying"] spTrueS) (bT : L2.Binds K dt ["saying"] []) (kT : PySem.W.keepIn K (.ref ft) = true) (mT : mg "is_true" = some (.ref ft))
    (GW : FnOk P w K mg base CX0 4 fw dw ["saying", "told"] (spWB K)) (bW : L2.Binds K dw ["saying", "told"] []) (kW : PySem.W.keepIn K (.ref fw) = true) (mW : mg "worths_of_both" = some (.ref fw))
    (GS : FnOk P w K mg base CX0 5 fs ds ["saying", "told"] (spSS K T0)) (bS : L2.Binds K ds ["saying", "told"] []) (kS : PySem.W.keepIn K (.ref fs) = true) (mS : mg "seen_in_some" = some (.ref fs)) : FnOk P w K mg base CX0 6 f fd ["saying", "thing"] (spBe K T0) := by
  refine F.ok scBe (fun vs H Q E h => ?_) (fun cdv Ar outer s0 H vs Q E hr h => ?_)
  · obtain ⟨v1, v2, s, d, rfl, _⟩ := h
    rfl
  have h4 : Room 4 _ := hr.mono (by decide)
  have h3 : Room 3 _ := hr.mono (by decide)
  have h2 : Room 2 _ := hr.mono (by decide)
  obtain ⟨v1, v2, s, d, rfl, hA, ok, dd, hd, at0, sm0, hT, q⟩ := h
  refine ⟨_, (pss_cons (ps_if (pt_not (pt_val (pe_call GI h2 (by rfl) mI kI bI .nil pass0 (pa_cons (pe_call GK h3 (by rfl) mK kK bK .nil pass0 (pa_cons (pv 0) pa_nil)) (pa_cons (pv 1) pa_nil))))) (pss_one (ps_ret pe_bl)) pss_nil)
    (pss_cons (ps_set (i := 2) scBe.nd rfl (.inl rfl) pe_bl)
    (pss_cons (ps_set (i := 3) scBe.nd rfl (.inl rfl) (pe_lst (pa_cons (pe_tup (pa_cons (pv 0) (pa_cons (pv 1) pa_nil))) pa_nil)))
    (pss_cons (ps_while PassesOwn.never (pt_truth (pv 3) (by intro _; rfl)) (pss_cons (ps_asg (pe_bm0 PySem.F.plainAttrs_list PySem.F.slot_list_pop PySem.F.type_list_pop mt_pop (pv 3)) (pg_tup (by rfl) (pgs_cons (pg_name (i := 4) scBe.nd rfl (.inl rfl)) (pgs_cons (pg_name (i := 5) scBe.nd rfl (.inl rfl)) pgs_nil))))
    (pss_one (ps_if (pt_val (pe_call GF h2 (by rfl) mF kF bF .nil pass0 (pa_cons (pv 4) pa_nil))) (pss_one (ps_set (i := 2) scBe.nd rfl (.inl rfl) (pe_and (pe_call GT h4 (by rfl) mT kT bT .nil pass0 (pa_cons (pv 4) pa_nil)) (pe_one (pv 2))))) (pss_one (ps_if (pt_cmpR op_eq (pe_ix ix_tup (pv 4) pe_int (fun _ _ => rfl)) pe_str (nomark _)) (pss_cons (ps_asg (pe_call GW h4 (by rfl) mW kW bW .nil pass0 (pa_cons (pv 4) (pa_cons (pv 5) pa_nil))) (pg_unl (by rfl) (pgs_cons (pg_name (i := 6) scBe.nd rfl (.inl rfl)) (pgs_cons (pg_name (i := 7) scBe.nd rfl (.inl rfl)) pgs_nil))))
    (pss_cons (ps_expr (pe_bm PySem.F.plainAttrs_list PySem.F.slot_list_append PySem.F.type_list_append mt_append (pv 3) (pa_cons (pe_tup (pa_cons (pe_ix ix_tup (pv 4) pe_int (fun _ _ => rfl)) (pa_cons (pv 7) pa_nil))) pa_nil)))
    (pss_one (ps_expr (pe_bm PySem.F.plainAttrs_list PySem.F.slot_list_append PySem.F.type_list_append mt_append (pv 3) (pa_cons (pe_tup (pa_cons (pe_ix ix_tup (pv 4) pe_int (fun _ _ => rfl)) (pa_cons (pv 6) pa_nil))) pa_nil)))))) (pss_one (ps_if (pt_cmpR op_eq (pe_ix ix_tup (pv 4) pe_int (fun _ _ => rfl)) pe_str (nomark _)) (pss_one (ps_expr (pe_bm PySem.F.plainAttrs_list PySem.F.slot_list_append PySem.F.type_list_append mt_append (pv 3) (pa_cons (pe_tup (pa_cons (pe_ix ix_tup (pv 4) (pe_ifExp (pt_cmpR op_eq (pe_ix ix_tup (pv 5) pe_int (fun _ _ => rfl)) pe_str (nomark _)) pe_int pe_int) (fun _ _ => rfl)) (pa_cons (pe_ix ix_tup (pv 5) pe_int (fun _ _ => rfl)) pa_nil))) pa_nil)))) (pss_one (ps_if (pt_cmpR op_eq (pe_ix ix_tup (pv 4) pe_int (fun _ _ => rfl)) pe_str (nomark _)) (pss_one (ps_expr (pe_bm PySem.F.plainAttrs_list PySem.F.slot_list_append PySem.F.type_list_append mt_append (pv 3) (pa_cons (pe_call GS hr (by rfl) mS kS bS .nil pass0 (pa_cons (pv 4) (pa_cons (pv 5) pa_nil))) pa_nil)))) (pss_one (ps_if (pt_val (pe_call GT h4 (by rfl) mT kT bT .nil pass0 (pa_cons (pe_ix ix_tup (pv 4) pe_int (fun _ _ => rfl)) pa_nil))) (pss_one (ps_expr (pe_bm PySem.F.plainAttrs_list PySem.F.slot_list_append PySem.F.type_list_append mt_append (pv 3) (pa_cons (pe_tup (pa_cons (pe_ix ix_tup (pv 4) pe_int (fun _ _ => rfl)) (pa_cons (pv 5) pa_nil))) pa_nil)))) pss_nil))))))))))))
    (pss_one (ps_ret (pv 2))))))), ?_⟩
  have big : 100000 ≤ sizeLine := by decide
  have ls := lk_of ok dd
  refine ⟨_, rfl, [], v1, s.tr, rfl, lsn, hA, ls.wf, by have := ls.dp; omega, by have := ls.sz; omega, fun u H1 hu s1 => ?_⟩
  have hu2 : Dp K H1 u (kdD s.kind) := by
    have z := hu.dp
    rw [kd_is] at z
    exact z
  have ksz : s.kind.size ≤ 20000 := by
    have a := kd_size2 s.kind
    have b := kdT_deep s.tr
    have c := ls.dp
    have e : 2 ^ s.kind.deep ≤ 2 ^ 11 := Nat.pow_le_pow_right (by decide) (by show (kdT s.tr).deep ≤ 11; omega)
    have e2 : 2 ^ 11 = 2048 := by decide
    omega
  refine ⟨_, rfl, u, v2, s.kind, d, rfl, hu2, dp_up s1 _ _ hd, at0, ksz, fun H2 s2 => ?_⟩
  have s12 := same_trans s1 s2
  refine ⟨_, rfl, ?_⟩
  cases fit : fitsD s.kind d with
  | false =>
    rw [fit] at q
    exact condT rfl (q H2 (ext_same s12) (tabs_same hT s12))
  | true =>
  rw [fit] at q
  refine condF rfl ?_
  refine ⟨_, rfl, _, rfl, (by decide : 2 ≤ sizeLine), fun q0 nq => ⟨(by decide : 1 ≤ sizeLine), fun l nl0 => ?_⟩⟩
  have s3 := same_trans s12 (same_new (o := HO.tup [v1, v2]) nq)
  have nl : H l = none := free_of s3 nl0
  have s4 := same_put (o := HO.lst [.ref q0]) s3 nl0
  have tq : upd (upd H2 q0 (.tup [v1, v2])) l (.lst [.ref q0]) q0 = some (.tup [v1, v2]) := same_new nl0 _ _ upd_same
  have fl0 : upd (upd H2 q0 (.tup [v1, v2])) l (.lst [.ref q0]) l = some (.lst [.ref q0]) := upd_same
  generalize upd (upd H2 q0 (.tup [v1, v2])) l (.lst [.ref q0]) = H3 at s4 tq fl0
  have pr0 : Pr s d := ⟨ok, dd, fit, sm0, at0⟩
  have szs := sz_size s
  have szs2 := ls.sz
  refine ⟨fun mm σ X => ∃ (us : List V) (es : List (Sy × PyData)) (b : Bool) (y4 y5 y6 y7 : Option V), σ = [some v1, some v2, some (.bl b), some (.ref l), y4, y5, y6, y7] ∧ X l = some (.lst us) ∧ ExtN H X ∧ Tabs T0 X ∧ All2 (PrB K H X) us es ∧ szb es ≤ mm ∧ mm ≤ 1200 ∧ (∀ e ∈ es, Pr e.1 e.2) ∧ borne s d = (b && es.all fun e => borne e.1 e.2),
    ⟨s.sz, [.ref q0], [(s, d)], true, none, none, none, none, rfl, fl0, ext_same s4, tabs_same hT s4, .one ⟨q0, v1, v2, rfl, tq, hA.keep (tups_same s4), hd⟩, by simp [szb], by omega, fun e he => by rw [List.mem_singleton.mp he]; exact pr0, by simp⟩, ?_⟩
  clear s1 s2 s12 s3 s4 tq fl0 nl0 nq hu hu2
  rintro mm σ X ⟨us, es, b, y4, y5, y6, y7, rfl, hl, sm, tb, al, sz, m40, prs, ev⟩
  refine ⟨_, rfl, !us.isEmpty, .inl ⟨us, .inl (.inl hl), rfl⟩, ?_⟩
  rcases List.eq_nil_or_concat es with en | ⟨es0, e1, en⟩
  · subst en
    cases al
    refine iteF ⟨_, rfl, ?_⟩
    have z := q X sm tb
    rw [ev] at z
    rw [show (true && (b && ([] : List (Sy × PyData)).all fun e => borne e.1 e.2)) = b by simp] at z
    exact z
  rw [List.concat_eq_append] at en
  subst en
  obtain ⟨us0, u, rfl, al0, hu⟩ := al.last
  have l0 := al0.len
  rw [szb_app] at sz
  obtain ⟨s1, d1⟩ := e1
  have sz : szb es0 + (s1.sz + 0) ≤ mm := sz
  have p1 := sy_sz1 s1
  have ln := len_szb es0
  have pr1 : Pr s1 d1 := prs (s1, d1) (by simp)
  have prs0 : ∀ e ∈ es0, Pr e.1 e.2 := fun e he => prs e (by simp [he])
  rw [List.all_append] at ev
  have ev : borne s d = (b && (es0.all (fun e => borne e.1 e.2) && (borne s1 d1 && true))) := ev
  rw [Bool.and_true] at ev
  refine condT (by simp) ⟨fun σ' X' => ∃ m', m' < mm ∧ ∃ (us : List V) (es : List (Sy × PyData)) (b : Bool) (y4 y5 y6 y7 : Option V), σ' = [some v1, some v2, some (.bl b), some (.ref l), y4, y5, y6, y7] ∧ X' l = some (.lst us) ∧ ExtN H X' ∧ Tabs T0 X' ∧ All2 (PrB K H X') us es ∧ szb es ≤ m' ∧ m' ≤ 1200 ∧ (∀ e ∈ es, Pr e.1 e.2) ∧ borne s d = (b && es.all fun e => borne e.1 e.2), fun _ _ h => h, ?_⟩
  refine ⟨_, rfl, .inl ⟨rfl, _, .inl (.inl hl)⟩, l, _, u, rfl, rfl, hl, ?_, ?_⟩
  · rw [List.length_append, List.length_singleton, Nat.add_sub_cancel, List.getElem?_append_right (Nat.le_refl _), Nat.sub_self]
    rfl
  rw [List.dropLast_concat]
  have t2 : Tups X (upd X l (.lst us0)) := tups_lst hl
  have s2 : ExtN H (upd X l (.lst us0)) := ext_own sm nl
  have tb2 := tabs_own (o := HO.lst us0) tb hl
  have hl2 : upd X l (.lst us0) l = some (.lst us0) := upd_same
  have al2 : All2 (PrB K H (upd X l (.lst us0))) us0 es0 := al0.mono fun _ _ h => PrB.keep t2 h
  obtain ⟨qi, w1, w2, rfl, hqi, ha, hx0⟩ := PrB.keep t2 hu
  change At (upd X l (.lst us0)) s1.tr w1 at ha
  change Dp K H w2 d1 at hx0
  clear t2 al0 hu hl sm tb al
  generalize upd X l (.lst us0) = X2 at s2 hl2 al2 ha hqi tb2
  have hx2 : Dp K X2 w2 d1 := dp_nt (ext_nt s2) _ _ hx0
  refine ⟨qi, [w1, w2], rfl, .inl (.inl hqi), rfl, w1, [w2], rfl, w2, [], rfl, rfl, ?_⟩
  have lk1 := lk_of pr1.ok pr1.dp
  refine ⟨_, rfl, w1, s1.tr, rfl, ha, lk1.wf, by have := lk1.sz; omega, fun X3 s3 => ?_⟩
  rw [flat_tr]
  have hl3 := s3 _ _ hl2
  have ha3 := ha.keep (tups_same s3)
  have s3H := s2.trans (ext_same s3)
  have tb3 := tabs_same tb2 s3
  have al3 : All2 (PrB K H X3) us0 es0 := al2.mono fun _ _ h => PrB.keep (tups_same s3) h
  have hx3 := dp_up s3 _ _ hx2
  clear s2 hl2 al2 ha hqi tb2 s3 hx2
  refine ⟨_, rfl, ?_⟩
  cases fl : s1.flat with
  | true =>
    refine condT rfl ?_
    refine ⟨_, rfl, w1, s1, rfl, ha3, fl, pr1.ok, pr1.dp, fun X4 s4 => ?_⟩
    rw [borne_flat fl] at ev
    have z : ∃ m', m' < mm ∧ ∃ (us : List V) (es : List (Sy × PyData)) (b' : Bool) (y4' y5' y6' y7' : Option V), [some v1, some v2, some (.bl (s1.tru && b)), some (.ref l), some w1, some w2, y6, y7] = [some v1, some v2, some (.bl b'), some (.ref l), y4', y5', y6', y7'] ∧ X4 l = some (.lst us) ∧ ExtN H X4 ∧ Tabs T0 X4 ∧ All2 (PrB K H X4) us es ∧ szb es ≤ m' ∧ m' ≤ 1200 ∧ (∀ e ∈ es, Pr e.1 e.2) ∧ borne s d = (b' && es.all fun e => borne e.1 e.2) :=
      ⟨mm - 1, by omega, us0, es0, _, _, _, _, _, rfl, s4 _ _ hl3, s3H.trans (ext_same s4), tabs_same tb3 s4, al3.mono fun _ _ h => PrB.keep (tups_same s4) h, by omega, by omega, prs0, by rw [ev]; cases s1.tru <;> cases b <;> simp⟩
    refine ⟨_, rfl, ?_⟩
    cases c : s1.tru with
    | true =>
      rw [c] at z
      exact condT rfl ⟨_, rfl, z⟩
    | false =>
      rw [c] at z
      exact condF rfl z
  | false =>
  refine condF rfl ?_
  -- two more to do
  have push : ∀ (X4 : Hp) (q4 : Addr) (x1 x2 : V) (sa : Sy) (da : PyData) (us1 : List V) (es1 : List (Sy × PyData)), X4 l = some (.lst us1) → ExtN H X4 → Tabs T0 X4 → All2 (PrB K H X4) us1 es1 → X4 q4 = some (.tup [x1, x2]) → At X4 sa.tr x1 → Dp K H x2 da →
      upd X4 l (.lst (us1 ++ [.ref q4])) l = some (.lst (us1 ++ [.ref q4])) ∧ ExtN H (upd X4 l (.lst (us1 ++ [.ref q4]))) ∧ Tabs T0 (upd X4 l (.lst (us1 ++ [.ref q4]))) ∧ All2 (PrB K H (upd X4 l (.lst (us1 ++ [.ref q4])))) (us1 ++ [.ref q4]) (es1 ++ [(sa, da)]) := fun X4 q4 x1 x2 sa da us1 es1 hl4 s4 tb4 al4 hq ha hd => by
    have t : Tups X4 (upd X4 l (.lst (us1 ++ [.ref q4]))) := tups_lst hl4
    exact ⟨upd_same, ext_own s4 nl, tabs_own tb4 hl4, (al4.mono fun _ _ h => PrB.keep t h).app (.one ⟨q4, x1, x2, rfl, t _ _ hq, ha.keep t, hd⟩)⟩
  cases s1 with
  | same a b => cases fl
  | no => cases fl
  | and a b' =>
    obtain ⟨pa, pb, two⟩ := pr1.and
    rw [borne_and fl] at ev
    obtain ⟨p, x, y, rfl, hp, hx, hy⟩ := id ha3
    have hz : szb es0 + (a.sz + b'.sz + 1 + 0) ≤ mm := sz
    refine ⟨_, rfl, p, _, 0, _, rfl, rfl, .inl (.inl hp), head_at _ _, rfl, _, rfl, wdT rfl ?_⟩
    refine ⟨_, rfl, _, rfl, H, .ref p, w2, a, b', d1, rfl, ext_nt s3H, ha3, pr1.ok, pr1.dp, hx0, two, fun lw x1 x2 X4 s4 nlw hlw hx1 hx2 => ?_⟩
    refine ⟨lw, _, rfl, .inl (.inl hlw), rfl, _, _, rfl, _, _, rfl, rfl, ?_⟩
    have hl4 := s4 _ _ hl3
    have hp4 := s4 _ _ hp
    refine ⟨_, rfl, .inl ⟨rfl, _, .inl (.inl hl4)⟩, _, rfl, p, _, 2, _, rfl, rfl, .inl (.inl hp4), atI_nat (j := 2) rfl, _, rfl, (by decide : 2 ≤ sizeLine), fun q4 n4 => ?_⟩
    have s5 := same_trans s4 (same_new (o := HO.tup [y, x2]) n4)
    have f4 : upd X4 q4 (.tup [y, x2]) q4 = _ := upd_same
    generalize upd X4 q4 (.tup [y, x2]) = X5 at s5 f4 ⊢
    refine ⟨l, _, _, rfl, rfl, s5 _ _ hl3, by omega, ?_⟩
    obtain ⟨g1, g2, g3, g4⟩ := push X5 q4 y x2 b' _ us0 es0 (s5 _ _ hl3) (s3H.trans (ext_same s5)) (tabs_same tb3 s5) (al3.mono fun _ _ h => PrB.keep (tups_same s5) h) f4 (hy.keep (tups_same s5)) hx2
    have t5 : Tups X3 (upd X5 l (.lst (us0 ++ [.ref q4]))) := (tups_same s5).trans (tups_lst (s5 _ _ hl3))
    have hp6 := t5 _ _ hp
    have hx6 := hx.keep t5
    generalize upd X5 l (.lst (us0 ++ [.ref q4])) = X6 at g1 g2 g3 g4 hp6 hx6 ⊢
    refine ⟨_, rfl, .inl ⟨rfl, _, .inl (.inl g1)⟩, _, rfl, p, _, 1, _, rfl, rfl, .inl (.inl hp6), atI_nat (j := 1) rfl, _, rfl, (by decide : 2 ≤ sizeLine), fun q5 n5 => ?_⟩
    have s7 := same_new (o := HO.tup [x, x1]) n5
    have f5 : upd X6 q5 (.tup [x, x1]) q5 = _ := upd_same
    generalize upd X6 q5 (.tup [x, x1]) = X7 at s7 f5 ⊢
    refine ⟨l, _, _, rfl, rfl, s7 _ _ g1, by rw [List.length_append, List.length_singleton]; omega, ?_⟩
    obtain ⟨k1, k2, k3, k4⟩ := push X7 q5 x x1 a _ _ _ (s7 _ _ g1) (g2.trans (ext_same s7)) (tabs_same g3 s7) (g4.mono fun _ _ h => PrB.keep (tups_same s7) h) f5 (hx6.keep (tups_same s7)) hx1
    refine ⟨mm - 1, by omega, _, _, b, _, _, _, _, rfl, k1, k2, k3, k4, ?_, by omega, fun e he => ?_, ?_⟩
    · rw [szb_app, szb_app]
      show szb es0 + (b'.sz + 0) + (a.sz + 0) ≤ mm - 1
      omega
    · rcases List.mem_append.mp he with he | he
      · rcases List.mem_append.mp he with he | he
        · exact prs0 e he
        · rw [List.mem_singleton.mp he]
          exact pb
      · rw [List.mem_singleton.mp he]
        exact pa
    · rw [ev, List.all_append, List.all_append]
      show (b && (_ && (borne a _ && borne b' _))) = (b && (_ && (borne b' _ && true) && (borne a _ && true)))
      rw [Bool.and_true, Bool.and_true, Bool.and_assoc, Bool.and_comm (borne a _)]
  | or a b' =>
    obtain ⟨e1, sd, pthat, pthis⟩ := pr1.or
    rw [borne_or] at ev
    obtain ⟨p, x, y, rfl, hp, hx, hy⟩ := id ha3
    have hz : szb es0 + (a.sz + b'.sz + 1 + 0) ≤ mm := sz
    have pa1 := sy_sz1 a
    have pb1 := sy_sz1 b'
    refine ⟨_, rfl, p, _, 0, _, rfl, rfl, .inl (.inl hp), head_at _ _, rfl, _, rfl, wdF (by decide +kernel) ?_⟩
    refine ⟨_, rfl, p, _, 0, _, rfl, rfl, .inl (.inl hp), head_at _ _, rfl, _, rfl, wdT rfl ?_⟩
    rw [e1] at hx0
    obtain ⟨qd, xs, rfl, hs0, hxx⟩ := Dp.view hx0
    cases hxx with
    | @cons u1 _ _ _ h1 hxx =>
    cases hxx with
    | @cons u2 _ _ _ h2 hxx =>
    cases hxx
    have hs := sqT_nt (ext_nt s3H) hs0
    obtain ⟨z, ez⟩ : ∃ z, un1 d1 = .str z := by
      cases u : un1 d1 with
      | str z => exact ⟨z, rfl⟩
      | _ => rw [u] at sd; cases sd
    rw [ez] at h1 sd pthat pthis ev
    cases h1
    have sd : (decide (z = "this") || decide (z = "that")) = true := sd
    refine ⟨_, rfl, .inl ⟨rfl, _, .inl (.inl hl3)⟩, _, rfl, _, rfl, qd, _, 0, _, rfl, rfl, hs, head_at _ _, rfl, _, rfl, ?_⟩
    have done : ∀ (sa : Sy) (va : V) (q4 : Addr), X3 q4 = none → At X3 sa.tr va → Pr sa (un2 d1) → sa.sz + 1 ≤ a.sz + b'.sz + 1 → borne s d = (b && (es0.all (fun e => borne e.1 e.2) && borne sa (un2 d1))) → ∃ m', m' < mm ∧ ∃ (us : List V) (es : List (Sy × PyData)) (b' : Bool) (y4' y5' y6' y7' : Option V), [some v1, some v2, some (.bl b), some (.ref l), some (.ref p), some (.ref qd), y6, y7] = [some v1, some v2, some (.bl b'), some (.ref l), y4', y5', y6', y7'] ∧ upd (upd X3 q4 (.tup [va, u2])) l (.lst (us0 ++ [.ref q4])) l = some (.lst us) ∧ ExtN H (upd (upd X3 q4 (.tup [va, u2])) l (.lst (us0 ++ [.ref q4]))) ∧ Tabs T0 (upd (upd X3 q4 (.tup [va, u2])) l (.lst (us0 ++ [.ref q4]))) ∧ All2 (PrB K H (upd (upd X3 q4 (.tup [va, u2])) l (.lst (us0 ++ [.ref q4])))) us es ∧ szb es ≤ m' ∧ m' ≤ 1200 ∧ (∀ e ∈ es, Pr e.1 e.2) ∧ borne s d = (b' && es.all fun e => borne e.1 e.2) := fun sa va q4 n4 hva pra lsz ebn => by
      have s5 := same_new (o := HO.tup [va, u2]) n4
      obtain ⟨g1, g2, g3, g4⟩ := push _ q4 va u2 sa (un2 d1) us0 es0 (s5 _ _ hl3) (s3H.trans (ext_same s5)) (tabs_same tb3 s5) (al3.mono fun _ _ h => PrB.keep (tups_same s5) h) upd_same (hva.keep (tups_same s5)) h2
      refine ⟨mm - 1, by omega, _, _, b, _, _, _, _, rfl, g1, g2, g3, g4, ?_, by omega, fun e he => ?_, ?_⟩
      · rw [szb_app]
        show szb es0 + (sa.sz + 0) ≤ mm - 1
        omega
      · rcases List.mem_append.mp he with he | he
        · exact prs0 e he
        · rw [List.mem_singleton.mp he]
          exact pra
      · rw [ebn, List.all_append]
        show (b && (_ && borne sa _)) = (b && (_ && (borne sa _ && true)))
        rw [Bool.and_true]
    by_cases e0 : z = "this"
    · subst e0
      refine wdT rfl ⟨p, _, 1, _, rfl, rfl, .inl (.inl hp), atI_nat (j := 1) rfl, _, rfl, qd, _, 1, _, rfl, rfl, hs, atI_nat (j := 1) rfl, (by decide : 2 ≤ sizeLine), fun q4 n4 => ?_⟩
      refine ⟨l, _, _, rfl, rfl, same_new n4 _ _ hl3, by omega, ?_⟩
      have nt : isThat (.str "this") = false := by decide +kernel
      rw [if_neg (by rw [nt]; exact Bool.false_ne_true)] at ev
      exact done a x q4 n4 hx (pthis nt) (by omega) ev
    · have e2 : z = "that" := by
        rw [decide_eq_false e0, Bool.false_or] at sd
        exact of_decide_eq_true sd
      subst e2
      refine wdF (by decide +kernel) ⟨p, _, 2, _, rfl, rfl, .inl (.inl hp), atI_nat (j := 2) rfl, _, rfl, qd, _, 1, _, rfl, rfl, hs, atI_nat (j := 1) rfl, (by decide : 2 ≤ sizeLine), fun q4 n4 => ?_⟩
      refine ⟨l, _, _, rfl, rfl, same_new n4 _ _ hl3, by omega, ?_⟩
      have nt : isThat (.str "that") = true := by decide +kernel
      rw [if_pos nt] at ev
      exact done b' y q4 n4 hy (pthat nt) (by omega) ev
  | cond a b' =>
    have pb := pr1.cond
    rw [borne_cond fl] at ev
    obtain ⟨p, x, y, rfl, hp, hx, hy⟩ := id ha3
    have hz : szb es0 + (a.sz + b'.sz + 1 + 0) ≤ mm := sz
    have dd1 : max a.dp b'.dp + 1 ≤ 8 := pr1.dp
    refine ⟨_, rfl, p, _, 0, _, rfl, rfl, .inl (.inl hp), head_at _ _, rfl, _, rfl, wdF (by decide +kernel) ?_⟩
    refine ⟨_, rfl, p, _, 0, _, rfl, rfl, .inl (.inl hp), head_at _ _, rfl, _, rfl, wdF (by decide +kernel) ?_⟩
    refine ⟨_, rfl, p, _, 0, _, rfl, rfl, .inl (.inl hp), head_at _ _, rfl, _, rfl, wdF (by decide +kernel) ?_⟩
    refine ⟨_, rfl, p, _, 1, _, rfl, rfl, .inl (.inl hp), atI_nat (j := 1) rfl, x, a, rfl, hx, pr1.ok.1, pr1.ok.2.1, by omega, fun X4 s4 => ?_⟩
    have hl4 := s4 _ _ hl3
    have hp4 := s4 _ _ hp
    have hy4 := hy.keep (tups_same s4)
    have e4H := s3H.trans (ext_same s4)
    have tb4 := tabs_same tb3 s4
    have al4 : All2 (PrB K H X4) us0 es0 := al3.mono fun _ _ h => PrB.keep (tups_same s4) h
    refine ⟨_, rfl, ?_⟩
    cases c : a.tru with
    | false =>
      rw [c] at ev
      refine condF rfl ⟨mm - 1, by omega, us0, es0, b, _, _, _, _, rfl, hl4, e4H, tb4, al4, by omega, by omega, prs0, ?_⟩
      rw [ev]
      simp
    | true =>
      rw [c] at ev
      refine condT rfl ?_
      refine ⟨_, rfl, .inl ⟨rfl, _, .inl (.inl hl4)⟩, _, rfl, p, _, 2, _, rfl, rfl, .inl (.inl hp4), atI_nat (j := 2) rfl, _, rfl, (by decide : 2 ≤ sizeLine), fun q4 n4 => ?_⟩
      have s5 := same_new (o := HO.tup [y, w2]) n4
      refine ⟨l, _, _, rfl, rfl, s5 _ _ hl4, by omega, ?_⟩
      obtain ⟨g1, g2, g3, g4⟩ := push _ q4 y w2 b' d1 us0 es0 (s5 _ _ hl4) (e4H.trans (ext_same s5)) (tabs_same tb4 s5) (al4.mono fun _ _ h => PrB.keep (tups_same s5) h) upd_same (hy4.keep (tups_same s5)) hx0
      refine ⟨mm - 1, by omega, _, _, b, _, _, _, _, rfl, g1, g2, g3, g4, ?_, by omega, fun e he => ?_, ?_⟩
      · rw [szb_app]
        show szb es0 + (b'.sz + 0) ≤ mm - 1
        omega
      · rcases List.mem_append.mp he with he | he
        · exact prs0 e he
        · rw [List.mem_singleton.mp he]
          exact pb
      · rw [ev, List.all_append]
        simp
  | some a =>
    rw [borne_some] at ev
    have hz : szb es0 + (a.sz + 1 + 0) ≤ mm := sz
    obtain ⟨p, x, rfl, hp, hx⟩ := id ha3
    refine ⟨_, rfl, p, _, 0, _, rfl, rfl, .inl (.inl hp), head_at _ _, rfl, _, rfl, wdF (by decide +kernel) ?_⟩
    refine ⟨_, rfl, p, _, 0, _, rfl, rfl, .inl (.inl hp), head_at _ _, rfl, _, rfl, wdF (by decide +kernel) ?_⟩
    refine ⟨_, rfl, p, _, 0, _, rfl, rfl, .inl (.inl hp), head_at _ _, rfl, _, rfl, wdT rfl ?_⟩
    obtain ⟨n, ways, prn, evn⟩ : ∃ n : Nat, ((a.flat = true ∧ d1 = .int (n : Int)) ∨ (a.flat = false ∧ d1 = .tuple [un1 d1, un2 d1] ∧ un1 d1 = .int (n : Int))) ∧ Pr (a.at n 0) (if a.flat = true then .none else un2 d1) ∧ borne s d = (b && (es0.all (fun e => borne e.1 e.2) && borne (a.at n 0) (if a.flat = true then .none else un2 d1))) := by
      cases fa : a.flat with
      | true =>
        obtain ⟨e1, n5, pr⟩ := pr1.someF fa
        rw [if_pos fa] at ev
        exact ⟨numN d1, .inl ⟨rfl, e1⟩, pr, ev⟩
      | false =>
        obtain ⟨e1, e2, n5, pr⟩ := pr1.someN fa
        rw [if_neg (by rw [fa]; exact Bool.false_ne_true)] at ev
        exact ⟨numN (un1 d1), .inr ⟨rfl, e1, e2⟩, pr, ev⟩
    refine ⟨_, rfl, .inl ⟨rfl, _, .inl (.inl hl3)⟩, _, rfl, _, rfl, H, .ref p, w2, a, d1, n, rfl, ext_nt s3H, ha3, pr1.ok, pr1.dp, hx0, tb3, ways, fun q4 x1 x2 X4 e4 t4 hq4 hx1 hx2 => ?_⟩
    have hl4 := e4 _ _ hl3 (fun ps z => by cases z)
    refine ⟨l, _, _, rfl, rfl, hl4, by omega, ?_⟩
    obtain ⟨g1, g2, g3, g4⟩ := push X4 q4 x1 x2 (a.at n 0) _ us0 es0 hl4 (s3H.trans e4) t4 (al3.mono fun _ _ h => PrB.keep (ext_tups e4) h) hq4 hx1 hx2
    refine ⟨mm - 1, by omega, _, _, b, _, _, _, _, rfl, g1, g2, g3, g4, ?_, by omega, fun e he => ?_, ?_⟩
    · rw [szb_app]
      show szb es0 + ((a.at n 0).sz + 0) ≤ mm - 1
      rw [sz_at]
      omega
    · rcases List.mem_append.mp he with he | he
      · exact prs0 e he
      · rw [List.mem_singleton.mp he]
        exact prn
    · rw [evn, List.all_append]
      show (b && (_ && borne _ _)) = (b && (_ && (borne _ _ && true)))
      rw [Bool.and_true]
end
end Kf
set_option Elab.async false
set_option linter.all false
set_option maxRecDepth 100000
set_option maxHeartbeats 4000000
set_option pp.maxSteps 400
/-! The sayings that the law makes. -/
namespace Kf
open PySem PySem.Spec PyProof.Rows L2 Sx
abbrev sFlat : Stmt := top 39
abbrev sSmall : Stmt := top 40
abbrev sSeen : Stmt := top 41
theorem scFlat : FnScope ["feed", "deep", "names", "around", "way", "one", "word"] ["feed", "deep", "names", "around"] (defScope sFlat) := ⟨rfl, rfl, rfl, by decide +kernel, rfl, by decide +kernel, by decide +kernel⟩
theorem scSmall : FnScope ["feed", "deep", "names", "around", "way", "word", "one"] ["feed", "deep", "names", "around"] (defScope sSmall) := ⟨rfl, rfl, rfl, by decide +kernel, rfl, by decide +kernel, by decide +kernel⟩
theorem scSeen : FnScope ["feed", "deep", "around", "left", "way", "word"] ["feed", "deep", "around", "left"] (defScope sSeen) := ⟨rfl, rfl, rfl, by decide +kernel, rfl, by decide +kernel, by decide +kernel⟩
theorem wordsD : ∀ x ∈ ([.str "and", .str "or", .str "or"] : List V), ∃ wd : Str, x = .str wd ∧ (wd = "and" ∨ wd = "or") := by
  intro x hx
  rcases List.mem_cons.mp hx with e | hx
  · exact ⟨_, e, by decide +kernel⟩
  rcases List.mem_cons.mp hx with e | hx
  · exact ⟨_, e, by decide +kernel⟩
  · exact ⟨_, List.mem_singleton.mp hx, by decide +kernel⟩
/-! ### what is made -/
def MkT (c d : Nat) (t : Tr) : Prop := ∃ m : Tm, t = m.tr ∧ m.Ok c ∧ (d = 0 → ∃ l, m = .lf l)
def MkF (c d : Nat) (t : Tr) : Prop := ∃ s : Sy, t = s.tr ∧ s.flat = true ∧ s.Ok c ∧ s.dp ≤ d + 1
def MkS (c d : Nat) (t : Tr) : Prop := ∃ s : Sy, t = s.tr ∧ s.Ok c ∧ s.dp ≤ d + 2
theorem mkt_bound {r k : Int} {d : Nat} (k0 : 0 ≤ k) (k1 : k < r) : MkT r.toNat d (.leaf "bound" (.int k)) :=
  ⟨.lf (.bnd k.toNat), by show Tr.leaf "bound" (.int k) = Tr.leaf "bound" (.int (k.toNat : Int)); rw [Int.toNat_of_nonneg k0], by show k.toNat < r.toNat; omega, fun _ => ⟨_, rfl⟩⟩
theorem mkt_num {c d : Nat} {k : Int} (k0 : 0 ≤ k) (k1 : k < 4) : MkT c d (.leaf "num" (.int k)) :=
  ⟨.lf (.num k.toNat), by show Tr.leaf "num" (.int k) = Tr.leaf "num" (.int (k.toNat : Int)); rw [Int.toNat_of_nonneg k0], by show k.toNat ≤ 5; omega, fun _ => ⟨_, rfl⟩⟩
theorem mkt_next {c d e : Nat} {t : Tr} (h : d - 1 = 0) (p : 0 < d) (m : MkT c (d - 1) t) : MkT c d (.n1 "next" t) := by
  obtain ⟨m, rfl, ok, l'⟩ := m
  obtain ⟨l, rfl⟩ := l' h
  exact ⟨.nx l, rfl, ok, fun z => by omega⟩
theorem mkt_two {c d : Nat} {w : Str} {t u : Tr} (h : d - 1 = 0) (p : 0 < d) (hw : w = "plus" ∨ w = "times") (m : MkT c (d - 1) t) (m2 : MkT c (d - 1) u) : MkT c d (.n2 w t u) := by
  obtain ⟨m, rfl, ok, l'⟩ := m
  obtain ⟨l, rfl⟩ := l' h
  obtain ⟨m2, rfl, ok2, l2'⟩ := m2
  obtain ⟨l2, rfl⟩ := l2' h
  rcases hw with rfl | rfl
  · exact ⟨.pl l l2, rfl, ⟨ok, ok2⟩, fun z => by omega⟩
  · exact ⟨.ti l l2, rfl, ⟨ok, ok2⟩, fun z => by omega⟩
theorem mkf_no {c d : Nat} : MkF c d (.n0 "no") := ⟨.no, rfl, rfl, trivial, by show 1 ≤ d + 1; omega⟩
theorem mkf_same {c d : Nat} {t u : Tr} (m : MkT c 1 t) (m2 : MkT c 1 u) : MkF c d (.n2 "same" t u) := by
  obtain ⟨m, rfl, ok, _⟩ := m
  obtain ⟨m2, rfl, ok2, _⟩ := m2
  exact ⟨.same m m2, rfl, rfl, ⟨ok, ok2⟩, by show 1 ≤ d + 1; omega⟩
theorem mkf_two {c d : Nat} {w : Str} {t u : Tr} (hw : w = "and" ∨ w = "if") (p : 0 < d) (m : MkF c (d - 1) t) (m2 : MkF c (d - 1) u) : MkF c d (.n2 w t u) := by
  obtain ⟨a, rfl, f, ok, dp⟩ := m
  obtain ⟨b, rfl, f2, ok2, dp2⟩ := m2
  have fl : (a.flat && b.flat) = true := by rw [f, f2]; rfl
  have dd : max a.dp b.dp + 1 ≤ d + 1 := by omega
  rcases hw with rfl | rfl
  · exact ⟨.and a b, rfl, fl, ⟨ok, ok2⟩, dd⟩
  · exact ⟨.cond a b, rfl, fl, ⟨f, ok, ok2⟩, dd⟩
theorem mks_flat {c d : Nat} {t : Tr} (m : MkF c 1 t) : MkS c d t := by
  obtain ⟨a, rfl, f, ok, dp⟩ := m
  exact ⟨a, rfl, ok, by omega⟩
theorem mks_some {r : Int} {d : Nat} {t : Tr} (r0 : 0 ≤ r) (p : 0 < d) (m : MkS (r + 1).toNat (d - 1) t) : MkS r.toNat d (.n1 "some" t) := by
  obtain ⟨a, rfl, ok, dp⟩ := m
  rw [show (r + 1).toNat = r.toNat + 1 by omega] at ok
  exact ⟨.some a, rfl, ok, by show a.dp + 1 ≤ d + 2; omega⟩
theorem mks_if {c d : Nat} {t u : Tr} (p : 0 < d) (m : MkF c 1 t) (m2 : MkS c (d - 1) u) : MkS c d (.n2 "if" t u) := by
  obtain ⟨a, rfl, f, ok, dp⟩ := m
  obtain ⟨b, rfl, ok2, dp2⟩ := m2
  exact ⟨.cond a b, rfl, ⟨f, ok, ok2⟩, by show max a.dp b.dp + 1 ≤ d + 2; omega⟩
theorem mks_two {c d : Nat} {w : Str} {t u : Tr} (hw : w = "and" ∨ w = "or") (p : 0 < d) (m : MkS c (d - 1) t) (m2 : MkS c (d - 1) u) : MkS c d (.n2 w t u) := by
  obtain ⟨a, rfl, ok, dp⟩ := m
  obtain ⟨b, rfl, ok2, dp2⟩ := m2
  have dd : max a.dp b.dp + 1 ≤ d + 2 := by omega
  rcases hw with rfl | rfl
  · exact ⟨.and a b, rfl, ⟨ok, ok2⟩, dd⟩
  · exact ⟨.or a b, rfl, ⟨ok, ok2⟩, dd⟩
def OutM (M : Tr → Prop) (f : Addr) (H : Hp) (Q : VK) : Prop := ∀ t v H', M t → At H' t v → But f H H' → FeedAt H' f → Q v H'
section
variable {P : Program} {w : World} {K : PySem.W.Frag} {mg : Str → Option Value} {base : Heap}
/-! ### _law_small -/
def spTerm (n : Nat) : Sp := fun vs H Q _ => ∃ (f l : Addr) (ns : List Str) (r : Int) (d : Nat), vs = [.ref f, .int (d : Int), .ref l, .int r] ∧ (d + 1 ≤ n ∧ d ≤ 1 ∧ ns = []) ∧ l ≠ f ∧ NmAt H l ns ∧ (0 ≤ r ∧ r ≤ 1000) ∧ FeedAt H f ∧ OutM (MkT r.toNat d) f H Q
theorem ok_small {f ft fp : Addr} {fd dt dp : FuncData} {n : Nat} (F : Fun K "_law_small" "_law_small" sSmall f fd) (D : Draw P w K mg base ft fp dt dp)
    (S : FnOk P w K mg base CX0 (3 + n) f fd ["feed", "deep", "names", "around"] (spTerm n)) (bS : Binds K fd ["feed", "deep", "names", "around"] []) (mS : mg "_law_small" = some (.ref f)) :
    FnOk P w K mg base CX0 (3 + n + 1) f fd ["feed", "deep", "names", "around"] (spTerm (n + 1)) := by
  refine F.ok scSmall (fun vs H Q E h => ?_) (fun cdv A outer s H vs Q E hr h => ?_)
  · obtain ⟨a, l, ns, r, d, rfl, _⟩ := h
    rfl
  obtain ⟨f, l, ns, r, d, rfl, ⟨dn, d1, hnil⟩, apart, hN, ⟨r0, r1⟩, hF, q⟩ := h
  have h1 : Room 1 _ := hr.mono (by omega)
  have h2 : Room 2 _ := hr.mono (by omega)
  refine ⟨_, pss_cons (ps_set (i := 4) scSmall.nd rfl (.inl rfl) (pe_call D.T h1 (by rfl) D.mT D.kT D.bT .nil pass0 (pa_cons (pv 0) (pa_cons pe_int pa_nil))))
    (pss_cons (ps_if (PW.pt (pw_and (pt_cmpR op_lt (pv 4) pe_int (nomark _)) (pw_and1 (pt_cmpR op_gt (pv 3) pe_int (nomark _)))))
      (pss_one (ps_ret (pe_tup (pa_cons pe_str (pa_cons (pe_call D.T h1 (by rfl) D.mT D.kT D.bT .nil pass0 (pa_cons (pv 0) (pa_cons (pv 3) pa_nil))) pa_nil))))) pss_nil)
    (pss_cons (ps_if (PW.pt (pw_and (pt_cmpR op_eq (pv 4) pe_int (nomark _)) (pw_and1 (pt_cmpR (op_neD hr.units) (pv 2) (pe_lst pa_nil) (nomark _)))))
      (pss_one (ps_ret (pe_tup (pa_cons pe_str (pa_cons (pe_call D.Pk h2 (by rfl) D.mP D.kP D.bP .nil pass0 (pa_cons (pv 0) (pa_cons (pv 2) pa_nil))) pa_nil))))) pss_nil)
    (pss_cons (ps_if (PW.pt (pw_or (pt_cmpR op_eq (pv 1) pe_int (nomark _)) (pw_or1 (pt_cmpR op_lt (pv 4) pe_int (nomark _)))))
      (pss_one (ps_ret (pe_tup (pa_cons pe_str (pa_cons (pe_call D.T h1 (by rfl) D.mT D.kT D.bT .nil pass0 (pa_cons (pv 0) (pa_cons pe_int pa_nil))) pa_nil))))) pss_nil)
    (pss_cons (ps_set (i := 5) scSmall.nd rfl (.inl rfl) (pe_call D.Pk h2 (by rfl) D.mP D.kP D.bP .nil pass0 (pa_cons (pv 0) (pa_cons (pe_lst (pa_cons pe_str (pa_cons pe_str (pa_cons pe_str pa_nil)))) pa_nil))))
    (pss_cons (ps_set (i := 6) scSmall.nd rfl (.inl rfl) (pe_call S hr (by rfl) mS F.kp bS .nil pass0 (pa_cons (pv 0) (pa_cons (pe_op op_sub (pv 1) pe_int) (pa_cons (pv 2) (pa_cons (pv 3) pa_nil))))))
    (pss_cons (ps_if (pt_cmpR op_eq (pv 5) pe_str (nomark _)) (pss_one (ps_ret (pe_tup (pa_cons (pv 5) (pa_cons (pv 6) pa_nil))))) pss_nil)
    (pss_one (ps_ret (pe_tup (pa_cons (pv 5) (pa_cons (pv 6) (pa_cons (pe_call S hr (by rfl) mS F.kp bS .nil pass0 (pa_cons (pv 0) (pa_cons (pe_op op_sub (pv 1) pe_int) (pa_cons (pv 2) (pa_cons (pv 3) pa_nil))))) pa_nil)))))))))))), ?_⟩
  refine ⟨_, rfl, f, 6, rfl, by decide, by decide, hF, fun way H1 _ _ b1 hF1 => ?_⟩
  apply join (C := fun H2 => H2 = H1)
  · intro rest
    refine ⟨_, rfl, _, _, rfl, rfl, _, rfl, ?_⟩
    refine ite2 (fun _ => ?_) (fun _ => iteF (rest H1 rfl))
    refine ⟨_, rfl, _, _, rfl, rfl, _, rfl, ?_⟩
    refine ite2 (fun c => ?_) (fun _ => rest H1 rfl)
    have pos : 0 < r := of_decide_eq_true c
    refine ⟨_, rfl, _, rfl, f, r, rfl, pos, few1000 pos r1, hF1, fun k H3 k0 k1 b3 hF3 => ?_⟩
    refine ⟨(by show 2 ≤ sizeLine; decide), fun p hp => ?_⟩
    exact q _ _ _ (mkt_bound k0 k1) ⟨p, rfl, upd_same⟩ ((b1.trans b3).new hp) (hF3.same (same_new hp))
  · intro Hx e
    have e2 := e.symm
    subst e2
    apply join (C := fun H2 => But f H H2 ∧ FeedAt H2 f)
    · intro rest
      refine ⟨_, rfl, rfl, _, rfl, ?_⟩
      refine ite2 (fun _ => ?_) (fun _ => iteF (rest H1 ⟨b1, hF1⟩))
      refine ⟨_, rfl, Nat.zero_le _, fun e he => ?_⟩
      have bb : But f H (upd H1 e (.lst [])) := b1.new he
      have hF2 : FeedAt (upd H1 e (.lst [])) f := hF1.same (same_new he)
      have hN2 : NmAt (upd H1 e (.lst [])) l ns := hN.keep apart bb
      have d0 : Dp K (upd H1 e (.lst [])) (.ref e) (.list (([] : List Str).map PyData.str)) := dp_strs (ns := []) (.inl (.inl upd_same))
      refine ⟨_, _, dp_strs (.inl (.inl hN2.at_)), d0, shaped_strs hN2.ok, shaped_strs (fun z hz => by cases hz), _, rfl, ?_⟩
      show if (!PyData.eqvAll (ns.map .str) (([] : List Str).map .str)) = true then _ else _
      rw [eqv_strs]
      by_cases en : ns = []
      · rw [decide_eq_true en]
        exact iteF (rest _ ⟨bb, hF2⟩)
      · rw [decide_eq_false en]
        refine iteT ?_
        have pos : 0 < (ns.map V.str).length := by
          rw [List.length_map]
          exact List.length_pos_iff.mpr en
        refine ⟨_, rfl, _, rfl, f, l, _, rfl, apart, .inl (.inl hN2.at_), pos, (by rw [List.length_map]; exact Nat.le_trans hN2.few (by decide)), hF2, fun x hx H3 b3 hF3 => ?_⟩
        obtain ⟨z, hz, rfl⟩ := List.mem_map.mp hx
        refine ⟨(by show 2 ≤ sizeLine; decide), fun p hp => ?_⟩
        exact q _ _ _ (absurd hnil en : MkT r.toNat d (.leaf "name" (.str z))) ⟨p, rfl, upd_same⟩ ((bb.trans b3).new hp) (hF3.same (same_new hp))
    · intro H2 ⟨b2, hF2⟩
      apply join (C := fun H3 => H3 = H2 ∧ 0 < d)
      · intro rest
        have num : ∀ Q2 : Prop, Q2 → Q2 := fun _ z => z
        apply join (C := fun H3 => H3 = H2)
        · intro leaf
          refine ⟨_, rfl, rfl, _, rfl, ?_⟩
          refine ite2 (fun c => iteT (leaf H2 rfl)) (fun c => ?_)
          have dpos : 0 < d := by
            rcases Nat.eq_zero_or_pos d with e | e
            · exact absurd (show decide (V.int (d : Int) = V.int 0) = true from decide_eq_true (by rw [e]; rfl)) c
            · exact e
          refine ⟨_, rfl, _, _, rfl, rfl, _, rfl, ?_⟩
          exact ite2 (fun _ => leaf H2 rfl) (fun _ => rest H2 ⟨rfl, dpos⟩)
        · intro Hx e
          have e2 := e.symm
          subst e2
          refine ⟨_, rfl, f, 4, rfl, by decide, by decide, hF2, fun k H3 k0 k1 b3 hF3 => ?_⟩
          refine ⟨(by show 2 ≤ sizeLine; decide), fun p hp => ?_⟩
          exact q _ _ _ (mkt_num k0 k1) ⟨p, rfl, upd_same⟩ ((b2.trans b3).new hp) (hF3.same (same_new hp))
      · rintro Hx ⟨e, dpos⟩
        have e2 := e.symm
        subst e2
        refine ⟨_, rfl, (by show 3 ≤ sizeLine; decide), fun g hg => ?_⟩
        refine ⟨f, g, _, rfl, hF2.ne hg, .inl (.inl upd_same), by decide, by decide, hF2.same (same_new hg), fun x hx H3 b3 hF3 => ?_⟩
        obtain ⟨wd, rfl, nw⟩ := words3 x hx
        have bb2 : But f H H3 := (b2.new hg).trans b3
        have ed : (d : Int) - 1 = ((d - 1 : Nat) : Int) := by omega
        refine ⟨_, rfl, _, rfl, _, _, rfl, rfl, _, rfl, _, rfl, f, l, ns, r, d - 1, (by show [V.ref f, V.int ((d : Int) - 1), V.ref l, V.int r] = _; rw [ed]), ⟨by omega, by omega, hnil⟩, apart, hN.keep apart bb2, ⟨r0, r1⟩, hF3, fun t1 v1 H4 m1 a1 b4 hF4 => ?_⟩
        have bb3 := bb2.trans b4
        refine ⟨_, rfl, rfl, _, rfl, ?_⟩
        refine eqW (fun e => ?_) (fun ne => ?_)
        · subst e
          refine ⟨_, rfl, _, rfl, (by show 2 ≤ sizeLine; decide), fun p hp => ?_⟩
          exact q _ _ _ (mkt_next (e := 0) (by omega) dpos m1) ⟨p, v1, rfl, upd_same, a1.keep (tups_same (same_new hp))⟩ (bb3.new hp) (hF4.same (same_new hp))
        · refine ⟨_, rfl, _, rfl, _, rfl, _, rfl, _, _, rfl, rfl, _, rfl, _, rfl, f, l, ns, r, d - 1, (by show [V.ref f, V.int ((d : Int) - 1), V.ref l, V.int r] = _; rw [ed]), ⟨by omega, by omega, hnil⟩, apart, hN.keep apart bb3, ⟨r0, r1⟩, hF4, fun t2 v2 H5 m2 a2 b5 hF5 => ?_⟩
          refine ⟨(by show 3 ≤ sizeLine; decide), fun p hp => ?_⟩
          have k1 : At H5 t1 v1 := a1.keep (hF4.tups b5)
          exact q _ _ _ (mkt_two (by omega) dpos (nw ne) m1 m2) ⟨p, v1, v2, rfl, upd_same, k1.keep (tups_same (same_new hp)), a2.keep (tups_same (same_new hp))⟩ ((bb3.trans b5).new hp) (hF5.same (same_new hp))
theorem ok_smalls {f ft fp : Addr} {fd dt dp : FuncData} (F : Fun K "_law_small" "_law_small" sSmall f fd) (D : Draw P w K mg base ft fp dt dp)
    (bS : Binds K fd ["feed", "deep", "names", "around"] []) (mS : mg "_law_small" = some (.ref f)) : ∀ n : Nat, FnOk P w K mg base CX0 (3 + n) f fd ["feed", "deep", "names", "around"] (spTerm n)
  | 0 => no_calls fun vs H Q E h => by
    obtain ⟨a, l, ns, r, d, _, dn, _⟩ := h
    omega
  | n + 1 => ok_small F D (ok_smalls F D bS mS n) bS mS
/-! ### _law_flat -/
def spFlat (n : Nat) : Sp := fun vs H Q _ => ∃ (f l : Addr) (ns : List Str) (r : Int) (d : Nat), vs = [.ref f, .int (d : Int), .ref l, .int r] ∧ (d + 1 ≤ n ∧ ns = []) ∧ l ≠ f ∧ NmAt H l ns ∧ (0 ≤ r ∧ r ≤ 1000) ∧ FeedAt H f ∧ OutM (MkF r.toNat d) f H Q
theorem ok_flat {f ft fp fm : Addr} {fd dt dp dm : FuncData} {n : Nat} (F : Fun K "_law_flat" "_law_flat" sFlat f fd) (D : Draw P w K mg base ft fp dt dp)
    (M : FnOk P w K mg base CX0 5 fm dm ["feed", "deep", "names", "around"] (spTerm 2)) (bM : Binds K dm ["feed", "deep", "names", "around"] []) (kM : PySem.W.keepIn K (.ref fm) = true) (mM : mg "_law_small" = some (.ref fm))
    (S : FnOk P w K mg base CX0 (5 + n) f fd ["feed", "deep", "names", "around"] (spFlat n)) (bS : Binds K fd ["feed", "deep", "names", "around"] []) (mS : mg "_law_flat" = some (.ref f)) :
    FnOk P w K mg base CX0 (5 + n + 1) f fd ["feed", "deep", "names", "around"] (spFlat (n + 1)) := by
  refine F.ok scFlat (fun vs H Q E h => ?_) (fun cdv A outer s H vs Q E hr h => ?_)
  · obtain ⟨a, l, ns, r, d, rfl, _⟩ := h
    rfl
  obtain ⟨f, l, ns, r, d, rfl, ⟨dn, hnil⟩, apart, hN, ⟨r0, r1⟩, hF, q⟩ := h
  have h1 : Room 1 _ := hr.mono (by omega)
  have h2 : Room 2 _ := hr.mono (by omega)
  have h5 : Room 5 _ := hr.mono (by omega)
  refine ⟨_, pss_cons (ps_set (i := 4) scFlat.nd rfl (.inl rfl) (pe_call D.T h1 (by rfl) D.mT D.kT D.bT .nil pass0 (pa_cons (pv 0) (pa_cons pe_int pa_nil))))
    (pss_cons (ps_if (PW.pt (pw_or (pt_cmpR op_eq (pv 1) pe_int (nomark _)) (pw_or1 (pt_cmpR op_lt (pv 4) pe_int (nomark _)))))
      (pss_cons (ps_if (pt_cmpR op_eq (pe_call D.T h1 (by rfl) D.mT D.kT D.bT .nil pass0 (pa_cons (pv 0) (pa_cons pe_int pa_nil))) pe_int (nomark _)) (pss_one (ps_ret (pe_tup (pa_cons pe_str pa_nil)))) pss_nil)
      (pss_cons (ps_set (i := 5) scFlat.nd rfl (.inl rfl) (pe_call M h5 (by rfl) mM kM bM .nil pass0 (pa_cons (pv 0) (pa_cons pe_int (pa_cons (pv 2) (pa_cons (pv 3) pa_nil))))))
      (pss_one (ps_ret (pe_tup (pa_cons pe_str (pa_cons (pv 5) (pa_cons (pe_call D.Pk h2 (by rfl) D.mP D.kP D.bP .nil pass0 (pa_cons (pv 0) (pa_cons (pe_lst (pa_cons (pv 5) (pa_cons (pe_call M h5 (by rfl) mM kM bM .nil pass0 (pa_cons (pv 0) (pa_cons pe_int (pa_cons (pv 2) (pa_cons (pv 3) pa_nil))))) pa_nil))) pa_nil))) pa_nil)))))))) pss_nil)
    (pss_cons (ps_set (i := 6) scFlat.nd rfl (.inl rfl) (pe_call D.Pk h2 (by rfl) D.mP D.kP D.bP .nil pass0 (pa_cons (pv 0) (pa_cons (pe_lst (pa_cons pe_str (pa_cons pe_str (pa_cons pe_str pa_nil)))) pa_nil))))
    (pss_one (ps_ret (pe_tup (pa_cons (pv 6) (pa_cons (pe_call S hr (by rfl) mS F.kp bS .nil pass0 (pa_cons (pv 0) (pa_cons (pe_op op_sub (pv 1) pe_int) (pa_cons (pv 2) (pa_cons (pv 3) pa_nil)))))
      (pa_cons (pe_call S hr (by rfl) mS F.kp bS .nil pass0 (pa_cons (pv 0) (pa_cons (pe_op op_sub (pv 1) pe_int) (pa_cons (pv 2) (pa_cons (pv 3) pa_nil))))) pa_nil)))))))), ?_⟩
  refine ⟨_, rfl, f, 7, rfl, by decide, by decide, hF, fun way H1 _ _ b1 hF1 => ?_⟩
  have hN1 := hN.keep apart b1
  apply join (C := fun H2 => H2 = H1)
  · intro flat
    apply join (C := fun H2 => H2 = H1 ∧ 0 < d)
    · intro rest
      refine ⟨_, rfl, rfl, _, rfl, ?_⟩
      refine ite2 (fun c => iteT (flat H1 rfl)) (fun c => ?_)
      have dpos : 0 < d := by
        rcases Nat.eq_zero_or_pos d with e | e
        · exact absurd (show decide (V.int (d : Int) = V.int 0) = true from decide_eq_true (by rw [e]; rfl)) c
        · exact e
      refine ⟨_, rfl, _, _, rfl, rfl, _, rfl, ?_⟩
      exact ite2 (fun _ => flat H1 rfl) (fun _ => rest H1 ⟨rfl, dpos⟩)
    · rintro Hx ⟨e, dpos⟩
      have e2 := e.symm
      subst e2
      have ed : (d : Int) - 1 = ((d - 1 : Nat) : Int) := by omega
      refine ⟨_, rfl, (by show 3 ≤ sizeLine; decide), fun g hg => ?_⟩
      refine ⟨f, g, _, rfl, hF1.ne hg, .inl (.inl upd_same), by decide, by decide, hF1.same (same_new hg), fun x hx H3 b3 hF3 => ?_⟩
      obtain ⟨wd, rfl, nw⟩ := wordsC x hx
      have bb3 := (b1.new hg).trans b3
      refine ⟨_, rfl, _, rfl, _, rfl, _, _, rfl, rfl, _, rfl, _, rfl, f, l, ns, r, d - 1, (by show [V.ref f, V.int ((d : Int) - 1), V.ref l, V.int r] = _; rw [ed]), ⟨by omega, hnil⟩, apart, hN.keep apart bb3, ⟨r0, r1⟩, hF3, fun t1 v1 H4 m1 a1 b4 hF4 => ?_⟩
      have bb4 := bb3.trans b4
      refine ⟨_, rfl, _, rfl, _, _, rfl, rfl, _, rfl, _, rfl, f, l, ns, r, d - 1, (by show [V.ref f, V.int ((d : Int) - 1), V.ref l, V.int r] = _; rw [ed]), ⟨by omega, hnil⟩, apart, hN.keep apart bb4, ⟨r0, r1⟩, hF4, fun t2 v2 H5 m2 a2 b5 hF5 => ?_⟩
      refine ⟨(by show 3 ≤ sizeLine; decide), fun p hp => ?_⟩
      have k1 : At H5 t1 v1 := a1.keep (hF4.tups b5)
      exact q _ _ _ (mkf_two nw dpos m1 m2) ⟨p, v1, v2, rfl, upd_same, k1.keep (tups_same (same_new hp)), a2.keep (tups_same (same_new hp))⟩ ((bb4.trans b5).new hp) (hF5.same (same_new hp))
  · intro Hx e
    have e2 := e.symm
    subst e2
    refine ⟨_, rfl, f, 7, rfl, by decide, by decide, hF1, fun k H3 _ _ b3 hF3 => ?_⟩
    have bb3 := b1.trans b3
    refine ⟨rfl, _, rfl, ?_⟩
    refine ite2 (fun _ => ?_) (fun _ => ?_)
    · refine ⟨(by show 1 ≤ sizeLine; decide), fun p hp => ?_⟩
      exact q _ _ _ mkf_no ⟨p, rfl, upd_same⟩ (bb3.new hp) (hF3.same (same_new hp))
    · refine ⟨_, rfl, _, rfl, _, rfl, f, l, ns, r, 1, rfl, ⟨by decide, by decide, hnil⟩, apart, hN.keep apart bb3, ⟨r0, r1⟩, hF3, fun t1 v1 H4 m1 a1 b4 hF4 => ?_⟩
      have bb4 := bb3.trans b4
      refine ⟨_, rfl, _, rfl, _, rfl, _, rfl, _, rfl, _, rfl, f, l, ns, r, 1, rfl, ⟨by decide, by decide, hnil⟩, apart, hN.keep apart bb4, ⟨r0, r1⟩, hF4, fun t2 v2 H5 m2 a2 b5 hF5 => ?_⟩
      have k1 : At H5 t1 v1 := a1.keep (hF4.tups b5)
      refine ⟨(by show 2 ≤ sizeLine; decide), fun g hg => ?_⟩
      have bb5 := (bb4.trans b5).new (o := .lst [v1, v2]) hg
      refine ⟨f, g, _, rfl, hF5.ne hg, .inl (.inl upd_same), (by show 0 < 2; decide), (by show 2 ≤ 1000; decide), hF5.same (same_new hg), fun x hx H6 b6 hF6 => ?_⟩
      have hF5' : FeedAt (upd H5 g (.lst [v1, v2])) f := hF5.same (same_new hg)
      have kk : Tups H5 H6 := (tups_same (same_new hg)).trans (hF5'.tups b6)
      have one : ∃ t3, MkT r.toNat 1 t3 ∧ At H6 t3 x := by
        rcases List.mem_cons.mp hx with e | e
        · exact ⟨t1, m1, by rw [e]; exact k1.keep kk⟩
        · exact ⟨t2, m2, by rw [List.mem_singleton.mp e]; exact a2.keep kk⟩
      obtain ⟨t3, m3, a3⟩ := one
      refine ⟨(by show 3 ≤ sizeLine; decide), fun p hp => ?_⟩
      exact q _ _ _ (mkf_same m1 m3) ⟨p, v1, x, rfl, upd_same, (k1.keep kk).keep (tups_same (same_new hp)), a3.keep (tups_same (same_new hp))⟩ ((bb5.trans b6).new hp) (hF6.same (same_new hp))
theorem ok_flats {f ft fp fm : Addr} {fd dt dp dm : FuncData} (F : Fun K "_law_flat" "_law_flat" sFlat f fd) (D : Draw P w K mg base ft fp dt dp)
    (M : FnOk P w K mg base CX0 5 fm dm ["feed", "deep", "names", "around"] (spTerm 2)) (bM : Binds K dm ["feed", "deep", "names", "around"] []) (kM : PySem.W.keepIn K (.ref fm) = true) (mM : mg "_law_small" = some (.ref fm))
    (bS : Binds K fd ["feed", "deep", "names", "around"] []) (mS : mg "_law_flat" = some (.ref f)) : ∀ n : Nat, FnOk P w K mg base CX0 (5 + n) f fd ["feed", "deep", "names", "around"] (spFlat n)
  | 0 => no_calls fun vs H Q E h => by
    obtain ⟨a, l, ns, r, d, _, dn, _⟩ := h
    omega
  | n + 1 => ok_flat F D M bM kM mM (ok_flats F D M bM kM mM bS mS n) bS mS
/-! ### _law_seen -/
def spSeen (n : Nat) : Sp := fun vs H Q _ => ∃ (f : Addr) (d : Nat) (r left : Int), vs = [.ref f, .int (d : Int), .int r, .int left] ∧ d + 1 ≤ n ∧ (0 ≤ r ∧ r + n ≤ 1000) ∧ FeedAt H f ∧ OutM (MkS r.toNat d) f H Q
theorem no_names {H : Hp} {p : Addr} : NmAt (upd H p (.lst [])) p [] := ⟨upd_same, Nat.zero_le _, (fun z hz => by cases hz), fun z hz => by cases hz⟩
theorem ok_seen {f ft fp fm : Addr} {fd dt dp dm : FuncData} {n : Nat} (F : Fun K "_law_seen" "_law_seen" sSeen f fd) (D : Draw P w K mg base ft fp dt dp)
    (M : FnOk P w K mg base CX0 7 fm dm ["feed", "deep", "names", "around"] (spFlat 2)) (bM : Binds K dm ["feed", "deep", "names", "around"] []) (kM : PySem.W.keepIn K (.ref fm) = true) (mM : mg "_law_flat" = some (.ref fm))
    (S : FnOk P w K mg base CX0 (7 + n) f fd ["feed", "deep", "around", "left"] (spSeen n)) (bS : Binds K fd ["feed", "deep", "around", "left"] []) (mS : mg "_law_seen" = some (.ref f)) :
    FnOk P w K mg base CX0 (7 + n + 1) f fd ["feed", "deep", "around", "left"] (spSeen (n + 1)) := by
  refine F.ok scSeen (fun vs H Q E h => ?_) (fun cdv A outer s H vs Q E hr h => ?_)
  · obtain ⟨a, d, r, left, rfl, _⟩ := h
    rfl
  obtain ⟨f, d, r, left, rfl, dn, ⟨r0, r1⟩, hF, q⟩ := h
  have h1 : Room 1 _ := hr.mono (by omega)
  have h2 : Room 2 _ := hr.mono (by omega)
  have h7 : Room 7 _ := hr.mono (by omega)
  refine ⟨_, pss_cons (ps_set (i := 4) scSeen.nd rfl (.inl rfl) (pe_call D.T h1 (by rfl) D.mT D.kT D.bT .nil pass0 (pa_cons (pv 0) (pa_cons pe_int pa_nil))))
    (pss_cons (ps_if (PW.pt (pw_or (pt_cmpR op_eq (pv 1) pe_int (nomark _)) (pw_or1 (pt_cmpR op_lt (pv 4) pe_int (nomark _)))))
      (pss_one (ps_ret (pe_call M h7 (by rfl) mM kM bM .nil pass0 (pa_cons (pv 0) (pa_cons pe_int (pa_cons (pe_lst pa_nil) (pa_cons (pv 2) pa_nil))))))) pss_nil)
    (pss_cons (ps_if (PW.pt (pw_and (pt_cmpR op_lt (pv 4) pe_int (nomark _)) (pw_and1 (pt_cmpR op_gt (pv 3) pe_int (nomark _)))))
      (pss_one (ps_ret (pe_tup (pa_cons pe_str (pa_cons (pe_call S hr (by rfl) mS F.kp bS .nil pass0 (pa_cons (pv 0) (pa_cons (pe_op op_sub (pv 1) pe_int) (pa_cons (pe_op op_add (pv 2) pe_int) (pa_cons (pe_op op_sub (pv 3) pe_int) pa_nil))))) pa_nil))))) pss_nil)
    (pss_cons (ps_if (pt_cmpR op_eq (pv 4) pe_int (nomark _)) (pss_one (ps_ret (pe_tup (pa_cons pe_str (pa_cons (pe_call M h7 (by rfl) mM kM bM .nil pass0 (pa_cons (pv 0) (pa_cons pe_int (pa_cons (pe_lst pa_nil) (pa_cons (pv 2) pa_nil)))))
      (pa_cons (pe_call S hr (by rfl) mS F.kp bS .nil pass0 (pa_cons (pv 0) (pa_cons (pe_op op_sub (pv 1) pe_int) (pa_cons (pv 2) (pa_cons (pv 3) pa_nil))))) pa_nil)))))) pss_nil)
    (pss_cons (ps_set (i := 5) scSeen.nd rfl (.inl rfl) (pe_call D.Pk h2 (by rfl) D.mP D.kP D.bP .nil pass0 (pa_cons (pv 0) (pa_cons (pe_lst (pa_cons pe_str (pa_cons pe_str (pa_cons pe_str pa_nil)))) pa_nil))))
    (pss_one (ps_ret (pe_tup (pa_cons (pv 5) (pa_cons (pe_call S hr (by rfl) mS F.kp bS .nil pass0 (pa_cons (pv 0) (pa_cons (pe_op op_sub (pv 1) pe_int) (pa_cons (pv 2) (pa_cons (pv 3) pa_nil)))))
      (pa_cons (pe_call S hr (by rfl) mS F.kp bS .nil pass0 (pa_cons (pv 0) (pa_cons (pe_op op_sub (pv 1) pe_int) (pa_cons (pv 2) (pa_cons (pv 3) pa_nil))))) pa_nil)))))))))), ?_⟩
  refine ⟨_, rfl, f, 9, rfl, by decide, by decide, hF, fun way H1 _ _ b1 hF1 => ?_⟩
  apply join (C := fun H2 => H2 = H1)
  · intro flat
    apply join (C := fun H2 => H2 = H1 ∧ 0 < d)
    · intro rest
      refine ⟨_, rfl, rfl, _, rfl, ?_⟩
      refine ite2 (fun c => iteT (flat H1 rfl)) (fun c => ?_)
      have dpos : 0 < d := by
        rcases Nat.eq_zero_or_pos d with e | e
        · exact absurd (show decide (V.int (d : Int) = V.int 0) = true from decide_eq_true (by rw [e]; rfl)) c
        · exact e
      refine ⟨_, rfl, _, _, rfl, rfl, _, rfl, ?_⟩
      exact ite2 (fun _ => flat H1 rfl) (fun _ => rest H1 ⟨rfl, dpos⟩)
    · rintro Hx ⟨e, dpos⟩
      have e2 := e.symm
      subst e2
      have ed : (d : Int) - 1 = ((d - 1 : Nat) : Int) := by omega
      apply join (C := fun H2 => H2 = H1)
      · intro rest
        refine ⟨_, rfl, _, _, rfl, rfl, _, rfl, ?_⟩
        refine ite2 (fun _ => ?_) (fun _ => iteF (rest H1 rfl))
        refine ⟨_, rfl, _, _, rfl, rfl, _, rfl, ?_⟩
        refine ite2 (fun _ => ?_) (fun _ => rest H1 rfl)
        refine ⟨_, rfl, _, rfl, _, _, rfl, rfl, _, rfl, _, _, rfl, rfl, _, rfl, _, _, rfl, rfl, f, d - 1, r + 1, left - 1, (by show [V.ref f, V.int ((d : Int) - 1), V.int (r + 1), V.int (left - 1)] = _; rw [ed]), by omega, ⟨by omega, by omega⟩, hF1, fun t1 v1 H4 m1 a1 b4 hF4 => ?_⟩
        refine ⟨(by show 2 ≤ sizeLine; decide), fun p hp => ?_⟩
        exact q _ _ _ (mks_some r0 dpos m1) ⟨p, v1, rfl, upd_same, a1.keep (tups_same (same_new hp))⟩ ((b1.trans b4).new hp) (hF4.same (same_new hp))
      · intro Hx e
        have e2 := e.symm
        subst e2
        refine ⟨_, rfl, rfl, _, rfl, ?_⟩
        refine ite2 (fun _ => ?_) (fun _ => ?_)
        · refine ⟨_, rfl, Nat.zero_le _, fun g hg => ⟨_, rfl, f, g, [], r, 1, rfl, ⟨by decide, rfl⟩, hF1.ne hg, no_names, ⟨r0, by omega⟩, hF1.same (same_new hg), fun t1 v1 H4 m1 a1 b4 hF4 => ?_⟩⟩
          have bb4 := (b1.new hg).trans b4
          refine ⟨_, rfl, _, rfl, _, _, rfl, rfl, _, rfl, _, rfl, f, d - 1, r, left, (by show [V.ref f, V.int ((d : Int) - 1), V.int r, V.int left] = _; rw [ed]), by omega, ⟨by omega, by omega⟩, hF4, fun t2 v2 H5 m2 a2 b5 hF5 => ?_⟩
          refine ⟨(by show 3 ≤ sizeLine; decide), fun p hp => ?_⟩
          have k1 : At H5 t1 v1 := a1.keep (hF4.tups b5)
          exact q _ _ _ (mks_if dpos m1 m2) ⟨p, v1, v2, rfl, upd_same, k1.keep (tups_same (same_new hp)), a2.keep (tups_same (same_new hp))⟩ ((bb4.trans b5).new hp) (hF5.same (same_new hp))
        · refine ⟨_, rfl, (by show 3 ≤ sizeLine; decide), fun g hg => ?_⟩
          refine ⟨f, g, _, rfl, hF1.ne hg, .inl (.inl upd_same), by decide, by decide, hF1.same (same_new hg), fun x hx H3 b3 hF3 => ?_⟩
          obtain ⟨wd, rfl, nw⟩ := wordsD x hx
          have bb3 := (b1.new hg).trans b3
          refine ⟨_, rfl, _, rfl, _, rfl, _, _, rfl, rfl, _, rfl, _, rfl, f, d - 1, r, left, (by show [V.ref f, V.int ((d : Int) - 1), V.int r, V.int left] = _; rw [ed]), by omega, ⟨by omega, by omega⟩, hF3, fun t1 v1 H4 m1 a1 b4 hF4 => ?_⟩
          have bb4 := bb3.trans b4
          refine ⟨_, rfl, _, rfl, _, _, rfl, rfl, _, rfl, _, rfl, f, d - 1, r, left, (by show [V.ref f, V.int ((d : Int) - 1), V.int r, V.int left] = _; rw [ed]), by omega, ⟨by omega, by omega⟩, hF4, fun t2 v2 H5 m2 a2 b5 hF5 => ?_⟩
          refine ⟨(by show 3 ≤ sizeLine; decide), fun p hp => ?_⟩
          have k1 : At H5 t1 v1 := a1.keep (hF4.tups b5)
          exact q _ _ _ (mks_two nw dpos m1 m2) ⟨p, v1, v2, rfl, upd_same, k1.keep (tups_same (same_new hp)), a2.keep (tups_same (same_new hp))⟩ ((bb4.trans b5).new hp) (hF5.same (same_new hp))
  · intro Hx e
    have e2 := e.symm
    subst e2
    refine ⟨_, rfl, Nat.zero_le _, fun g hg => ⟨_, rfl, f, g, [], r, 1, rfl, ⟨by decide, rfl⟩, hF1.ne hg, no_names, ⟨r0, by omega⟩, hF1.same (same_new hg), fun t1 v1 H4 m1 a1 b4 hF4 => ?_⟩⟩
    exact q _ _ _ (mks_flat m1) a1 ((b1.new hg).trans b4) hF4
theorem ok_seens {f ft fp fm : Addr} {fd dt dp dm : FuncData} (F : Fun K "_law_seen" "_law_seen" sSeen f fd) (D : Draw P w K mg base ft fp dt dp)
    (M : FnOk P w K mg base CX0 7 fm dm ["feed", "deep", "names", "around"] (spFlat 2)) (bM : Binds K dm ["feed", "deep", "names", "around"] []) (kM : PySem.W.keepIn K (.ref fm) = true) (mM : mg "_law_flat" = some (.ref fm))
    (bS : Binds K fd ["feed", "deep", "around", "left"] []) (mS : mg "_law_seen" = some (.ref f)) : ∀ n : Nat, FnOk P w K mg base CX0 (7 + n) f fd ["feed", "deep", "around", "left"] (spSeen n)
  | 0 => no_calls fun vs H Q E h => by
    obtain ⟨a, d, r, left, _, dn, _⟩ := h
    omega
  | n + 1 => ok_seen F D M bM kM mM (ok_seens F D M bM kM mM bS mS n) bS mS
end
end Kf
set_option Elab.async false
set_option linter.all false
set_option maxRecDepth 100000
set_option maxHeartbeats 4000000
set_option pp.maxSteps 400
/-! k40: the law's own looks; a saying with a word otherwise. -/
namespace Kf
open PySem PySem.Spec PyProof.Rows L2 Sx RZ
theorem deep_pos : ∀ t : Tr, 1 ≤ t.deep
  | .leaf _ _ => Nat.le_refl 1
  | .n0 _ => Nat.le_refl 1
  | .n1 _ _ => Nat.le_add_left 1 _
  | .n2 _ _ _ => Nat.le_add_left 1 _
theorem is_two {t : Tr} (h : t.Wf kS) (e : t.word = "and" ∨ t.word = "or" ∨ t.word = "if") : ∃ a b, t = .n2 t.word a b ∧ a.Wf kS ∧ b.Wf kS ∧ t.word ≠ "same" ∧ (t.word, kS, [kS, kS]) ∈ table := by
  cases t with
  | leaf w x => exact absurd h.1 (by decide +kernel)
  | n0 w =>
    have e2 : w = "no" := row0 _ h rfl rfl
    subst e2
    exact absurd e (by decide +kernel)
  | n1 w a =>
    have e : w = "and" ∨ w = "or" ∨ w = "if" := e
    rcases (wf_one h).1 with z | z <;> subst z <;> exact absurd e (by decide +kernel)
  | n2 w a b =>
    have e : w = "and" ∨ w = "or" ∨ w = "if" := e
    rcases wf_two h with ⟨z, _⟩ | ⟨ne, _, h1, h2, hr⟩
    · subst z
      exact absurd e (by decide +kernel)
    · exact ⟨a, b, rfl, h1, h2, ne, hr⟩
theorem is_one {t : Tr} (h : t.Wf kS) (e : t.word = "all" ∨ t.word = "some") : ∃ a, t = .n1 t.word a ∧ a.Wf kS := by
  cases t with
  | leaf w x => exact absurd h.1 (by decide +kernel)
  | n0 w =>
    have e2 : w = "no" := row0 _ h rfl rfl
    subst e2
    exact absurd e (by decide +kernel)
  | n1 w a => exact ⟨a, rfl, (wf_one h).2.1⟩
  | n2 w a b =>
    have e : w = "all" ∨ w = "some" := e
    rcases wf_two h with ⟨z, _⟩ | ⟨_, z, _⟩
    · subst z
      exact absurd e (by decide +kernel)
    · rcases z with z | z | z <;> subst z <;> exact absurd e (by decide +kernel)
theorem word_any {t : Tr} (h : t.Wf kS) : (t.word = "same" ∨ t.word = "no") ∨ (t.word = "all" ∨ t.word = "some") ∨ (t.word = "and" ∨ t.word = "or" ∨ t.word = "if") := by
  cases t with
  | leaf w x => exact absurd h.1 (by decide +kernel)
  | n0 w => exact .inl (.inr (row0 _ h rfl rfl))
  | n1 w a => exact .inr (.inl (wf_one h).1)
  | n2 w a b =>
    rcases wf_two h with ⟨z, _⟩ | ⟨_, z, _⟩
    · exact .inl (.inl z)
    · exact .inr (.inr z)
theorem flat_low {t : Tr} (h : t.Wf kS) (e : t.word = "same" ∨ t.word = "no") : flatB t = true := by
  rw [flat_step h]
  cases t with
  | leaf w x => exact absurd h.1 (by decide +kernel)
  | n0 w =>
    have e2 : w = "no" := row0 _ h rfl rfl
    subst e2
    decide +kernel
  | n1 w a =>
    have e : w = "same" ∨ w = "no" := e
    rcases (wf_one h).1 with z | z <;> subst z <;> exact absurd e (by decide +kernel)
  | n2 w a b =>
    have e : w = "same" ∨ w = "no" := e
    rcases wf_two h with ⟨z, _⟩ | ⟨_, z, _⟩
    · subst z
      rfl
    · rcases z with z | z | z <;> subst z <;> exact absurd e (by decide +kernel)
section
variable {P : Program} {w : World} {K : PySem.W.Frag} {mg : Str → Option Value} {base : Heap}
def spL (fl : Tr → Bool) (n : Nat) : Sp := fun vs H Q _ => ∃ (v : V) (t : Tr), vs = [v] ∧ At H t v ∧ t.Wf kS ∧ t.deep ≤ n ∧ ∀ H', Same H H' → Q (.bl (fl t)) H'
theorem ok_LF {f : Addr} {fd : FuncData} {n : Nat} (F : Fun K "_law_is_flat" "_law_is_flat" sLF f fd) (S : FnOk P w K mg base CX0 n f fd ["saying"] (spL flatB n)) (bS : Binds K fd ["saying"] []) (mS : mg "_law_is_flat" = some (.ref f)) :
    FnOk P w K mg base CX0 (n + 1) f fd ["saying"] (spL flatB (n + 1)) := by
  refine F.ok scLF (fun vs H Q E h => ?_) (fun cdv A outer s H vs Q E hr h => ?_)
  · obtain ⟨v, t, rfl, _⟩ := h
    rfl
  obtain ⟨v, t, rfl, hA, hW, hd, q⟩ := h
  refine ⟨_, pss_cons (ps_if (pt_cmpR op_in_seq (pe_ix ix_tup (pv 0) pe_int (fun _ _ => rfl)) (pe_tup (pa_cons pe_str (pa_cons pe_str pa_nil))) (by rfl))
      (pss_one (ps_ret (pe_and (pe_call S hr (by rfl) mS F.kp bS .nil pass0 (pa_cons (pe_ix ix_tup (pv 0) pe_int (fun _ _ => rfl)) pa_nil)) (pe_one (pe_call S hr (by rfl) mS F.kp bS .nil pass0 (pa_cons (pe_ix ix_tup (pv 0) pe_int (fun _ _ => rfl)) pa_nil)))))) pss_nil)
    (pss_one (ps_ret (pe_cmpR op_in_seq (pe_ix ix_tup (pv 0) pe_int (fun _ _ => rfl)) (pe_tup (pa_cons pe_str (pa_cons pe_str pa_nil))) (by rfl)))), ?_⟩
  obtain ⟨p1, us, rfl, hp1, lus, kids, leafs⟩ := hA.view (wf_ok hW)
  refine ⟨_, rfl, p1, _, 0, _, rfl, rfl, .inl (.inl hp1), head_at _ _, (by show 2 ≤ sizeLine; decide), fun m nm => ?_⟩
  have s1 : Same H (upd H m (.tup [.str "and", .str "if"])) := same_new nm
  refine ⟨m, [.str "and", .str "if"], rfl, .inr (.inl (.inl upd_same)), rfl, rfl, _, rfl, ?_⟩
  refine inW (fun c => ?_) (fun c => ?_)
  · obtain ⟨a, b, et, wa, wb, ns, hr⟩ := is_two hW (c.elim .inl fun z => .inr (.inr z))
    generalize t.word = wd at *
    subst et
    obtain ⟨p0, ya, yb, ep, hp0, aa, ab⟩ := hA
    cases ep
    have dd : max a.deep b.deep + 1 ≤ n + 1 := hd
    have ef : flatB (.n2 wd a b) = (flatB a && flatB b) := by
      show (if wd = "same" then true else if wd = "or" then false else flatB a && flatB b) = _
      rw [if_neg ns, if_neg]
      rcases c with z | z <;> rw [z] <;> decide +kernel
    rw [ef] at q
    refine ⟨_, rfl, p1, _, 1, ya, rfl, rfl, .inl (.inl (s1 _ _ hp0)), atI_nat (j := 1) rfl, ya, a, rfl, aa.keep (tups_same s1), wa, by omega, fun H2 s2 => ?_⟩
    refine ⟨_, rfl, ?_⟩
    cases ha : flatB a with
    | false =>
      refine iteF ?_
      have z := q H2 (s1.trans s2)
      rw [ha] at z
      exact z
    | true =>
      refine iteT ?_
      have s12 := s1.trans s2
      refine ⟨_, rfl, p1, _, 2, yb, rfl, rfl, .inl (.inl (s12 _ _ hp0)), atI_nat (j := 2) rfl, yb, b, rfl, ab.keep (tups_same s12), wb, by omega, fun H3 s3 => ?_⟩
      have z := q H3 (s12.trans s3)
      rw [ha] at z
      exact z
  · refine ⟨_, rfl, p1, _, 0, _, rfl, rfl, .inl (.inl (s1 _ _ hp1)), head_at _ _, (by show 2 ≤ sizeLine; decide), fun m2 nm2 => ?_⟩
    refine ⟨m2, [.str "same", .str "no"], rfl, .inr (.inl (.inl upd_same)), rfl, rfl, ?_⟩
    have e : flatB t = inV (.str t.word) [.str "same", .str "no"] := by
      rw [show inV (.str t.word) [.str "same", .str "no"] = decide (t.word ∈ (["same", "no"] : List Str)) from inV_strs t.word ["same", "no"]]
      rcases word_any hW with z | z | z
      · rw [flat_low hW z]
        rcases z with z | z <;> rw [z] <;> decide +kernel
      · obtain ⟨a, ea, _⟩ := is_one hW z
        rw [show flatB t = false by rw [ea]; rfl]
        rcases z with z | z <;> rw [z] <;> decide +kernel
      · obtain ⟨a, b, ea, _⟩ := is_two hW z
        rcases z with z | z | z
        · exact absurd (.inl z) c
        · rw [show flatB t = false by rw [ea, z]; rfl, z]
          decide +kernel
        · exact absurd (.inr z) c
    show Q (.bl (inV (.str t.word) [.str "same", .str "no"])) _
    rw [← e]
    exact q _ (s1.trans (same_new nm2))
theorem ok_LFs {f : Addr} {fd : FuncData} (F : Fun K "_law_is_flat" "_law_is_flat" sLF f fd) (bS : Binds K fd ["saying"] []) (mS : mg "_law_is_flat" = some (.ref f)) : ∀ n : Nat, FnOk P w K mg base CX0 n f fd ["saying"] (spL flatB n)
  | 0 => no_calls fun vs H Q E h => by
    obtain ⟨v, t, _, _, _, hd, _⟩ := h
    have := deep_pos t
    omega
  | n + 1 => ok_LF F (ok_LFs F bS mS n) bS mS
end
end Kf
set_option Elab.async false
set_option linter.all false
set_option maxRecDepth 100000
set_option maxHeartbeats 8000000
set_option pp.maxSteps 500
/-! The law's own reckoning: numbers, truth, flat ones. -/
namespace Kf
open PySem PySem.Spec PyProof.Rows L2 Sx
abbrev sNm : Stmt := top 42
abbrev nmN : List Str := ["term", "some", "one"]
theorem scNm : FnScope nmN ["term"] (defScope sNm) := ⟨rfl, rfl, rfl, by decide +kernel, rfl, by decide +kernel, by decide +kernel⟩
abbrev sTr : Stmt := top 44
abbrev trN : List Str := ["saying", "one", "other"]
theorem scTr : FnScope trN ["saying"] (defScope sTr) := ⟨rfl, rfl, rfl, by decide +kernel, rfl, by decide +kernel, by decide +kernel⟩
section
variable {P : Program} {w : World} {K : PySem.W.Frag} {mg : Str → Option Value} {base : Heap} {f fn : Addr} {fd dn : FuncData}
theorem cmul_s {a : Nat} {b : Int} (h : a ≤ 5) : CMul (a : Int) b := .inl ⟨Int.lt_of_lt_of_le (by decide : -(2 ^ 64) < (0 : Int)) (Int.natCast_nonneg a), Int.lt_of_le_of_lt (show (a : Int) ≤ 5 by omega) (by decide)⟩
/-- is it flat, of a seen saying -/
def spLF : Sp := fun vs H Q _ => ∃ (v : V) (s : Sy) (c : Nat), vs = [v] ∧ At H s.tr v ∧ s.Ok c ∧ c + s.dp ≤ 16 ∧ s.dp ≤ 8 ∧ ∀ H', Same H H' → Q (.bl s.flat) H'
theorem lf_calm (G : FnOk P w K mg base CX0 10 f fd ["saying"] (spL flatB 10)) : FnOk P w K mg base CX0 10 f fd ["saying"] spLF :=
  ⟨fun vs H Q E h => by
    obtain ⟨v, s, c, rfl, _⟩ := h
    rfl, fun A outer st H args us vs Q E hr he hb hv h => G.run A outer st H args us vs Q E hr he hb hv (by
    obtain ⟨v, s, c, rfl, ha, ok, d1, d2, q⟩ := h
    refine ⟨v, s.tr, rfl, ha, wf_sy (by omega) ok, by have := sy_deep s; omega, fun H' sm => ?_⟩
    rw [flat_tr]
    exact q H' sm)⟩
def spNm (n : Nat) : Sp := fun vs H Q _ => ∃ (v : V) (t : Tm), vs = [v] ∧ At H t.tr v ∧ t.Ok 0 ∧ (n ≤ 1 → ∃ l, t = .lf l) ∧ 1 ≤ n ∧ ∀ H', Same H H' → Q (.int (t.val : Int)) H'
theorem ok_nm {n : Nat} (F : Fun K "_law_number" "_law_number" sNm f fd) (S : FnOk P w K mg base CX0 (1 + n) f fd ["term"] (spNm n)) (bS : Binds K fd ["term"] []) (mS : mg "_law_number" = some (.ref f)) : FnOk P w K mg base CX0 (1 + n + 1) f fd ["term"] (spNm (n + 1)) := by
  refine F.ok scNm (fun vs H Q E h => ?_) (fun cdv A outer s0 H vs Q E hr h => ?_)
  · obtain ⟨v, t, rfl, _⟩ := h
    rfl
  obtain ⟨v, t, rfl, hA, ok, dn, n1, q⟩ := h
  refine ⟨_, (pss_cons (ps_if (pt_cmpR op_eq (pe_ix ix_tup (pv 0) pe_int (fun _ _ => rfl)) pe_str (nomark _)) (pss_one (ps_ret (pe_ix ix_tup (pv 0) pe_int (fun _ _ => rfl)))) pss_nil)
    (pss_cons (ps_setLc (i := 1) (own := [("one", 2)]) (g := gName 2) (tt := tYes) rfl scNm.nd rfl rfl (sw_true rfl rfl (by rfl) (by decide +kernel)) (pi_tup (pe_slice sl_tup (pv 0) (po_some pe_int) po_none)) (blkOk_by (N := nmN) (sc := defScope sNm) (by decide +kernel)) (fun _ _ _ _ _ => pg_name (i := 2) scNm.nd rfl (Or.inl rfl)) (fun _ _ _ _ _ => pts_nil) (fun _ _ _ _ _ => (pe_call S hr (by rfl) mS F.kp bS .nil pass0 (pa_cons (pv 2) pa_nil))))
    (pss_cons (ps_if (pt_cmpR op_eq (pe_ix ix_tup (pv 0) pe_int (fun _ _ => rfl)) pe_str (nomark _)) (pss_one (ps_ret (pe_op op_add (pe_ix ix_list (pv 1) pe_int (fun _ _ => rfl)) pe_int))) pss_nil)
    (pss_one (ps_ret (pe_ifExp (pt_cmpR op_eq (pe_ix ix_tup (pv 0) pe_int (fun _ _ => rfl)) pe_str (nomark _)) (pe_op op_add (pe_ix ix_list (pv 1) pe_int (fun _ _ => rfl)) (pe_ix ix_list (pv 1) pe_int (fun _ _ => rfl))) (pe_op op_mul (pe_ix ix_list (pv 1) pe_int (fun _ _ => rfl)) (pe_ix ix_list (pv 1) pe_int (fun _ _ => rfl))))))))), ?_⟩
  cases t with
  | lf l =>
    cases l with
    | bnd k => exact absurd ok (Nat.not_lt_zero _)
    | num m =>
      obtain ⟨p, rfl, hp⟩ := hA
      refine ⟨_, rfl, p, _, 0, _, rfl, rfl, .inl (.inl hp), head_at _ _, rfl, _, rfl, wdT rfl ?_⟩
      exact ⟨_, rfl, p, _, 1, _, rfl, rfl, .inl (.inl hp), atI_nat (j := 1) rfl, q H (fun _ _ e => e)⟩
  | nx l =>
    have nn : 1 ≤ n := by
      rcases Nat.lt_or_ge n 1 with h | h
      · obtain ⟨l, e⟩ := dn (by omega)
        cases e
      · exact h
    obtain ⟨p, x, rfl, hp, hx⟩ := hA
    refine ⟨_, rfl, p, _, 0, _, rfl, rfl, .inl (.inl hp), head_at _ _, rfl, _, rfl, wdF (by decide +kernel) ?_⟩
    refine ⟨_, rfl, 1, rfl, p, _, rfl, .inl (.inl hp), cut_not _ _, fun c nc => ?_⟩
    rw [cut_one]
    have s1 := same_new (o := HO.tup [x]) nc
    have fc : upd H c (.tup [x]) c = _ := upd_same
    have hp1 := s1 _ _ hp
    generalize upd H c (.tup [x]) = H1 at s1 fc hp1 ⊢
    refine ⟨c, rfl, ⟨_, .inl (.inl fc)⟩, fun D nD => ?_⟩
    have s2 := same_trans s1 (same_new (o := HO.lst []) nD)
    refine lc_tup (K := K) (a := c) (xs := [x]) (fun i X => X D = some (.lst (([.int (l.val : Int)] : List V).take i)) ∧ Same H X ∧ X c = some (.tup [x]))
      ⟨upd_same, s2, same_new nD _ _ fc⟩ (fun i X _ h => .inl (.inl h.2.2)) ?_ ?_
    · rintro i y X hy ⟨hD, sX, hc⟩
      match i, hy with
      | 0, hy =>
        cases hy
        refine ⟨rfl, _, rfl, x, .lf l, rfl, At.keep (tups_same sX) hx, ok, fun _ => ⟨l, rfl⟩, nn, fun X2 s3 => ⟨_, s3 _ _ hD, few_of' (by simp), upd_same, ?_, ?_⟩⟩
        · exact same_up (same_trans sX s3) (free_of s1 nD)
        · rw [upd_ne (ne_of (s3 _ _ hc) (s3 _ _ hD) (by intro z; cases z))]
          exact s3 _ _ hc
      | i + 1, hy => cases hy
    · rintro X ⟨hD, sX, _⟩
      refine ⟨_, rfl, p, _, 0, _, rfl, rfl, .inl (.inl (sX _ _ hp)), head_at _ _, rfl, _, rfl, wdT rfl ?_⟩
      exact ⟨_, rfl, D, _, 0, _, rfl, rfl, .inl (.inl hD), atI_nat (j := 0) rfl, _, _, rfl, rfl, q X sX⟩
  | pl l m =>
    have nn : 1 ≤ n := by
      rcases Nat.lt_or_ge n 1 with h | h
      · obtain ⟨l, e⟩ := dn (by omega)
        cases e
      · exact h
    obtain ⟨p, x, x2, rfl, hp, hx, hx2⟩ := hA
    refine ⟨_, rfl, p, _, 0, _, rfl, rfl, .inl (.inl hp), head_at _ _, rfl, _, rfl, wdF (by decide +kernel) ?_⟩
    refine ⟨_, rfl, 1, rfl, p, _, rfl, .inl (.inl hp), cut_not _ _, fun c nc => ?_⟩
    rw [cut_one]
    have s1 := same_new (o := HO.tup [x, x2]) nc
    have fc : upd H c (.tup [x, x2]) c = _ := upd_same
    have hp1 := s1 _ _ hp
    generalize upd H c (.tup [x, x2]) = H1 at s1 fc hp1 ⊢
    refine ⟨c, rfl, ⟨_, .inl (.inl fc)⟩, fun D nD => ?_⟩
    have s2 := same_trans s1 (same_new (o := HO.lst []) nD)
    refine lc_tup (K := K) (a := c) (xs := [x, x2]) (fun i X => X D = some (.lst (([.int (l.val : Int), .int (m.val : Int)] : List V).take i)) ∧ Same H X ∧ X c = some (.tup [x, x2]))
      ⟨upd_same, s2, same_new nD _ _ fc⟩ (fun i X _ h => .inl (.inl h.2.2)) ?_ ?_
    · rintro i y X hy ⟨hD, sX, hc⟩
      match i, hy with
      | 0, hy =>
        cases hy
        refine ⟨rfl, _, rfl, x, .lf l, rfl, At.keep (tups_same sX) hx, ok.1, fun _ => ⟨l, rfl⟩, nn, fun X2 s3 => ⟨_, s3 _ _ hD, few_of' (by simp), upd_same, ?_, ?_⟩⟩
        · exact same_up (same_trans sX s3) (free_of s1 nD)
        · rw [upd_ne (ne_of (s3 _ _ hc) (s3 _ _ hD) (by intro z; cases z))]
          exact s3 _ _ hc
      | 1, hy =>
        cases hy
        refine ⟨rfl, _, rfl, x2, .lf m, rfl, At.keep (tups_same sX) hx2, ok.2, fun _ => ⟨m, rfl⟩, nn, fun X2 s3 => ⟨_, s3 _ _ hD, few_of' (by simp), upd_same, ?_, ?_⟩⟩
        · exact same_up (same_trans sX s3) (free_of s1 nD)
        · rw [upd_ne (ne_of (s3 _ _ hc) (s3 _ _ hD) (by intro z; cases z))]
          exact s3 _ _ hc
      | i + 2, hy => cases hy
    · rintro X ⟨hD, sX, _⟩
      refine ⟨_, rfl, p, _, 0, _, rfl, rfl, .inl (.inl (sX _ _ hp)), head_at _ _, rfl, _, rfl, wdF (by decide +kernel) ?_⟩
      refine ⟨_, rfl, p, _, 0, _, rfl, rfl, .inl (.inl (sX _ _ hp)), head_at _ _, rfl, _, rfl, wdT rfl ?_⟩
      exact ⟨_, rfl, D, _, 0, _, rfl, rfl, .inl (.inl hD), atI_nat (j := 0) rfl, _, rfl, D, _, 1, _, rfl, rfl, .inl (.inl hD), atI_nat (j := 1) rfl, _, _, rfl, rfl, q X sX⟩
  | ti l m =>
    have nn : 1 ≤ n := by
      rcases Nat.lt_or_ge n 1 with h | h
      · obtain ⟨l, e⟩ := dn (by omega)
        cases e
      · exact h
    obtain ⟨p, x, x2, rfl, hp, hx, hx2⟩ := hA
    refine ⟨_, rfl, p, _, 0, _, rfl, rfl, .inl (.inl hp), head_at _ _, rfl, _, rfl, wdF (by decide +kernel) ?_⟩
    refine ⟨_, rfl, 1, rfl, p, _, rfl, .inl (.inl hp), cut_not _ _, fun c nc => ?_⟩
    rw [cut_one]
    have s1 := same_new (o := HO.tup [x, x2]) nc
    have fc : upd H c (.tup [x, x2]) c = _ := upd_same
    have hp1 := s1 _ _ hp
    generalize upd H c (.tup [x, x2]) = H1 at s1 fc hp1 ⊢
    refine ⟨c, rfl, ⟨_, .inl (.inl fc)⟩, fun D nD => ?_⟩
    have s2 := same_trans s1 (same_new (o := HO.lst []) nD)
    refine lc_tup (K := K) (a := c) (xs := [x, x2]) (fun i X => X D = some (.lst (([.int (l.val : Int), .int (m.val : Int)] : List V).take i)) ∧ Same H X ∧ X c = some (.tup [x, x2]))
      ⟨upd_same, s2, same_new nD _ _ fc⟩ (fun i X _ h => .inl (.inl h.2.2)) ?_ ?_
    · rintro i y X hy ⟨hD, sX, hc⟩
      match i, hy with
      | 0, hy =>
        cases hy
        refine ⟨rfl, _, rfl, x, .lf l, rfl, At.keep (tups_same sX) hx, ok.1, fun _ => ⟨l, rfl⟩, nn, fun X2 s3 => ⟨_, s3 _ _ hD, few_of' (by simp), upd_same, ?_, ?_⟩⟩
        · exact same_up (same_trans sX s3) (free_of s1 nD)
        · rw [upd_ne (ne_of (s3 _ _ hc) (s3 _ _ hD) (by intro z; cases z))]
          exact s3 _ _ hc
      | 1, hy =>
        cases hy
        refine ⟨rfl, _, rfl, x2, .lf m, rfl, At.keep (tups_same sX) hx2, ok.2, fun _ => ⟨m, rfl⟩, nn, fun X2 s3 => ⟨_, s3 _ _ hD, few_of' (by simp), upd_same, ?_, ?_⟩⟩
        · exact same_up (same_trans sX s3) (free_of s1 nD)
        · rw [upd_ne (ne_of (s3 _ _ hc) (s3 _ _ hD) (by intro z; cases z))]
          exact s3 _ _ hc
      | i + 2, hy => cases hy
    · rintro X ⟨hD, sX, _⟩
      refine ⟨_, rfl, p, _, 0, _, rfl, rfl, .inl (.inl (sX _ _ hp)), head_at _ _, rfl, _, rfl, wdF (by decide +kernel) ?_⟩
      refine ⟨_, rfl, p, _, 0, _, rfl, rfl, .inl (.inl (sX _ _ hp)), head_at _ _, rfl, _, rfl, wdF (by decide +kernel) ?_⟩
      have e : ((l.val : Int) * m.val) = (((Tm.ti l m).val : Nat) : Int) := by
        show ((l.val : Int) * m.val) = ((l.val * m.val : Nat) : Int)
        simp
      exact ⟨_, rfl, D, _, 0, _, rfl, rfl, .inl (.inl hD), atI_nat (j := 0) rfl, _, rfl, D, _, 1, _, rfl, rfl, .inl (.inl hD), atI_nat (j := 1) rfl, _, _, rfl, rfl, cmul_s (by have := lf_small ok.1; omega), by show Q (.int ((l.val : Int) * m.val)) X; rw [e]; exact q X sX⟩
theorem ok_nms (F : Fun K "_law_number" "_law_number" sNm f fd) (bS : Binds K fd ["term"] []) (mS : mg "_law_number" = some (.ref f)) : ∀ n : Nat, FnOk P w K mg base CX0 (1 + n) f fd ["term"] (spNm n)
  | 0 => no_calls fun vs H Q E h => by
    obtain ⟨v, t, _, _, _, _, n1, _⟩ := h
    omega
  | n + 1 => ok_nm F (ok_nms F bS mS n) bS mS
/-! ### _law_true -/
def spTr (n : Nat) : Sp := fun vs H Q _ => ∃ (v : V) (s : Sy), vs = [v] ∧ At H s.tr v ∧ s.flat = true ∧ s.Ok 0 ∧ s.dp ≤ n ∧ ∀ H', Same H H' → Q (.bl s.tru) H'
theorem ok_tr {n : Nat} (F : Fun K "_law_true" "_law_true" sTr f fd) (GN : FnOk P w K mg base CX0 3 fn dn ["term"] (spNm 2)) (bN : Binds K dn ["term"] []) (kN : PySem.W.keepIn K (.ref fn) = true) (mN : mg "_law_number" = some (.ref fn))
    (S : FnOk P w K mg base CX0 (3 + n) f fd ["saying"] (spTr n)) (bS : Binds K fd ["saying"] []) (mS : mg "_law_true" = some (.ref f)) : FnOk P w K mg base CX0 (3 + n + 1) f fd ["saying"] (spTr (n + 1)) := by
  refine F.ok scTr (fun vs H Q E h => ?_) (fun cdv A outer s0 H vs Q E hr h => ?_)
  · obtain ⟨v, t, rfl, _⟩ := h
    rfl
  have h3 : Room 3 _ := hr.mono (by omega)
  obtain ⟨v, s, rfl, hA, fl, ok, dn, q⟩ := h
  refine ⟨_, (pss_cons (ps_if (pt_cmpR op_eq (pe_ix ix_tup (pv 0) pe_int (fun _ _ => rfl)) pe_str (nomark _)) (pss_one (ps_ret (pe_cmpR op_eq (pe_call GN h3 (by rfl) mN kN bN .nil pass0 (pa_cons (pe_ix ix_tup (pv 0) pe_int (fun _ _ => rfl)) pa_nil)) (pe_call GN h3 (by rfl) mN kN bN .nil pass0 (pa_cons (pe_ix ix_tup (pv 0) pe_int (fun _ _ => rfl)) pa_nil)) (nomark _)))) pss_nil)
    (pss_cons (ps_if (pt_cmpR op_eq (pe_ix ix_tup (pv 0) pe_int (fun _ _ => rfl)) pe_str (nomark _)) (pss_one (ps_ret pe_bl)) pss_nil)
    (pss_cons (ps_par (i := 1) (j := 2) rfl scTr.nd rfl rfl (by decide) rfl rfl (pa_cons (pe_call S hr (by rfl) mS F.kp bS .nil pass0 (pa_cons (pe_ix ix_tup (pv 0) pe_int (fun _ _ => rfl)) pa_nil)) (pa_cons (pe_call S hr (by rfl) mS F.kp bS .nil pass0 (pa_cons (pe_ix ix_tup (pv 0) pe_int (fun _ _ => rfl)) pa_nil)) pa_nil)) (by rfl))
    (pss_one (ps_ret (pe_ifExp (pt_cmpR op_eq (pe_ix ix_tup (pv 0) pe_int (fun _ _ => rfl)) pe_str (nomark _)) (pe_and (pv 1) (pe_one (pv 2))) (pe_or (pv 2) (pe_one (pe_not (pv 1)))))))))), ?_⟩
  cases s with
  | same a b =>
    obtain ⟨p, x, y, rfl, hp, hx, hy⟩ := hA
    refine ⟨_, rfl, p, _, 0, _, rfl, rfl, .inl (.inl hp), head_at _ _, rfl, _, rfl, wdT rfl ?_⟩
    refine ⟨_, rfl, p, _, 1, _, rfl, rfl, .inl (.inl hp), atI_nat (j := 1) rfl, x, a, rfl, hx, ok.1, fun z => by omega, by decide, fun H1 s1 => ?_⟩
    refine ⟨_, rfl, p, _, 2, _, rfl, rfl, .inl (.inl (s1 _ _ hp)), atI_nat (j := 2) rfl, y, b, rfl, hy.keep (tups_same s1), ok.2, fun z => by omega, by decide, fun H2 s2 => ?_⟩
    have z := q H2 (same_trans s1 s2)
    have e : (Sy.same a b).tru = decide (V.int (a.val : Int) = V.int (b.val : Int)) := by
      show decide (a.val = b.val) = _
      refine decide_eq_decide.mpr ⟨fun e => by rw [e], fun e => ?_⟩
      injection e with e
      omega
    rw [e] at z
    exact ⟨rfl, z⟩
  | no =>
    obtain ⟨p, rfl, hp⟩ := hA
    refine ⟨_, rfl, p, _, 0, _, rfl, rfl, .inl (.inl hp), head_at _ _, rfl, _, rfl, wdF (by decide +kernel) ?_⟩
    refine ⟨_, rfl, p, _, 0, _, rfl, rfl, .inl (.inl hp), head_at _ _, rfl, _, rfl, wdT rfl ?_⟩
    exact q H (fun _ _ e => e)
  | and a b =>
    have dd : max a.dp b.dp + 1 ≤ n + 1 := dn
    have fl : (a.flat && b.flat) = true := fl
    rw [Bool.and_eq_true] at fl
    obtain ⟨p, x, y, rfl, hp, hx, hy⟩ := hA
    refine ⟨_, rfl, p, _, 0, _, rfl, rfl, .inl (.inl hp), head_at _ _, rfl, _, rfl, wdF (by decide +kernel) ?_⟩
    refine ⟨_, rfl, p, _, 0, _, rfl, rfl, .inl (.inl hp), head_at _ _, rfl, _, rfl, wdF (by decide +kernel) ?_⟩
    refine ⟨_, rfl, p, _, 1, _, rfl, rfl, .inl (.inl hp), atI_nat (j := 1) rfl, x, a, rfl, hx, fl.1, ok.1, by omega, fun H1 s1 => ?_⟩
    refine ⟨_, rfl, p, _, 2, _, rfl, rfl, .inl (.inl (s1 _ _ hp)), atI_nat (j := 2) rfl, y, b, rfl, hy.keep (tups_same s1), fl.2, ok.2, by omega, fun H2 s2 => ?_⟩
    have s12 := same_trans s1 s2
    have z := q H2 s12
    refine ⟨_, _, rfl, _, rfl, p, _, 0, _, rfl, rfl, .inl (.inl (s12 _ _ hp)), head_at _ _, rfl, _, rfl, wdT rfl ?_⟩
    have z : Q (.bl (a.tru && b.tru)) H2 := z
    refine ⟨_, rfl, _, rfl, ?_⟩
    cases c : a.tru with
    | true =>
      rw [c] at z
      exact condT rfl ⟨_, rfl, z⟩
    | false =>
      rw [c] at z
      exact condF rfl z
  | cond a b =>
    have dd : max a.dp b.dp + 1 ≤ n + 1 := dn
    have fl : (a.flat && b.flat) = true := fl
    rw [Bool.and_eq_true] at fl
    obtain ⟨p, x, y, rfl, hp, hx, hy⟩ := hA
    refine ⟨_, rfl, p, _, 0, _, rfl, rfl, .inl (.inl hp), head_at _ _, rfl, _, rfl, wdF (by decide +kernel) ?_⟩
    refine ⟨_, rfl, p, _, 0, _, rfl, rfl, .inl (.inl hp), head_at _ _, rfl, _, rfl, wdF (by decide +kernel) ?_⟩
    refine ⟨_, rfl, p, _, 1, _, rfl, rfl, .inl (.inl hp), atI_nat (j := 1) rfl, x, a, rfl, hx, fl.1, ok.2.1, by omega, fun H1 s1 => ?_⟩
    refine ⟨_, rfl, p, _, 2, _, rfl, rfl, .inl (.inl (s1 _ _ hp)), atI_nat (j := 2) rfl, y, b, rfl, hy.keep (tups_same s1), fl.2, ok.2.2, by omega, fun H2 s2 => ?_⟩
    have s12 := same_trans s1 s2
    have z := q H2 s12
    refine ⟨_, _, rfl, _, rfl, p, _, 0, _, rfl, rfl, .inl (.inl (s12 _ _ hp)), head_at _ _, rfl, _, rfl, wdF (by decide +kernel) ?_⟩
    have z : Q (.bl (b.tru || !a.tru)) H2 := z
    refine ⟨_, rfl, _, rfl, ?_⟩
    cases c : b.tru with
    | true =>
      rw [c] at z
      exact condT rfl z
    | false =>
      rw [c] at z
      exact condF rfl ⟨_, rfl, _, rfl, z⟩
  | or a b => cases fl
  | some a => cases fl
theorem ok_trs (F : Fun K "_law_true" "_law_true" sTr f fd) (GN : FnOk P w K mg base CX0 3 fn dn ["term"] (spNm 2)) (bN : Binds K dn ["term"] []) (kN : PySem.W.keepIn K (.ref fn) = true) (mN : mg "_law_number" = some (.ref fn)) (bS : Binds K fd ["saying"] []) (mS : mg "_law_true" = some (.ref f)) : ∀ n : Nat, FnOk P w K mg base CX0 (3 + n) f fd ["saying"] (spTr n)
  | 0 => no_calls fun vs H Q E h => by
    obtain ⟨v, s, _, _, _, _, n1, _⟩ := h
    cases s <;> simp [Sy.dp] at n1
  | n + 1 => ok_tr F GN bN kN mN (ok_trs F GN bN kN mN bS mS n) bS mS
end
end Kf
set_option Elab.async false
set_option linter.all false
set_option maxRecDepth 100000
set_option maxHeartbeats 8000000
set_option pp.maxSteps 500
/-! A number put in by the law; sides; numbers. -/
namespace Kf
open PySem PySem.Spec PyProof.Rows L2 Sx
abbrev sAt : Stmt := top 45
abbrev atN : List Str := ["thing", "number", "around", "more", "one"]
theorem scAt : FnScope atN ["thing", "number", "around"] (defScope sAt) := ⟨rfl, rfl, rfl, by decide +kernel, rfl, by decide +kernel, by decide +kernel⟩
abbrev sSd : Stmt := top 46
abbrev sdN : List Str := ["saying", "thing"]
theorem scSd : FnScope sdN ["saying", "thing"] (defScope sSd) := ⟨rfl, rfl, rfl, by decide +kernel, rfl, by decide +kernel, by decide +kernel⟩
abbrev sIN : Stmt := top 47
abbrev iNN : List Str := ["thing"]
theorem scIN : FnScope iNN ["thing"] (defScope sIN) := ⟨rfl, rfl, rfl, by decide +kernel, rfl, by decide +kernel, by decide +kernel⟩
structure ZA (mg : Str → Option Value) : Prop where
  zInt : mg "int" = none
  zTuple : mg "tuple" = none
  zIsinstance : mg "isinstance" = none
  zBool : mg "bool" = none
  zLen : mg "len" = none
  zStr : mg "str" = none
abbrev lowVs : List V := [.str "num", .str "name", .str "bound", .str "no"]
theorem low_row : ∀ e ∈ table, e.2.2 ≠ [] → inV (.str e.1) lowVs = false := by decide +kernel
theorem low_leaf {w : Str} (h : leafy w = true) : inV (.str w) lowVs = true := by
  have e : ∀ z : Str, inV (.str z) leafVs = true → inV (.str z) lowVs = true := fun z hz => by
    have e1 : inV (.str z) leafVs = decide (z ∈ (["num", "name", "bound"] : List Str)) := inV_strs z ["num", "name", "bound"]
    have e2 : inV (.str z) lowVs = decide (z ∈ (["num", "name", "bound", "no"] : List Str)) := inV_strs z ["num", "name", "bound", "no"]
    rw [e1] at hz
    rw [e2]
    refine decide_eq_true ?_
    have hz := of_decide_eq_true hz
    simp only [List.mem_cons, List.not_mem_nil, or_false] at hz ⊢
    rcases hz with h | h | h
    · exact .inl h
    · exact .inr (.inl h)
    · exact .inr (.inr (.inl h))
  exact e w h
theorem low_no : ∀ e ∈ table, e.2.2 = [] → inV (.str e.1) lowVs = true := by decide +kernel
section
variable {P : Program} {w : World} {K : PySem.W.Frag} {mg : Str → Option Value} {base : Heap} {f ff : Addr} {fd df : FuncData}
def putT (m r : Nat) (t : Tr) : Tr := chg (sub Kf.bnd fun _ => (Lf.num m).tr) t r
def spAt (n : Nat) : Sp := fun vs H Q _ => ∃ (v : V) (t : Tr) (k : Str) (m r : Nat), vs = [v, .int (m : Int), .int (r : Int)] ∧ At H t v ∧ t.Wf k ∧ t.Lay ∧ t.deep ≤ n ∧ n ≤ 40 ∧ ∀ u H', Same H H' → At H' (putT m r t) u → Q u H'
theorem ok_at' {n : Nat} (F : Fun K "_law_at" "_law_at" sAt f fd) (Z : ZA mg) (S : FnOk P w K mg base CX0 (1 + n) f fd ["thing", "number", "around"] (spAt n)) (bS : Binds K fd ["thing", "number", "around"] []) (mS : mg "_law_at" = some (.ref f)) : FnOk P w K mg base CX0 (1 + n + 1) f fd ["thing", "number", "around"] (spAt (n + 1)) := by
  refine F.ok scAt (fun vs H Q E h => ?_) (fun cdv Ar outer s0 H vs Q E hr h => ?_)
  · obtain ⟨v, t, k, m, r, rfl, _⟩ := h
    rfl
  have u1 : (Ar.deeper (envOfC "_law_at" (defScope sAt) s0.heap.objs.size f cdv)).units + 130 < cLine := by
    have := hr.un
    omega
  obtain ⟨v, t, k, m, r, rfl, hA, wf, ly, dn, n40, q⟩ := h
  refine ⟨_, (pss_cons (ps_if (pt_cmpR (op_eqW u1) (pv 0) (pe_tup (pa_cons pe_str (pa_cons (pv 2) pa_nil))) (nomark _)) (pss_one (ps_ret (pe_tup (pa_cons pe_str (pa_cons (pv 1) pa_nil))))) pss_nil)
    (pss_cons (ps_if (pt_cmpR op_in_seq (pe_ix ix_tup (pv 0) pe_int (fun _ _ => rfl)) (pe_tup (pa_cons pe_str (pa_cons pe_str (pa_cons pe_str (pa_cons pe_str pa_nil))))) (by rfl)) (pss_one (ps_ret (pv 0))) pss_nil)
    (pss_cons (ps_set (i := 3) scAt.nd rfl (.inr rfl) (pe_op op_add (pv 2) (pe_callTy call_int1 (by rfl) Z.zInt (by decide +kernel) (pa_cons (pe_cmpR op_in_seq (pe_ix ix_tup (pv 0) pe_int (fun _ _ => rfl)) (pe_tup (pa_cons pe_str (pa_cons pe_str pa_nil))) (by rfl)) pa_nil))))
    (pss_one (ps_ret (pe_op op_catT (pe_tup (pa_cons (pe_ix ix_tup (pv 0) pe_int (fun _ _ => rfl)) pa_nil)) (pe_tupleOf (by rfl) Z.zTuple (pe_lc (own := [("one", 4)]) (g := gName 4) (tt := tYes) (by rfl) scAt.nd (pi_tup (pe_slice sl_tup (pv 0) (po_some pe_int) po_none)) (blkOk_by (N := atN) (sc := defScope sAt) (by decide +kernel)) (fun _ _ _ _ _ => pg_name (i := 4) scAt.nd rfl (Or.inl rfl)) (fun _ _ _ _ _ => pts_nil) (fun _ _ _ _ _ => (pe_call S hr (by rfl) mS F.kp bS .nil pass0 (pa_cons (pv 4) (pa_cons (pv 1) (pa_cons (pv 3) pa_nil))))))))))))), ?_⟩
  have ok := wf_ok wf
  have ld := lay_dat t ok ly
  have lb := lay_dat (Kf.bnd r) (ok_bnd r) ⟨by decide +kernel, fun z e => by cases e⟩
  refine ⟨_, rfl, _, rfl, (by decide : 2 ≤ sizeLine), fun c nc => ?_⟩
  have s1 := same_new (o := HO.tup [.str "bound", .int (r : Int)]) nc
  have hc : At (upd H c (.tup [.str "bound", .int (r : Int)])) (Kf.bnd r) (.ref c) := ⟨c, rfl, upd_same⟩
  have hA1 := hA.keep (tups_same s1)
  generalize upd H c (.tup [.str "bound", .int (r : Int)]) = H1 at s1 hc hA1 ⊢
  refine ⟨t.dat, (Kf.bnd r).dat, hA1.dp ok, hc.dp (ok_bnd r), ld.1, lb.1, by rw [ld.2]; omega, _, rfl, ?_⟩
  have ev := eqv_dat t (Kf.bnd r) ok (ok_bnd r)
  cases e : PyData.eqv t.dat (Kf.bnd r).dat with
  | true =>
    have et := ev.mp e
    subst et
    refine condT rfl ⟨_, rfl, (by decide : 2 ≤ sizeLine), fun c2 n2 => ?_⟩
    refine q (.ref c2) _ (same_trans s1 (same_new n2)) ?_
    have e3 : putT m r (Kf.bnd r) = (Lf.num m).tr := if_pos e
    rw [e3]
    exact ⟨c2, rfl, upd_same⟩
  | false =>
    refine condF rfl ?_
    have stay : (∃ w x, t = .leaf w x) ∨ (∃ w, t = .n0 w) → putT m r t = t := by
      rintro (⟨w, x, rfl⟩ | ⟨w, rfl⟩)
      · exact if_neg (by rw [e]; exact Bool.false_ne_true)
      · rfl
    cases t with
    | leaf w x =>
      obtain ⟨p, rfl, hp⟩ := id hA1
      refine ⟨_, rfl, p, _, 0, _, rfl, rfl, .inl (.inl hp), head_at _ _, (by decide : 4 ≤ sizeLine), fun c2 n2 => ⟨c2, _, rfl, .inr (.inl (.inl upd_same)), rfl, rfl, _, rfl, ?_⟩⟩
      have lw : leafy w = true := ok.1
      have i1 : inV (.str w) lowVs = true := low_leaf lw
      rw [i1]
      refine condT rfl ?_
      have s2 := same_trans s1 (same_new (o := HO.tup lowVs) n2)
      exact ⟨_, rfl, q _ _ s2 (by rw [stay (.inl ⟨w, x, rfl⟩)]; exact hA.keep (tups_same s2))⟩
    | n0 w =>
      obtain ⟨p, rfl, hp⟩ := id hA1
      refine ⟨_, rfl, p, _, 0, _, rfl, rfl, .inl (.inl hp), head_at _ _, (by decide : 4 ≤ sizeLine), fun c2 n2 => ⟨c2, _, rfl, .inr (.inl (.inl upd_same)), rfl, rfl, _, rfl, ?_⟩⟩
      have i1 : inV (.str w) lowVs = true := low_no _ wf rfl
      rw [i1]
      refine condT rfl ?_
      have s2 := same_trans s1 (same_new (o := HO.tup lowVs) n2)
      exact ⟨_, rfl, q _ _ s2 (by rw [stay (.inr ⟨w, rfl⟩)]; exact hA.keep (tups_same s2))⟩
    | n1 w a =>
      obtain ⟨k1, row, wa⟩ := id wf
      have da : a.deep + 1 ≤ n + 1 := dn
      obtain ⟨p, x, rfl, hp, hx⟩ := id hA1
      have lw : leafy w = false := ok.1
      have row' := row
      refine ⟨_, rfl, p, _, 0, _, rfl, rfl, .inl (.inl hp), head_at _ _, (by decide : 4 ≤ sizeLine), fun c2 n2 => ⟨c2, _, rfl, .inr (.inl (.inl upd_same)), rfl, rfl, _, rfl, ?_⟩⟩
      have i1 : inV (.str w) lowVs = false := low_row _ row (by simp)
      rw [i1]
      have s2 := same_new (o := HO.tup lowVs) n2
      have hp2 := s2 _ _ hp
      generalize upd H1 c2 (.tup lowVs) = H2 at s2 hp2 ⊢
      refine condF rfl ?_
      refine ⟨_, rfl, _, rfl, p, _, 0, _, rfl, rfl, .inl (.inl hp2), head_at _ _, (by decide : 2 ≤ sizeLine), fun c3 n3 => ⟨c3, _, rfl, .inr (.inl (.inl upd_same)), rfl, rfl, .inr ⟨binds w, rfl, _, _, rfl, rfl, ?_⟩⟩⟩
      have ei : (r : Int) + (if binds w = true then 1 else 0) = ((inner w r : Nat) : Int) := by
        unfold inner
        by_cases c : binds w = true
        · rw [if_pos c, if_pos c]
          simp
        · rw [if_neg c, if_neg c]
          simp
      have s3 := same_trans s2 (same_new (o := HO.tup bindVs) n3)
      have hp3 := s3 _ _ hp
      generalize upd H2 c3 (.tup bindVs) = H3 at s3 hp3 ⊢
      dsimp only
      rw [ei]
      refine ⟨_, rfl, p, _, 0, _, rfl, rfl, .inl (.inl hp3), head_at _ _, (by decide : 1 ≤ sizeLine), fun cw n4 => ?_⟩
      have s4 := same_trans s3 (same_new (o := HO.tup [.str w]) n4)
      have hp4 := s4 _ _ hp
      have fw : upd H3 cw (.tup [.str w]) cw = _ := upd_same
      generalize upd H3 cw (.tup [.str w]) = H4 at s4 hp4 fw ⊢
      refine ⟨_, rfl, 1, rfl, p, _, rfl, .inl (.inl hp4), cut_not _ _, fun c5 nc5 => ?_⟩
      rw [cut_one]
      have s9 := same_new (o := HO.tup [x]) nc5
      have fc : upd H4 c5 (.tup [x]) c5 = _ := upd_same
      have s49 := same_trans s4 s9
      have fw9 := s9 _ _ fw
      generalize upd H4 c5 (.tup [x]) = H5 at s49 fc fw9 ⊢
      refine ⟨c5, rfl, ⟨_, .inl (.inl fc)⟩, fun D nD => ?_⟩
      have s5D := same_new (o := HO.lst []) nD
      refine lc_tup (K := K) (a := c5) (xs := [x]) (fun i X => ∃ us : List V, X D = some (.lst us) ∧ us.length = i ∧ Same H1 X ∧ X c5 = some (.tup [x]) ∧ X cw = some (.tup [.str w]) ∧ (i = 1 → ∃ u, us = [u] ∧ At X (putT m (inner w r) a) u))
        ⟨[], upd_same, rfl, same_trans s49 s5D, s5D _ _ fc, s5D _ _ fw9, fun z => by cases z⟩ (fun i X _ ⟨_, _, _, _, h, _⟩ => .inl (.inl h)) ?_ ?_
      · rintro i y X hy ⟨us, hD, lu, sX, hc, hw, _⟩
        match i, hy with
        | 0, hy =>
          cases hy
          refine ⟨rfl, _, rfl, _, rfl, _, rfl, x, a, k1, m, inner w r, rfl, At.keep (tups_same sX) hx, wa, ly.2, by omega, by omega, fun u X2 s3 hu => ⟨_, s3 _ _ hD, few_of' (by omega), us ++ [u], upd_same, by rw [List.length_append, lu]; rfl, ?_, ?_, ?_, fun _ => ⟨u, ?_, hu.keep (tups_lst (s3 _ _ hD))⟩⟩⟩
          · exact same_up (same_trans sX s3) (free_of s49 nD)
          · rw [upd_ne (ne_of (s3 _ _ hc) (s3 _ _ hD) (by intro z; cases z))]
            exact s3 _ _ hc
          · rw [upd_ne (ne_of (s3 _ _ hw) (s3 _ _ hD) (by intro z; cases z))]
            exact s3 _ _ hw
          · rw [List.length_eq_zero_iff.mp lu]
            rfl
        | i + 1, hy => cases hy
      · rintro X ⟨us, hD, lu, sX, hc, hw, hu⟩
        obtain ⟨u, rfl, hu'⟩ := hu rfl
        refine .inl ⟨D, _, rfl, .inl (.inl hD), fun tq ntq => ?_⟩
        have s7 := same_new (o := HO.tup [u]) ntq
        refine ⟨cw, tq, _, _, rfl, rfl, .inl (.inl (s7 _ _ hw)), .inl (.inl upd_same), (by simp), (by decide : 2 ≤ sizeLine), (fun z => by cases z), fun _ z nz => ?_⟩
        have s8 := same_trans s7 (same_new (o := HO.tup ([.str w] ++ [u])) nz)
        exact q _ _ (same_trans s1 (same_trans sX s8)) ⟨z, u, rfl, upd_same, hu'.keep (tups_same s8)⟩
    | n2 w a b =>
      obtain ⟨k1, k2, row, wa, wb⟩ := id wf
      have da : max a.deep b.deep + 1 ≤ n + 1 := dn
      obtain ⟨p, x, x2, rfl, hp, hx, hx2⟩ := id hA1
      have lw : leafy w = false := ok.1
      have row' := row
      refine ⟨_, rfl, p, _, 0, _, rfl, rfl, .inl (.inl hp), head_at _ _, (by decide : 4 ≤ sizeLine), fun c2 n2 => ⟨c2, _, rfl, .inr (.inl (.inl upd_same)), rfl, rfl, _, rfl, ?_⟩⟩
      have i1 : inV (.str w) lowVs = false := low_row _ row (by simp)
      rw [i1]
      have s2 := same_new (o := HO.tup lowVs) n2
      have hp2 := s2 _ _ hp
      generalize upd H1 c2 (.tup lowVs) = H2 at s2 hp2 ⊢
      refine condF rfl ?_
      refine ⟨_, rfl, _, rfl, p, _, 0, _, rfl, rfl, .inl (.inl hp2), head_at _ _, (by decide : 2 ≤ sizeLine), fun c3 n3 => ⟨c3, _, rfl, .inr (.inl (.inl upd_same)), rfl, rfl, .inr ⟨binds w, rfl, _, _, rfl, rfl, ?_⟩⟩⟩
      have ei : (r : Int) + (if binds w = true then 1 else 0) = ((inner w r : Nat) : Int) := by
        unfold inner
        by_cases c : binds w = true
        · rw [if_pos c, if_pos c]
          simp
        · rw [if_neg c, if_neg c]
          simp
      have s3 := same_trans s2 (same_new (o := HO.tup bindVs) n3)
      have hp3 := s3 _ _ hp
      generalize upd H2 c3 (.tup bindVs) = H3 at s3 hp3 ⊢
      dsimp only
      rw [ei]
      refine ⟨_, rfl, p, _, 0, _, rfl, rfl, .inl (.inl hp3), head_at _ _, (by decide : 1 ≤ sizeLine), fun cw n4 => ?_⟩
      have s4 := same_trans s3 (same_new (o := HO.tup [.str w]) n4)
      have hp4 := s4 _ _ hp
      have fw : upd H3 cw (.tup [.str w]) cw = _ := upd_same
      generalize upd H3 cw (.tup [.str w]) = H4 at s4 hp4 fw ⊢
      refine ⟨_, rfl, 1, rfl, p, _, rfl, .inl (.inl hp4), cut_not _ _, fun c5 nc5 => ?_⟩
      rw [cut_one]
      have s9 := same_new (o := HO.tup [x, x2]) nc5
      have fc : upd H4 c5 (.tup [x, x2]) c5 = _ := upd_same
      have s49 := same_trans s4 s9
      have fw9 := s9 _ _ fw
      generalize upd H4 c5 (.tup [x, x2]) = H5 at s49 fc fw9 ⊢
      refine ⟨c5, rfl, ⟨_, .inl (.inl fc)⟩, fun D nD => ?_⟩
      have s5D := same_new (o := HO.lst []) nD
      refine lc_tup (K := K) (a := c5) (xs := [x, x2]) (fun i X => ∃ us : List V, X D = some (.lst us) ∧ us.length = i ∧ Same H1 X ∧ X c5 = some (.tup [x, x2]) ∧ X cw = some (.tup [.str w]) ∧ (i = 1 → ∃ u, us = [u] ∧ At X (putT m (inner w r) a) u) ∧ (i = 2 → ∃ u u2, us = [u, u2] ∧ At X (putT m (inner w r) a) u ∧ At X (putT m (inner w r) b) u2))
        ⟨[], upd_same, rfl, same_trans s49 s5D, s5D _ _ fc, s5D _ _ fw9, (fun z => by cases z), fun z => by cases z⟩ (fun i X _ ⟨_, _, _, _, h, _⟩ => .inl (.inl h)) ?_ ?_
      · rintro i y X hy ⟨us, hD, lu, sX, hc, hw, h1, _⟩
        match i, hy with
        | 0, hy =>
          cases hy
          refine ⟨rfl, _, rfl, _, rfl, _, rfl, x, a, k1, m, inner w r, rfl, At.keep (tups_same sX) hx, wa, ly.2.1, by omega, by omega, fun u X2 s3 hu => ⟨_, s3 _ _ hD, few_of' (by omega), us ++ [u], upd_same, by rw [List.length_append, lu]; rfl, ?_, ?_, ?_, (fun _ => ⟨u, ?_, hu.keep (tups_lst (s3 _ _ hD))⟩), fun z => by cases z⟩⟩
          · exact same_up (same_trans sX s3) (free_of s49 nD)
          · rw [upd_ne (ne_of (s3 _ _ hc) (s3 _ _ hD) (by intro z; cases z))]
            exact s3 _ _ hc
          · rw [upd_ne (ne_of (s3 _ _ hw) (s3 _ _ hD) (by intro z; cases z))]
            exact s3 _ _ hw
          · rw [List.length_eq_zero_iff.mp lu]
            rfl
        | 1, hy =>
          cases hy
          obtain ⟨u0, rfl, hu0⟩ := h1 rfl
          refine ⟨rfl, _, rfl, _, rfl, _, rfl, x2, b, k2, m, inner w r, rfl, At.keep (tups_same sX) hx2, wb, ly.2.2, by omega, by omega, fun u X2 s3 hu => ⟨_, s3 _ _ hD, few_of' (by omega), [u0] ++ [u], upd_same, rfl, ?_, ?_, ?_, (fun z => by cases z), fun _ => ⟨u0, u, rfl, (hu0.keep (tups_same s3)).keep (tups_lst (s3 _ _ hD)), hu.keep (tups_lst (s3 _ _ hD))⟩⟩⟩
          · exact same_up (same_trans sX s3) (free_of s49 nD)
          · rw [upd_ne (ne_of (s3 _ _ hc) (s3 _ _ hD) (by intro z; cases z))]
            exact s3 _ _ hc
          · rw [upd_ne (ne_of (s3 _ _ hw) (s3 _ _ hD) (by intro z; cases z))]
            exact s3 _ _ hw
        | i + 2, hy => cases hy
      · rintro X ⟨us, hD, lu, sX, hc, hw, _, hu⟩
        obtain ⟨u, u2, rfl, hu', hu2⟩ := hu rfl
        refine .inl ⟨D, _, rfl, .inl (.inl hD), fun tq ntq => ?_⟩
        have s7 := same_new (o := HO.tup [u, u2]) ntq
        refine ⟨cw, tq, _, _, rfl, rfl, .inl (.inl (s7 _ _ hw)), .inl (.inl upd_same), (by simp), (by decide : 3 ≤ sizeLine), (fun z => by cases z), fun _ z nz => ?_⟩
        have s8 := same_trans s7 (same_new (o := HO.tup ([.str w] ++ [u, u2])) nz)
        exact q _ _ (same_trans s1 (same_trans sX s8)) ⟨z, u, u2, rfl, upd_same, hu'.keep (tups_same s8), hu2.keep (tups_same s8)⟩
theorem ok_ats (F : Fun K "_law_at" "_law_at" sAt f fd) (Z : ZA mg) (bS : Binds K fd ["thing", "number", "around"] []) (mS : mg "_law_at" = some (.ref f)) : ∀ n : Nat, FnOk P w K mg base CX0 (1 + n) f fd ["thing", "number", "around"] (spAt n)
  | 0 => no_calls fun vs H Q E h => by
    obtain ⟨v, t, _, _, _, _, _, _, _, n1, _⟩ := h
    cases t <;> simp [Tr.deep] at n1
  | n + 1 => ok_at' F Z (ok_ats F Z bS mS n) bS mS
/-! ### _law_is_number -/
def spIN (K : PySem.W.Frag) : Sp := fun vs H Q _ => ∃ (v : V) (d : PyData), vs = [v] ∧ Dp K H v d ∧ Q (.bl (numD d)) H
theorem ok_in (F : Fun K "_law_is_number" "_law_is_number" sIN f fd) (Z : ZA mg) : FnOk P w K mg base CX0 1 f fd ["thing"] (spIN K) := by
  refine F.ok scIN (fun vs H Q E h => ?_) (fun cdv A outer s0 H vs Q E hr h => ?_)
  · obtain ⟨v, d, rfl, _⟩ := h
    rfl
  obtain ⟨v, d, rfl, hd, q⟩ := h
  refine ⟨_, (pss_one (ps_ret (pe_and (pe_callB (id := "isinstance") (r := rIsi K) call_isi (by rfl) Z.zIsinstance (by decide +kernel) (pa_cons (pv 0) (pa_cons (pe_bltn (v := .ty "int") (by rfl) Z.zInt (by decide +kernel) rfl) pa_nil))) (pe_and (pe_not (pe_callB (id := "isinstance") (r := rIsi K) call_isi (by rfl) Z.zIsinstance (by decide +kernel) (pa_cons (pv 0) (pa_cons (pe_bltn (v := .ty "bool") (by rfl) Z.zBool (by decide +kernel) rfl) pa_nil)))) (pe_one (pe_chain op_le op_lt pe_int (pv 0) (pe_op op_pow pe_int pe_int))))))), ?_⟩
  refine ⟨_, rfl, _, _, _, _, isI d, rfl, .ty "int", dp_ty hd, kit_i d, _, rfl, ?_⟩
  cases hi : isI d with
  | false =>
    have e : numD d = false := by
      cases d with
      | int i => cases hi
      | _ => rfl
    rw [e] at q
    exact condF rfl q
  | true =>
    refine condT rfl ⟨_, rfl, _, _, _, _, isB d, rfl, .ty "bool", dp_ty hd, kit_b d, _, rfl, ?_⟩
    cases d with
    | int i =>
      cases hd
      refine ⟨_, rfl, condT rfl ⟨_, rfl, _, _, rfl, rfl, _, rfl, ?_⟩⟩
      have q : Q (.bl (decide ((0 : Int) ≤ i) && decide (i < 10 ^ 60))) H := q
      cases c0 : decide ((0 : Int) ≤ i) with
      | false =>
        rw [c0] at q
        exact condF rfl q
      | true =>
        rw [c0] at q
        exact condT rfl ⟨_, _, rfl, rfl, ⟨by decide, by decide, by decide⟩, _, _, rfl, rfl, q⟩
    | bool b =>
      exact ⟨_, rfl, condF rfl q⟩
    | _ => cases hi
end
end Kf
set_option Elab.async false
set_option linter.all false
set_option maxRecDepth 100000
set_option maxHeartbeats 8000000
set_option pp.maxSteps 500
/-! What fits, what is borne, by the law's own looks. -/
namespace Kf
open PySem PySem.Spec PyProof.Rows L2 Sx
abbrev sFi : Stmt := top 48
abbrev fiN : List Str := ["saying", "thing", "sides"]
theorem scFi : FnScope fiN ["saying", "thing"] (defScope sFi) := ⟨rfl, rfl, rfl, by decide +kernel, rfl, by decide +kernel, by decide +kernel⟩
abbrev sBo : Stmt := top 49
abbrev boN : List Str := ["saying", "thing", "one", "other"]
theorem scBo : FnScope boN ["saying", "thing"] (defScope sBo) := ⟨rfl, rfl, rfl, by decide +kernel, rfl, by decide +kernel, by decide +kernel⟩
theorem tu_ways {K : PySem.W.Frag} {H : Hp} {v : V} {d : PyData} (h : Dp K H v d) : isTu d = false ∨ ∃ p xs ds, v = .ref p ∧ d = .tuple ds ∧ SqT K H p xs ∧ DpAll K H xs ds := by
  cases d with
  | tuple ds =>
    obtain ⟨a, xs, e, hs, ha⟩ := Dp.view h
    exact .inr ⟨a, xs, ds, e, rfl, hs, ha⟩
  | _ => exact .inl rfl
theorem two_tu {d : PyData} (h : isTu d = false) : isTwo d = false := by
  cases d with
  | tuple ds => cases h
  | _ => rfl
theorem two_view {K : PySem.W.Frag} {H : Hp} {xs : List V} {ds : List PyData} (h : DpAll K H xs ds) (t : isTwo (.tuple ds) = true) : ∃ x y, xs = [x, y] ∧ Dp K H x (un1 (.tuple ds)) ∧ Dp K H y (un2 (.tuple ds)) := by
  match ds, t with
  | [a, b], _ =>
    cases h with
    | @cons x _ _ _ h1 h =>
    cases h with
    | @cons y _ _ _ h2 h =>
    cases h
    exact ⟨x, y, rfl, h1, h2⟩
section
variable {P : Program} {w : World} {K : PySem.W.Frag} {mg : Str → Option Value} {base : Heap} {f ff fs fn ft fa : Addr} {fd df ds dn dt da : FuncData}
def spSd (K : PySem.W.Frag) : Sp := fun vs H Q _ => ∃ (v1 v2 : V) (a b : Sy) (d : PyData) (c : Nat), vs = [v1, v2] ∧ At H (Sy.and a b).tr v1 ∧ (Sy.and a b).Ok c ∧ c + (Sy.and a b).dp ≤ 16 ∧ (Sy.and a b).dp ≤ 8 ∧ Dp K H v2 d ∧
  ((a.flat || b.flat || isTwo d) = true → ∀ q x y H', Same H H' → SqT K H' q [x, y] → Dp K H x (sides a b d).1 → Dp K H y (sides a b d).2 → Q (.ref q) H') ∧ ((a.flat || b.flat || isTwo d) = false → ∀ H', Same H H' → Q .non H')
theorem ok_sd (F : Fun K "_law_sides" "_law_sides" sSd f fd) (Z : ZA mg) (GF : FnOk P w K mg base CX0 10 ff df ["saying"] spLF) (bF : Binds K df ["saying"] []) (kF : PySem.W.keepIn K (.ref ff) = true) (mF : mg "_law_is_flat" = some (.ref ff)) : FnOk P w K mg base CX0 11 f fd ["saying", "thing"] (spSd K) := by
  refine F.ok scSd (fun vs H Q E h => ?_) (fun cdv Ar outer s0 H vs Q E hr h => ?_)
  · obtain ⟨v1, v2, a, b, d, c, rfl, _⟩ := h
    rfl
  have h10 : Room 10 _ := hr
  obtain ⟨v1, v2, a, b, d, c, rfl, hA, ok, d16, d8, hd, q, qn⟩ := h
  refine ⟨_, (pss_cons (ps_if (pt_val (pe_call GF h10 (by rfl) mF kF bF .nil pass0 (pa_cons (pe_ix ix_tup (pv 0) pe_int (fun _ _ => rfl)) pa_nil))) (pss_one (ps_ret (pe_tup (pa_cons pe_non (pa_cons (pv 1) pa_nil))))) pss_nil)
    (pss_cons (ps_if (pt_val (pe_call GF h10 (by rfl) mF kF bF .nil pass0 (pa_cons (pe_ix ix_tup (pv 0) pe_int (fun _ _ => rfl)) pa_nil))) (pss_one (ps_ret (pe_tup (pa_cons (pv 1) (pa_cons pe_non pa_nil))))) pss_nil)
    (pss_one (ps_ret (pe_ifExp (PW.pt (pw_and (pt_val (pe_callB (id := "isinstance") (r := rIsi K) call_isi (by rfl) Z.zIsinstance (by decide +kernel) (pa_cons (pv 1) (pa_cons (pe_bltn (v := .ty "tuple") (by rfl) Z.zTuple (by decide +kernel) rfl) pa_nil)))) (pw_and1 (pt_cmpR op_eq (pe_callB call_len_seq (by rfl) Z.zLen PySem.boot_len (pa_cons (pv 1) pa_nil)) pe_int (nomark _))))) (pv 1) pe_non))))), ?_⟩
  have d16 : c + (max a.dp b.dp + 1) ≤ 16 := d16
  have d8 : max a.dp b.dp + 1 ≤ 8 := d8
  obtain ⟨p, x, y, rfl, hp, hx, hy⟩ := hA
  unfold sides at q
  refine ⟨_, rfl, p, _, 1, _, rfl, rfl, .inl (.inl hp), atI_nat (j := 1) rfl, x, a, c, rfl, hx, ok.1, by omega, by omega, fun H1 s1 => ⟨_, rfl, ?_⟩⟩
  cases fa : a.flat with
  | true =>
    rw [fa] at q
    refine condT rfl ⟨_, rfl, (by decide : 2 ≤ sizeLine), fun t nt => ?_⟩
    exact q rfl t _ _ _ (same_trans s1 (same_new nt)) (.inl (.inl upd_same)) .non hd
  | false =>
  refine condF rfl ?_
  refine ⟨_, rfl, p, _, 2, _, rfl, rfl, .inl (.inl (s1 _ _ hp)), atI_nat (j := 2) rfl, y, b, c, rfl, hy.keep (tups_same s1), ok.2, by omega, by omega, fun H2 s2 => ⟨_, rfl, ?_⟩⟩
  have s12 := same_trans s1 s2
  rw [fa] at q qn
  cases fb : b.flat with
  | true =>
    rw [fb] at q
    refine condT rfl ⟨_, rfl, (by decide : 2 ≤ sizeLine), fun t nt => ?_⟩
    exact q rfl t _ _ _ (same_trans s12 (same_new nt)) (.inl (.inl upd_same)) hd .non
  | false =>
  refine condF rfl ?_
  rw [fb] at q qn
  have hd2 := dp_up s12 _ _ hd
  refine ⟨_, rfl, _, _, _, _, isTu d, rfl, .ty "tuple", dp_ty hd2, kit_tu d, _, rfl, ?_⟩
  rcases tu_ways hd with tu | ⟨pd, xs, ds, rfl, rfl, hs, ha⟩
  · rw [tu]
    exact condF rfl (qn (two_tu tu) H2 s12)
  · refine condT rfl ⟨_, rfl, pd, _, rfl, .inr (sqT_up s12 hs), rfl, _, rfl, ?_⟩
    rw [two_len ha]
    cases t : isTwo (.tuple ds) with
    | false => exact condF rfl (qn t H2 s12)
    | true =>
      obtain ⟨x1, y1, rfl, h1, h2⟩ := two_view ha t
      exact condT rfl ⟨_, rfl, q t pd _ _ _ s12 (sqT_up s12 hs) h1 h2⟩
/-! ### _law_fits -/
def spFi (K : PySem.W.Frag) (n : Nat) : Sp := fun vs H Q _ => ∃ (v1 v2 : V) (s : Sy) (d : PyData) (c : Nat), vs = [v1, v2] ∧ At H s.tr v1 ∧ s.Ok c ∧ c + s.dp ≤ 16 ∧ s.dp ≤ 8 ∧ s.dp ≤ n ∧ Dp K H v2 d ∧ ats d = true ∧ ∀ H', Same H H' → Q (.bl (fitsD s.kind d)) H'
theorem ok_fi {n : Nat} (F : Fun K "_law_fits" "_law_fits" sFi f fd) (Z : ZA mg) (GF : FnOk P w K mg base CX0 10 ff df ["saying"] spLF) (bF : Binds K df ["saying"] []) (kF : PySem.W.keepIn K (.ref ff) = true) (mF : mg "_law_is_flat" = some (.ref ff))
    (GS : FnOk P w K mg base CX0 11 fs ds ["saying", "thing"] (spSd K)) (bS : Binds K ds ["saying", "thing"] []) (kS : PySem.W.keepIn K (.ref fs) = true) (mS : mg "_law_sides" = some (.ref fs))
    (GN : FnOk P w K mg base CX0 1 fn dn ["thing"] (spIN K)) (bN : Binds K dn ["thing"] []) (kN : PySem.W.keepIn K (.ref fn) = true) (mN : mg "_law_is_number" = some (.ref fn))
    (S : FnOk P w K mg base CX0 (11 + n) f fd ["saying", "thing"] (spFi K n)) (bFi : Binds K fd ["saying", "thing"] []) (mFi : mg "_law_fits" = some (.ref f)) : FnOk P w K mg base CX0 (11 + n + 1) f fd ["saying", "thing"] (spFi K (n + 1)) := by
  refine F.ok scFi (fun vs H Q E h => ?_) (fun cdv Ar outer s0 H vs Q E hr h => ?_)
  · obtain ⟨v1, v2, s, d, c, rfl, _⟩ := h
    rfl
  have h11 : Room 11 _ := hr.mono (by omega)
  have h10 : Room 10 _ := hr.mono (by omega)
  have h1 : Room 1 _ := hr.mono (by omega)
  obtain ⟨v1, v2, s, d, c, rfl, hA, ok, d16, d8, dn, hd, at1, q⟩ := h
  refine ⟨_, (pss_cons (ps_if (pt_val (pe_call GF h10 (by rfl) mF kF bF .nil pass0 (pa_cons (pv 0) pa_nil))) (pss_one (ps_ret (pe_cmpR op_isN (pv 1) pe_non (nomark _)))) pss_nil)
    (pss_cons (ps_if (pt_cmpR op_eq (pe_ix ix_tup (pv 0) pe_int (fun _ _ => rfl)) pe_str (nomark _)) (pss_cons (ps_set (i := 2) scFi.nd rfl (.inl rfl) (pe_call GS h11 (by rfl) mS kS bS .nil pass0 (pa_cons (pv 0) (pa_cons (pv 1) pa_nil))))
    (pss_cons (ps_if (PW.pt (pw_or (pt_cmpR op_isN (pv 2) pe_non (nomark _)) (pw_or1 (pt_not (pt_val (pe_call S hr (by rfl) mFi F.kp bFi .nil pass0 (pa_cons (pe_ix ix_tup (pv 0) pe_int (fun _ _ => rfl)) (pa_cons (pe_ix ix_tup (pv 2) pe_int (fun _ _ => rfl)) pa_nil)))))))) (pss_one (ps_ret pe_bl)) pss_nil)
    (pss_one (ps_ret (pe_call S hr (by rfl) mFi F.kp bFi .nil pass0 (pa_cons (pe_ix ix_tup (pv 0) pe_int (fun _ _ => rfl)) (pa_cons (pe_ix ix_tup (pv 2) pe_int (fun _ _ => rfl)) pa_nil))))))) pss_nil)
    (pss_cons (ps_if (pt_cmpR op_eq (pe_ix ix_tup (pv 0) pe_int (fun _ _ => rfl)) pe_str (nomark _)) (pss_cons (ps_if (PW.pt (pw_or (pt_not (pt_val (pe_callB call_isi (by rfl) Z.zIsinstance (by decide +kernel) (pa_cons (pv 1) (pa_cons (pe_bltn (v := .ty "tuple") (by rfl) Z.zTuple (by decide +kernel) rfl) pa_nil))))) (pw_or (pt_cmpR op_ne (pe_callB call_len_seq (by rfl) Z.zLen PySem.boot_len (pa_cons (pv 1) pa_nil)) pe_int (nomark _)) (pw_or1 (pt_not (pt_val (pe_callB call_isi (by rfl) Z.zIsinstance (by decide +kernel) (pa_cons (pe_ix ix_tup (pv 1) pe_int (fun _ _ => rfl)) (pa_cons (pe_bltn (v := .ty "str") (by rfl) Z.zStr (by decide +kernel) rfl) pa_nil))))))))) (pss_one (ps_ret pe_bl)) pss_nil)
    (pss_cons (ps_if (pt_cmpR op_notIn_seq (pe_ix ix_tup (pv 1) pe_int (fun _ _ => rfl)) (pe_tup (pa_cons pe_str (pa_cons pe_str pa_nil))) (by rfl)) (pss_one (ps_ret pe_bl)) pss_nil)
    (pss_one (ps_ret (pe_call S hr (by rfl) mFi F.kp bFi .nil pass0 (pa_cons (pe_ix ix_tup (pv 0) (pe_op op_add pe_int (pe_callTy call_int1 (by rfl) Z.zInt (by decide +kernel) (pa_cons (pe_cmpR op_eq (pe_ix ix_tup (pv 1) pe_int (fun _ _ => rfl)) pe_str (nomark _)) pa_nil))) (fun _ _ => rfl)) (pa_cons (pe_ix ix_tup (pv 1) pe_int (fun _ _ => rfl)) pa_nil))))))) pss_nil)
    (pss_cons (ps_if (pt_cmpR op_eq (pe_ix ix_tup (pv 0) pe_int (fun _ _ => rfl)) pe_str (nomark _)) (pss_one (ps_ret (pe_call S hr (by rfl) mFi F.kp bFi .nil pass0 (pa_cons (pe_ix ix_tup (pv 0) pe_int (fun _ _ => rfl)) (pa_cons (pv 1) pa_nil))))) pss_nil)
    (pss_cons (ps_if (pt_val (pe_call GF h10 (by rfl) mF kF bF .nil pass0 (pa_cons (pe_ix ix_tup (pv 0) pe_int (fun _ _ => rfl)) pa_nil))) (pss_one (ps_ret (pe_call GN h1 (by rfl) mN kN bN .nil pass0 (pa_cons (pv 1) pa_nil)))) pss_nil)
    (pss_cons (ps_if (PW.pt (pw_or (pt_not (pt_val (pe_callB call_isi (by rfl) Z.zIsinstance (by decide +kernel) (pa_cons (pv 1) (pa_cons (pe_bltn (v := .ty "tuple") (by rfl) Z.zTuple (by decide +kernel) rfl) pa_nil))))) (pw_or (pt_cmpR op_ne (pe_callB call_len_seq (by rfl) Z.zLen PySem.boot_len (pa_cons (pv 1) pa_nil)) pe_int (nomark _)) (pw_or1 (pt_not (pt_val (pe_call GN h1 (by rfl) mN kN bN .nil pass0 (pa_cons (pe_ix ix_tup (pv 1) pe_int (fun _ _ => rfl)) pa_nil)))))))) (pss_one (ps_ret pe_bl)) pss_nil)
    (pss_one (ps_ret (pe_call S hr (by rfl) mFi F.kp bFi .nil pass0 (pa_cons (pe_ix ix_tup (pv 0) pe_int (fun _ _ => rfl)) (pa_cons (pe_ix ix_tup (pv 1) pe_int (fun _ _ => rfl)) pa_nil))))))))))), ?_⟩
  refine ⟨_, rfl, v1, s, c, rfl, hA, ok, d16, d8, fun H1 s1 => ⟨_, rfl, ?_⟩⟩
  have hd1 := dp_up s1 _ _ hd
  cases fl : s.flat with
  | true =>
    refine condT rfl ⟨_, rfl, rfl, ?_⟩
    rw [non_is hd1, ← none_fits ok fl]
    exact q H1 s1
  | false =>
  refine condF rfl ?_
  cases s with
  | same a b => cases fl
  | no => cases fl
  | and a b =>
    have d16' : c + (max a.dp b.dp + 1) ≤ 16 := d16
    have d8' : max a.dp b.dp + 1 ≤ 8 := d8
    have dn' : max a.dp b.dp + 1 ≤ n + 1 := dn
    rw [fits_and ok] at q
    obtain ⟨p, x, y, rfl, hp, hx, hy⟩ := id hA
    have hp1 := s1 _ _ hp
    refine ⟨_, rfl, p, _, 0, _, rfl, rfl, .inl (.inl hp1), head_at _ _, rfl, _, rfl, wdT rfl ?_⟩
    have at2 : ats (sides a b d).1 = true ∧ ats (sides a b d).2 = true := by
      unfold sides
      split
      · exact ⟨rfl, at1⟩
      · split
        · exact ⟨at1, rfl⟩
        · exact ⟨ats_un1 at1, ats_un2 at1⟩
    refine ⟨_, rfl, _, rfl, .ref p, v2, a, b, d, c, rfl, hA.keep (tups_same s1), ok, d16, d8, hd1, fun e q2 x1 y1 H2 s2 hq hx1 hy1 => ?_, fun e H2 s2 => ?_⟩
    · rw [e] at q
      have s12 := same_trans s1 s2
      refine ⟨_, rfl, rfl, _, rfl, condF (by rfl) ?_⟩
      refine ⟨_, rfl, p, _, 1, _, rfl, rfl, .inl (.inl (s12 _ _ hp)), atI_nat (j := 1) rfl, _, rfl, q2, _, 0, _, rfl, rfl, hq, head_at _ _, x, x1, a, (sides a b d).1, c, rfl, hx.keep (tups_same s12), ok.1, by omega, by omega, by omega, dp_up s2 _ _ hx1, at2.1, fun H3 s3 => ?_⟩
      have s13 := same_trans s12 s3
      refine ⟨_, rfl, ?_⟩
      cases c1 : fitsD a.kind (sides a b d).1 with
      | false =>
        rw [c1] at q
        exact condT rfl (q H3 s13)
      | true =>
        rw [c1] at q
        refine condF rfl ?_
        refine ⟨_, rfl, p, _, 2, _, rfl, rfl, .inl (.inl (s13 _ _ hp)), atI_nat (j := 2) rfl, _, rfl, q2, _, 1, _, rfl, rfl, sqT_up s3 hq, atI_nat (j := 1) rfl, y, y1, b, (sides a b d).2, c, rfl, hy.keep (tups_same s13), ok.2, by omega, by omega, by omega, dp_up (same_trans s2 s3) _ _ hy1, at2.2, fun H4 s4 => ?_⟩
        exact q H4 (same_trans s13 s4)
    · rw [e] at q
      exact ⟨_, rfl, rfl, _, rfl, condT rfl (q H2 (same_trans s1 s2))⟩
  | or a b =>
    have d16' : c + (max a.dp b.dp + 1) ≤ 16 := d16
    have d8' : max a.dp b.dp + 1 ≤ 8 := d8
    have dn' : max a.dp b.dp + 1 ≤ n + 1 := dn
    rw [fits_or] at q
    obtain ⟨p, x, y, rfl, hp, hx, hy⟩ := id hA
    have hp1 := s1 _ _ hp
    refine ⟨_, rfl, p, _, 0, _, rfl, rfl, .inl (.inl hp1), head_at _ _, rfl, _, rfl, wdF (by decide +kernel) ?_⟩
    refine ⟨_, rfl, p, _, 0, _, rfl, rfl, .inl (.inl hp1), head_at _ _, rfl, _, rfl, wdT rfl ?_⟩
    refine ⟨_, rfl, _, _, _, _, isTu d, rfl, .ty "tuple", dp_ty hd1, kit_tu d, _, rfl, ?_⟩
    rcases tu_ways hd with tu | ⟨pd, xs, ds, rfl, rfl, hs, ha⟩
    · rw [two_tu tu] at q
      rw [tu]
      exact condT rfl (q H1 s1)
    refine condF rfl ⟨_, rfl, pd, _, rfl, .inr (sqT_up s1 hs), rfl, _, rfl, ?_⟩
    rw [two_len ha]
    cases t : isTwo (.tuple ds) with
    | false =>
      rw [t] at q
      exact condT rfl (q H1 s1)
    | true =>
    rw [t] at q
    obtain ⟨x1, y1, rfl, h1, h2⟩ := two_view ha t
    have hs1 := sqT_up s1 hs
    refine condF rfl ⟨_, rfl, pd, _, 0, _, rfl, rfl, hs1, head_at _ _, _, _, _, _, isS (un1 (.tuple ds)), rfl, .ty "str", dp_ty (dp_up s1 _ _ h1), kit_s _, _, rfl, ?_⟩
    cases u : un1 (.tuple ds) with
    | str z =>
      rw [u] at h1 q
      cases h1
      refine condF rfl ?_
      refine ⟨_, rfl, pd, _, 0, _, rfl, rfl, hs1, head_at _ _, (by decide : 2 ≤ sizeLine), fun c2 n2 => ⟨c2, _, rfl, .inr (.inl (.inl upd_same)), rfl, rfl, _, rfl, ?_⟩⟩
      have s2 := same_trans s1 (same_new (o := HO.tup [.str "this", .str "that"]) n2)
      have hs2 := sqT_up s2 hs
      have hp2 := s2 _ _ hp
      have hx2 := hx.keep (tups_same s2)
      have hy2 := hy.keep (tups_same s2)
      have hd2 := dp_up s2 _ _ h2
      generalize upd H1 c2 (.tup [.str "this", .str "that"]) = H2 at s2 hs2 hp2 hx2 hy2 hd2 ⊢
      have iv : inV (.str z) [.str "this", .str "that"] = sideD (.str z) := by
        have e : inV (.str z) (([("this" : Str), ("that" : Str)] : List Str).map V.str) = decide (z ∈ ([("this" : Str), ("that" : Str)] : List Str)) := inV_strs z _
        have e2 : sideD (.str z) = decide (z ∈ ([("this" : Str), ("that" : Str)] : List Str)) := by
          show (decide (z = "this") || decide (z = "that")) = _
          by_cases e1 : z = "this"
          · simp [e1]
          · by_cases e2 : z = "that"
            · simp [e2]
            · simp [e1, e2]
        rw [e2]
        exact e
      rw [iv]
      have at2 := ats_un2 at1
      cases sd : sideD (.str z) with
      | false =>
        rw [sd] at q
        exact condT rfl (q H2 s2)
      | true =>
      rw [sd] at q
      refine condF rfl ?_
      by_cases ez : z = "that"
      · subst ez
        have nt : isThat (.str "that") = true := by decide +kernel
        rw [if_pos nt] at q
        refine ⟨_, rfl, _, rfl, pd, _, 0, _, rfl, rfl, hs2, head_at _ _, rfl, .inr ⟨true, by rw [decide_eq_true rfl], _, _, rfl, rfl, p, _, 2, _, rfl, rfl, .inl (.inl hp2), atI_nat (j := 2) rfl, ?_⟩⟩
        refine ⟨_, rfl, pd, _, 1, _, rfl, rfl, hs2, atI_nat (j := 1) rfl, y, y1, b, _, c, rfl, hy2, ok.2, by omega, by omega, by omega, hd2, at2, fun H3 s3 => q H3 (same_trans s2 s3)⟩
      · have nt : isThat (.str z) = false := decide_eq_false ez
        rw [if_neg (by rw [nt]; exact Bool.false_ne_true)] at q
        refine ⟨_, rfl, _, rfl, pd, _, 0, _, rfl, rfl, hs2, head_at _ _, rfl, .inr ⟨false, by rw [decide_eq_false (fun e => ez (by injection e))], _, _, rfl, rfl, p, _, 1, _, rfl, rfl, .inl (.inl hp2), atI_nat (j := 1) rfl, ?_⟩⟩
        refine ⟨_, rfl, pd, _, 1, _, rfl, rfl, hs2, atI_nat (j := 1) rfl, x, y1, a, _, c, rfl, hx2, ok.1, by omega, by omega, by omega, hd2, at2, fun H3 s3 => q H3 (same_trans s2 s3)⟩
    | _ =>
      rw [u] at q
      exact condT rfl (q H1 s1)
  | cond a b =>
    have d16' : c + (max a.dp b.dp + 1) ≤ 16 := d16
    have d8' : max a.dp b.dp + 1 ≤ 8 := d8
    have dn' : max a.dp b.dp + 1 ≤ n + 1 := dn
    rw [fits_cond ok] at q
    obtain ⟨p, x, y, rfl, hp, hx, hy⟩ := id hA
    have hp1 := s1 _ _ hp
    refine ⟨_, rfl, p, _, 0, _, rfl, rfl, .inl (.inl hp1), head_at _ _, rfl, _, rfl, wdF (by decide +kernel) ?_⟩
    refine ⟨_, rfl, p, _, 0, _, rfl, rfl, .inl (.inl hp1), head_at _ _, rfl, _, rfl, wdF (by decide +kernel) ?_⟩
    refine ⟨_, rfl, p, _, 0, _, rfl, rfl, .inl (.inl hp1), head_at _ _, rfl, _, rfl, wdT rfl ?_⟩
    exact ⟨_, rfl, p, _, 2, _, rfl, rfl, .inl (.inl hp1), atI_nat (j := 2) rfl, _, rfl, y, v2, b, d, c, rfl, hy.keep (tups_same s1), ok.2.2, by omega, by omega, by omega, hd1, at1, fun H3 s3 => q H3 (same_trans s1 s3)⟩
  | some a =>
    have d16' : c + (a.dp + 1) ≤ 16 := d16
    have d8' : a.dp + 1 ≤ 8 := d8
    have dn' : a.dp + 1 ≤ n + 1 := dn
    rw [fits_some ok] at q
    obtain ⟨p, x, rfl, hp, hx⟩ := id hA
    have hp1 := s1 _ _ hp
    refine ⟨_, rfl, p, _, 0, _, rfl, rfl, .inl (.inl hp1), head_at _ _, rfl, _, rfl, wdF (by decide +kernel) ?_⟩
    refine ⟨_, rfl, p, _, 0, _, rfl, rfl, .inl (.inl hp1), head_at _ _, rfl, _, rfl, wdF (by decide +kernel) ?_⟩
    refine ⟨_, rfl, p, _, 0, _, rfl, rfl, .inl (.inl hp1), head_at _ _, rfl, _, rfl, wdF (by decide +kernel) ?_⟩
    refine ⟨_, rfl, p, _, 1, _, rfl, rfl, .inl (.inl hp1), atI_nat (j := 1) rfl, x, a, c + 1, rfl, hx.keep (tups_same s1), ok, by omega, by omega, fun H2 s2 => ⟨_, rfl, ?_⟩⟩
    have s12 := same_trans s1 s2
    have hd2 := dp_up s12 _ _ hd
    cases fa : a.flat with
    | true =>
      rw [if_pos fa] at q
      exact condT rfl ⟨_, rfl, v2, d, rfl, hd2, q H2 s12⟩
    | false =>
    rw [if_neg (by rw [fa]; exact Bool.false_ne_true)] at q
    refine condF rfl ?_
    refine ⟨_, rfl, _, _, _, _, isTu d, rfl, .ty "tuple", dp_ty hd2, kit_tu d, _, rfl, ?_⟩
    rcases tu_ways hd with tu | ⟨pd, xs, ds, rfl, rfl, hs, ha⟩
    · rw [two_tu tu] at q
      rw [tu]
      exact condT rfl (q H2 s12)
    refine condF rfl ⟨_, rfl, pd, _, rfl, .inr (sqT_up s12 hs), rfl, _, rfl, ?_⟩
    rw [two_len ha]
    cases t : isTwo (.tuple ds) with
    | false =>
      rw [t] at q
      exact condT rfl (q H2 s12)
    | true =>
    rw [t] at q
    obtain ⟨x1, y1, rfl, h1, h2⟩ := two_view ha t
    have hs1 := sqT_up s12 hs
    refine condF rfl ⟨_, rfl, pd, _, 0, _, rfl, rfl, hs1, head_at _ _, x1, un1 (.tuple ds), rfl, dp_up s12 _ _ h1, ?_⟩
    refine ⟨_, rfl, ?_⟩
    cases nd : numD (un1 (.tuple ds)) with
    | false =>
      rw [nd] at q
      exact condT rfl (q H2 s12)
    | true =>
      rw [nd] at q
      refine condF rfl ?_
      exact ⟨_, rfl, p, _, 1, _, rfl, rfl, .inl (.inl (s12 _ _ hp)), atI_nat (j := 1) rfl, _, rfl, pd, _, 1, _, rfl, rfl, hs1, atI_nat (j := 1) rfl, x, y1, a, _, c + 1, rfl, hx.keep (tups_same s12), ok, by omega, by omega, by omega, dp_up s12 _ _ h2, ats_un2 at1, fun H3 s3 => q H3 (same_trans s12 s3)⟩
end
end Kf
set_option Elab.async false
set_option linter.all false
set_option maxRecDepth 100000
set_option maxHeartbeats 8000000
set_option pp.maxSteps 500
/-! What is borne, by the law's own look. -/
namespace Kf
open PySem PySem.Spec PyProof.Rows L2 Sx
section
variable {P : Program} {w : World} {K : PySem.W.Frag} {mg : Str → Option Value} {base : Heap} {f ff fs fn ft fa : Addr} {fd df ds dn dt da : FuncData}
def spBo (K : PySem.W.Frag) (n : Nat) : Sp := fun vs H Q _ => ∃ (v1 v2 : V) (s : Sy) (d : PyData), vs = [v1, v2] ∧ At H s.tr v1 ∧ Pr s d ∧ s.dp ≤ n ∧ Dp K H v2 d ∧ ∀ H', Same H H' → Q (.bl (borne s d)) H'
theorem ok_bo {n : Nat} (F : Fun K "_law_borne" "_law_borne" sBo f fd) (Z : ZA mg) (GF : FnOk P w K mg base CX0 10 ff df ["saying"] spLF) (bF : Binds K df ["saying"] []) (kF : PySem.W.keepIn K (.ref ff) = true) (mF : mg "_law_is_flat" = some (.ref ff))
    (GS : FnOk P w K mg base CX0 11 fs ds ["saying", "thing"] (spSd K)) (bS : Binds K ds ["saying", "thing"] []) (kS : PySem.W.keepIn K (.ref fs) = true) (mS : mg "_law_sides" = some (.ref fs))
    (GT : FnOk P w K mg base CX0 11 ft dt ["saying"] (spTr 8)) (bT : Binds K dt ["saying"] []) (kT : PySem.W.keepIn K (.ref ft) = true) (mT : mg "_law_true" = some (.ref ft))
    (GA : FnOk P w K mg base CX0 11 fa da ["thing", "number", "around"] (spAt 10)) (bA : Binds K da ["thing", "number", "around"] []) (kA : PySem.W.keepIn K (.ref fa) = true) (mA : mg "_law_at" = some (.ref fa))
    (S : FnOk P w K mg base CX0 (11 + n) f fd ["saying", "thing"] (spBo K n)) (bBo : Binds K fd ["saying", "thing"] []) (mBo : mg "_law_borne" = some (.ref f)) : FnOk P w K mg base CX0 (11 + n + 1) f fd ["saying", "thing"] (spBo K (n + 1)) := by
  refine F.ok scBo (fun vs H Q E h => ?_) (fun cdv Ar outer s0 H vs Q E hr h => ?_)
  · obtain ⟨v1, v2, s, d, rfl, _⟩ := h
    rfl
  have h11 : Room 11 _ := hr.mono (by omega)
  have h10 : Room 10 _ := hr.mono (by omega)
  obtain ⟨v1, v2, s, d, rfl, hA, pr, dn, hd, q⟩ := h
  refine ⟨_, (pss_cons (ps_if (pt_val (pe_call GF h10 (by rfl) mF kF bF .nil pass0 (pa_cons (pv 0) pa_nil))) (pss_one (ps_ret (pe_call GT h11 (by rfl) mT kT bT .nil pass0 (pa_cons (pv 0) pa_nil)))) pss_nil)
    (pss_cons (ps_if (pt_cmpR op_eq (pe_ix ix_tup (pv 0) pe_int (fun _ _ => rfl)) pe_str (nomark _)) (pss_cons (ps_asg (pe_call GS h11 (by rfl) mS kS bS .nil pass0 (pa_cons (pv 0) (pa_cons (pv 1) pa_nil))) (pg_tup (by rfl) (pgs_cons (pg_name (i := 2) scBo.nd rfl (.inl rfl)) (pgs_cons (pg_name (i := 3) scBo.nd rfl (.inl rfl)) pgs_nil))))
    (pss_one (ps_ret (pe_and (pe_call S hr (by rfl) mBo F.kp bBo .nil pass0 (pa_cons (pe_ix ix_tup (pv 0) pe_int (fun _ _ => rfl)) (pa_cons (pv 2) pa_nil))) (pe_one (pe_call S hr (by rfl) mBo F.kp bBo .nil pass0 (pa_cons (pe_ix ix_tup (pv 0) pe_int (fun _ _ => rfl)) (pa_cons (pv 3) pa_nil)))))))) pss_nil)
    (pss_cons (ps_if (pt_cmpR op_eq (pe_ix ix_tup (pv 0) pe_int (fun _ _ => rfl)) pe_str (nomark _)) (pss_one (ps_ret (pe_call S hr (by rfl) mBo F.kp bBo .nil pass0 (pa_cons (pe_ix ix_tup (pv 0) (pe_op op_add pe_int (pe_callTy call_int1 (by rfl) Z.zInt (by decide +kernel) (pa_cons (pe_cmpR op_eq (pe_ix ix_tup (pv 1) pe_int (fun _ _ => rfl)) pe_str (nomark _)) pa_nil))) (fun _ _ => rfl)) (pa_cons (pe_ix ix_tup (pv 1) pe_int (fun _ _ => rfl)) pa_nil))))) pss_nil)
    (pss_cons (ps_if (pt_cmpR op_eq (pe_ix ix_tup (pv 0) pe_int (fun _ _ => rfl)) pe_str (nomark _)) (pss_one (ps_ret (pe_or (pe_not (pe_call GT h11 (by rfl) mT kT bT .nil pass0 (pa_cons (pe_ix ix_tup (pv 0) pe_int (fun _ _ => rfl)) pa_nil))) (pe_one (pe_call S hr (by rfl) mBo F.kp bBo .nil pass0 (pa_cons (pe_ix ix_tup (pv 0) pe_int (fun _ _ => rfl)) (pa_cons (pv 1) pa_nil))))))) pss_nil)
    (pss_cons (ps_if (pt_val (pe_call GF h10 (by rfl) mF kF bF .nil pass0 (pa_cons (pe_ix ix_tup (pv 0) pe_int (fun _ _ => rfl)) pa_nil))) (pss_one (ps_ret (pe_call S hr (by rfl) mBo F.kp bBo .nil pass0 (pa_cons (pe_call GA h11 (by rfl) mA kA bA .nil pass0 (pa_cons (pe_ix ix_tup (pv 0) pe_int (fun _ _ => rfl)) (pa_cons (pv 1) (pa_cons pe_int pa_nil)))) (pa_cons pe_non pa_nil))))) pss_nil)
    (pss_one (ps_ret (pe_call S hr (by rfl) mBo F.kp bBo .nil pass0 (pa_cons (pe_call GA h11 (by rfl) mA kA bA .nil pass0 (pa_cons (pe_ix ix_tup (pv 0) pe_int (fun _ _ => rfl)) (pa_cons (pe_ix ix_tup (pv 1) pe_int (fun _ _ => rfl)) (pa_cons pe_int pa_nil)))) (pa_cons (pe_ix ix_tup (pv 1) pe_int (fun _ _ => rfl)) pa_nil)))))))))), ?_⟩
  have d8 := pr.dp
  refine ⟨_, rfl, v1, s, 0, rfl, hA, pr.ok, by omega, pr.dp, fun H1 s1 => ⟨_, rfl, ?_⟩⟩
  have hd1 := dp_up s1 _ _ hd
  have hA1 := hA.keep (tups_same s1)
  cases fl : s.flat with
  | true =>
    rw [borne_flat fl] at q
    exact condT rfl ⟨_, rfl, v1, s, rfl, hA1, fl, pr.ok, pr.dp, fun H2 s2 => q H2 (same_trans s1 s2)⟩
  | false =>
  refine condF rfl ?_
  cases s with
  | same a b => cases fl
  | no => cases fl
  | and a b =>
    obtain ⟨pa, pb, two⟩ := pr.and
    have dn' : max a.dp b.dp + 1 ≤ n + 1 := dn
    rw [borne_and fl] at q
    obtain ⟨p, x, y, rfl, hp, hx, hy⟩ := id hA
    have hp1 := s1 _ _ hp
    refine ⟨_, rfl, p, _, 0, _, rfl, rfl, .inl (.inl hp1), head_at _ _, rfl, _, rfl, wdT rfl ?_⟩
    have yes : (a.flat || b.flat || isTwo d) = true := by
      have f := pr.fit
      rw [fits_and pr.ok, Bool.and_eq_true] at f
      exact f.1
    refine ⟨_, rfl, _, rfl, .ref p, v2, a, b, d, 0, rfl, hA1, pr.ok, by omega, pr.dp, hd1, fun _ q2 x1 y1 H2 s2 hq hx1 hy1 => ?_, fun e => by rw [yes] at e; cases e⟩
    have s12 := same_trans s1 s2
    refine ⟨q2, _, rfl, hq, rfl, _, _, rfl, _, _, rfl, rfl, ?_⟩
    refine ⟨_, rfl, p, _, 1, _, rfl, rfl, .inl (.inl (s12 _ _ hp)), atI_nat (j := 1) rfl, _, rfl, x, x1, a, _, rfl, hx.keep (tups_same s12), pa, by omega, dp_up s2 _ _ hx1, fun H3 s3 => ?_⟩
    have s13 := same_trans s12 s3
    refine ⟨_, rfl, ?_⟩
    cases c1 : borne a (sides a b d).1 with
    | false =>
      rw [c1] at q
      exact condF rfl (q H3 s13)
    | true =>
      rw [c1] at q
      refine condT rfl ?_
      exact ⟨_, rfl, p, _, 2, _, rfl, rfl, .inl (.inl (s13 _ _ hp)), atI_nat (j := 2) rfl, _, rfl, y, y1, b, _, rfl, hy.keep (tups_same s13), pb, by omega, dp_up (same_trans s2 s3) _ _ hy1, fun H4 s4 => q H4 (same_trans s13 s4)⟩
  | or a b =>
    obtain ⟨e1, sd, pthat, pthis⟩ := pr.or
    have dn' : max a.dp b.dp + 1 ≤ n + 1 := dn
    rw [borne_or] at q
    obtain ⟨p, x, y, rfl, hp, hx, hy⟩ := id hA
    have hp1 := s1 _ _ hp
    refine ⟨_, rfl, p, _, 0, _, rfl, rfl, .inl (.inl hp1), head_at _ _, rfl, _, rfl, wdF (by decide +kernel) ?_⟩
    refine ⟨_, rfl, p, _, 0, _, rfl, rfl, .inl (.inl hp1), head_at _ _, rfl, _, rfl, wdT rfl ?_⟩
    rw [e1] at hd
    obtain ⟨pd, xs, rfl, hs, hxx⟩ := Dp.view hd
    cases hxx with
    | @cons u1 _ _ _ h1 hxx =>
    cases hxx with
    | @cons u2 _ _ _ h2 hxx =>
    cases hxx
    have hs1 := sqT_up s1 hs
    obtain ⟨z, ez⟩ : ∃ z, un1 d = .str z := by
      cases u : un1 d with
      | str z => exact ⟨z, rfl⟩
      | _ => rw [u] at sd; cases sd
    rw [ez] at h1 sd pthat pthis q
    cases h1
    by_cases e0 : z = "that"
    · subst e0
      have nt : isThat (.str "that") = true := by decide +kernel
      rw [if_pos nt] at q
      refine ⟨_, rfl, _, rfl, pd, _, 0, _, rfl, rfl, hs1, head_at _ _, rfl, .inr ⟨true, by rw [decide_eq_true rfl], _, _, rfl, rfl, p, _, 2, _, rfl, rfl, .inl (.inl hp1), atI_nat (j := 2) rfl, ?_⟩⟩
      exact ⟨_, rfl, pd, _, 1, _, rfl, rfl, hs1, atI_nat (j := 1) rfl, y, u2, b, _, rfl, hy.keep (tups_same s1), pthat nt, by omega, dp_up s1 _ _ h2, fun H3 s3 => q H3 (same_trans s1 s3)⟩
    · have nt : isThat (.str z) = false := decide_eq_false e0
      rw [if_neg (by rw [nt]; exact Bool.false_ne_true)] at q
      refine ⟨_, rfl, _, rfl, pd, _, 0, _, rfl, rfl, hs1, head_at _ _, rfl, .inr ⟨false, by rw [decide_eq_false (fun e => e0 (by injection e))], _, _, rfl, rfl, p, _, 1, _, rfl, rfl, .inl (.inl hp1), atI_nat (j := 1) rfl, ?_⟩⟩
      exact ⟨_, rfl, pd, _, 1, _, rfl, rfl, hs1, atI_nat (j := 1) rfl, x, u2, a, _, rfl, hx.keep (tups_same s1), pthis nt, by omega, dp_up s1 _ _ h2, fun H3 s3 => q H3 (same_trans s1 s3)⟩
  | cond a b =>
    have pb := pr.cond
    have dn' : max a.dp b.dp + 1 ≤ n + 1 := dn
    have d8' : max a.dp b.dp + 1 ≤ 8 := d8
    rw [borne_cond fl] at q
    obtain ⟨p, x, y, rfl, hp, hx, hy⟩ := id hA
    have hp1 := s1 _ _ hp
    refine ⟨_, rfl, p, _, 0, _, rfl, rfl, .inl (.inl hp1), head_at _ _, rfl, _, rfl, wdF (by decide +kernel) ?_⟩
    refine ⟨_, rfl, p, _, 0, _, rfl, rfl, .inl (.inl hp1), head_at _ _, rfl, _, rfl, wdF (by decide +kernel) ?_⟩
    refine ⟨_, rfl, p, _, 0, _, rfl, rfl, .inl (.inl hp1), head_at _ _, rfl, _, rfl, wdT rfl ?_⟩
    refine ⟨_, rfl, p, _, 1, _, rfl, rfl, .inl (.inl hp1), atI_nat (j := 1) rfl, x, a, rfl, hx.keep (tups_same s1), pr.ok.1, pr.ok.2.1, by omega, fun H2 s2 => ?_⟩
    have s12 := same_trans s1 s2
    refine ⟨_, rfl, _, rfl, ?_⟩
    cases c : a.tru with
    | false =>
      rw [c] at q
      exact condT rfl (q H2 s12)
    | true =>
      rw [c] at q
      refine condF rfl ?_
      exact ⟨_, rfl, p, _, 2, _, rfl, rfl, .inl (.inl (s12 _ _ hp)), atI_nat (j := 2) rfl, _, rfl, y, v2, b, _, rfl, hy.keep (tups_same s12), pb, by omega, dp_up s12 _ _ hd, fun H4 s4 => q H4 (same_trans s12 s4)⟩
  | some a =>
    have dn' : a.dp + 1 ≤ n + 1 := dn
    have d8' : a.dp + 1 ≤ 8 := d8
    have oka : a.Ok 1 := pr.ok
    have la := lk_of1 oka (by omega)
    rw [borne_some] at q
    obtain ⟨p, x, rfl, hp, hx⟩ := id hA
    have hp1 := s1 _ _ hp
    refine ⟨_, rfl, p, _, 0, _, rfl, rfl, .inl (.inl hp1), head_at _ _, rfl, _, rfl, wdF (by decide +kernel) ?_⟩
    refine ⟨_, rfl, p, _, 0, _, rfl, rfl, .inl (.inl hp1), head_at _ _, rfl, _, rfl, wdF (by decide +kernel) ?_⟩
    refine ⟨_, rfl, p, _, 0, _, rfl, rfl, .inl (.inl hp1), head_at _ _, rfl, _, rfl, wdF (by decide +kernel) ?_⟩
    refine ⟨_, rfl, p, _, 1, _, rfl, rfl, .inl (.inl hp1), atI_nat (j := 1) rfl, x, a, 1, rfl, hx.keep (tups_same s1), oka, by omega, by omega, fun H2 s2 => ⟨_, rfl, ?_⟩⟩
    have s12 := same_trans s1 s2
    have hp2 := s12 _ _ hp
    cases fa : a.flat with
    | true =>
      obtain ⟨e1, n5, pr2⟩ := pr.someF fa
      rw [if_pos fa] at q
      rw [e1] at hd
      cases hd
      refine condT rfl ⟨_, rfl, p, _, 1, _, rfl, rfl, .inl (.inl hp2), atI_nat (j := 1) rfl, _, rfl, x, a.tr, Kf.kS, numN d, 0, rfl, hx.keep (tups_same s12), la.wf, lay_sy a, la.dp, by decide, fun u H3 s3 hu => ?_⟩
      have hu : At H3 (a.at (numN d) 0).tr u := by
        have z := chg_sy (numN d) a 0
        unfold putT at hu
        rw [z] at hu
        exact hu
      exact ⟨u, .non, _, .none, rfl, hu, pr2, by rw [dp_at]; omega, .non, fun H4 s4 => q H4 (same_trans s12 (same_trans s3 s4))⟩
    | false =>
      obtain ⟨e1, e2, n5, pr2⟩ := pr.someN fa
      rw [if_neg (by rw [fa]; exact Bool.false_ne_true)] at q
      rw [e1] at hd
      obtain ⟨pd, xs, rfl, hs, hxx⟩ := Dp.view hd
      cases hxx with
      | @cons u1 _ _ _ h1 hxx =>
      cases hxx with
      | @cons u2 _ _ _ h2 hxx =>
      cases hxx
      rw [e2] at h1
      cases h1
      have hs1 := sqT_up s12 hs
      refine condF rfl ⟨_, rfl, p, _, 1, _, rfl, rfl, .inl (.inl hp2), atI_nat (j := 1) rfl, _, rfl, pd, _, 0, _, rfl, rfl, hs1, head_at _ _, x, a.tr, Kf.kS, numN (un1 d), 0, rfl, hx.keep (tups_same s12), la.wf, lay_sy a, la.dp, by decide, fun u H3 s3 hu => ?_⟩
      have hu : At H3 (a.at (numN (un1 d)) 0).tr u := by
        have z := chg_sy (numN (un1 d)) a 0
        unfold putT at hu
        rw [z] at hu
        exact hu
      exact ⟨_, rfl, pd, _, 1, _, rfl, rfl, sqT_up s3 hs1, atI_nat (j := 1) rfl, u, u2, _, un2 d, rfl, hu, pr2, by rw [dp_at]; omega, dp_up (same_trans s12 s3) _ _ h2, fun H4 s4 => q H4 (same_trans s12 (same_trans s3 s4))⟩
end
end Kf
set_option Elab.async false
set_option linter.all false
set_option maxRecDepth 100000
set_option maxHeartbeats 8000000
set_option pp.maxSteps 500
/-! Worths that the law draws; the least one. -/
namespace Kf
open PySem PySem.Spec PyProof.Rows L2 Sx
abbrev sDw : Stmt := top 50
abbrev dwN : List Str := ["feed", "saying", "one", "other", "at", "number"]
theorem scDw : FnScope dwN ["feed", "saying"] (defScope sDw) := ⟨rfl, rfl, rfl, by decide +kernel, rfl, by decide +kernel, by decide +kernel⟩
abbrev sLe : Stmt := top 52
abbrev leN : List Str := ["saying", "one", "other"]
theorem scLe : FnScope leN ["saying"] (defScope sLe) := ⟨rfl, rfl, rfl, by decide +kernel, rfl, by decide +kernel, by decide +kernel⟩
/-- pairs within one another -/
def prs : PyData → Bool
  | .none => true
  | .int _ => true
  | .tuple [x, y] => (isS x || prs x) && prs y
  | _ => false
/-- a thing that is drawn -/
structure Ths (n : Nat) (d : PyData) : Prop where
  ats : ats d = true
  sml : sml d = true
  sz : psz d + 1 ≤ 4 * 2 ^ n
  dp : d.depth ≤ n
  prs : prs d = true
theorem two_up (n : Nat) : 4 * 2 ^ (n + 1) = 4 * 2 ^ n + 4 * 2 ^ n := by
  rw [Nat.pow_succ]
  omega
theorem two_ge (n : Nat) : 1 ≤ 2 ^ n := Nat.one_le_two_pow
theorem Ths.up {n m : Nat} {d : PyData} (h : Ths n d) (l : n ≤ m) : Ths m d := ⟨h.ats, h.sml, Nat.le_trans h.sz (Nat.mul_le_mul_left 4 (Nat.pow_le_pow_right (by decide) l)), Nat.le_trans h.dp l, h.prs⟩
theorem ths_none (n : Nat) : Ths n .none := ⟨rfl, rfl, by show 1 + 1 ≤ _; have := two_ge n; omega, Nat.zero_le _, rfl⟩
theorem int_ats {i : Int} (h0 : 0 ≤ i) (h : i ≤ 5) : ats (.int i) = true := decide_eq_true (Nat.lt_of_le_of_lt (show i.natAbs ≤ 5 by omega) (by decide))
theorem ths_int (n : Nat) {i : Int} (h0 : 0 ≤ i) (h : i ≤ 5) : Ths n (.int i) := ⟨int_ats h0 h, by
  show (decide (i ≤ 5) || decide ((10 : Int) ^ 60 ≤ i)) = true
  rw [decide_eq_true h]
  rfl, by show 1 + 1 ≤ _; have := two_ge n; omega, Nat.zero_le _, rfl⟩
theorem ths_pair {n : Nat} {a b : PyData} (ha : Ths n a) (hb : Ths n b) : Ths (n + 1) (.tuple [a, b]) := by
  have h1 := ha.sz
  have h2 := hb.sz
  have h3 := two_up n
  refine ⟨?_, ?_, ?_, ?_, ?_⟩
  · show (Kf.ats a && (Kf.ats b && true)) = true
    rw [ha.ats, hb.ats]
    rfl
  · show (Kf.sml a && (Kf.sml b && true)) = true
    rw [ha.sml, hb.sml]
    rfl
  · show 1 + (psz a + (psz b + 0)) + 1 ≤ _
    omega
  · show max a.depth (max b.depth 0) + 1 ≤ n + 1
    have := ha.dp
    have := hb.dp
    omega
  · show ((isS a || Kf.prs a) && Kf.prs b) = true
    rw [ha.prs, hb.prs, Bool.or_true]
    rfl
theorem ths_side {n : Nat} {z : Str} {b : PyData} (hz : z = "this" ∨ z = "that") (hb : Ths n b) : Ths (n + 1) (.tuple [.str z, b]) := by
  have h2 := hb.sz
  have h3 := two_up n
  have h4 := two_ge n
  refine ⟨?_, ?_, ?_, ?_, ?_⟩
  · show (Kf.ats (.str z) && (Kf.ats b && true)) = true
    rw [hb.ats]
    rcases hz with rfl | rfl <;> decide +kernel
  · show (true && (Kf.sml b && true)) = true
    rw [hb.sml]
    rfl
  · show 1 + (1 + (psz b + 0)) + 1 ≤ _
    omega
  · show max 0 (max b.depth 0) + 1 ≤ n + 1
    have := hb.dp
    omega
  · show ((true || _) && Kf.prs b) = true
    rw [hb.prs]
    rfl
section
variable {P : Program} {w : World} {K : PySem.W.Frag} {mg : Str → Option Value} {base : Heap} {f ft fp ff : Addr} {fd dt dp df : FuncData}
theorem dt2 {H : Hp} {q : Addr} {x y : V} {a b : PyData} (e : H q = some (.tup [x, y])) (ha : Dt K H x a) (hb : Dt K H y b) : Dt K H (.ref q) (.tuple [a, b]) := dt_tup e (.cons ha (.cons hb .nil))
def spDw (K : PySem.W.Frag) (n : Nat) : Sp := fun vs H Q _ => ∃ (f : Addr) (v : V) (s : Sy) (c : Nat), vs = [.ref f, v] ∧ At H s.tr v ∧ s.Ok c ∧ c + s.dp ≤ 16 ∧ s.dp ≤ 8 ∧ s.dp ≤ n ∧ FeedAt H f ∧ ∀ u d H', Ths n d → Dt K H' u d → But f H H' → FeedAt H' f → Q u H'
theorem ok_dw {n : Nat} {g : Addr} {gd : FuncData} (F : Fun K "_law_drawn" "_law_drawn" sDw g gd) (D : Draw P w K mg base ft fp dt dp) (GF : FnOk P w K mg base CX0 10 ff df ["saying"] spLF) (bF : Binds K df ["saying"] []) (kF : PySem.W.keepIn K (.ref ff) = true) (mF : mg "_law_is_flat" = some (.ref ff))
    (S : FnOk P w K mg base CX0 (10 + n) g gd ["feed", "saying"] (spDw K n)) (bS : Binds K gd ["feed", "saying"] []) (mS : mg "_law_drawn" = some (.ref g)) : FnOk P w K mg base CX0 (10 + n + 1) g gd ["feed", "saying"] (spDw K (n + 1)) := by
  refine F.ok scDw (fun vs H Q E h => ?_) (fun cdv Ar outer s0 H vs Q E hr h => ?_)
  · obtain ⟨f, v, s, c, rfl, _⟩ := h
    rfl
  have h10 : Room 10 _ := hr.mono (by omega)
  have h2 : Room 2 _ := hr.mono (by omega)
  have h1 : Room 1 _ := hr.mono (by omega)
  obtain ⟨f, v, s, c, rfl, hA, ok, d16, d8, dn, hF, q⟩ := h
  refine ⟨_, (pss_cons (ps_if (pt_val (pe_call GF h10 (by rfl) mF kF bF .nil pass0 (pa_cons (pv 1) pa_nil))) (pss_one (ps_ret pe_non)) pss_nil)
    (pss_cons (ps_if (pt_cmpR op_eq (pe_ix ix_tup (pv 1) pe_int (fun _ _ => rfl)) pe_str (nomark _)) (pss_cons (ps_par (i := 2) (j := 3) rfl scDw.nd rfl rfl (by decide) rfl rfl (pa_cons (pe_call S hr (by rfl) mS F.kp bS .nil pass0 (pa_cons (pv 0) (pa_cons (pe_ix ix_tup (pv 1) pe_int (fun _ _ => rfl)) pa_nil))) (pa_cons (pe_call S hr (by rfl) mS F.kp bS .nil pass0 (pa_cons (pv 0) (pa_cons (pe_ix ix_tup (pv 1) pe_int (fun _ _ => rfl)) pa_nil))) pa_nil)) (by rfl))
    (pss_cons (ps_if (pt_val (pe_call GF h10 (by rfl) mF kF bF .nil pass0 (pa_cons (pe_ix ix_tup (pv 1) pe_int (fun _ _ => rfl)) pa_nil))) (pss_one (ps_ret (pv 3))) pss_nil)
    (pss_one (ps_ret (pe_ifExp (pt_val (pe_call GF h10 (by rfl) mF kF bF .nil pass0 (pa_cons (pe_ix ix_tup (pv 1) pe_int (fun _ _ => rfl)) pa_nil))) (pv 2) (pe_tup (pa_cons (pv 2) (pa_cons (pv 3) pa_nil)))))))) pss_nil)
    (pss_cons (ps_if (pt_cmpR op_eq (pe_ix ix_tup (pv 1) pe_int (fun _ _ => rfl)) pe_str (nomark _)) (pss_cons (ps_set (i := 4) scDw.nd rfl (.inl rfl) (pe_call D.T h1 (by rfl) D.mT D.kT D.bT .nil pass0 (pa_cons (pv 0) (pa_cons pe_int pa_nil))))
    (pss_one (ps_ret (pe_tup (pa_cons (pe_ix ix_list (pe_lst (pa_cons pe_str (pa_cons pe_str pa_nil))) (pv 4) (fun _ _ => rfl)) (pa_cons (pe_call S hr (by rfl) mS F.kp bS .nil pass0 (pa_cons (pv 0) (pa_cons (pe_ix ix_tup (pv 1) (pe_op op_add pe_int (pv 4)) (fun _ _ => rfl)) pa_nil))) pa_nil)))))) pss_nil)
    (pss_cons (ps_if (pt_cmpR op_eq (pe_ix ix_tup (pv 1) pe_int (fun _ _ => rfl)) pe_str (nomark _)) (pss_one (ps_ret (pe_call S hr (by rfl) mS F.kp bS .nil pass0 (pa_cons (pv 0) (pa_cons (pe_ix ix_tup (pv 1) pe_int (fun _ _ => rfl)) pa_nil))))) pss_nil)
    (pss_cons (ps_set (i := 5) scDw.nd rfl (.inl rfl) (pe_call D.Pk h2 (by rfl) D.mP D.kP D.bP .nil pass0 (pa_cons (pv 0) (pa_cons (pe_lst (pa_cons pe_int (pa_cons pe_int (pa_cons (pe_call D.T h1 (by rfl) D.mT D.kT D.bT .nil pass0 (pa_cons (pv 0) (pa_cons pe_int pa_nil))) (pa_cons (pe_call D.T h1 (by rfl) D.mT D.kT D.bT .nil pass0 (pa_cons (pv 0) (pa_cons pe_int pa_nil))) pa_nil))))) pa_nil))))
    (pss_cons (ps_if (pt_val (pe_call GF h10 (by rfl) mF kF bF .nil pass0 (pa_cons (pe_ix ix_tup (pv 1) pe_int (fun _ _ => rfl)) pa_nil))) (pss_one (ps_ret (pv 5))) pss_nil)
    (pss_one (ps_ret (pe_tup (pa_cons (pv 5) (pa_cons (pe_call S hr (by rfl) mS F.kp bS .nil pass0 (pa_cons (pv 0) (pa_cons (pe_ix ix_tup (pv 1) pe_int (fun _ _ => rfl)) pa_nil))) pa_nil))))))))))), ?_⟩
  refine ⟨_, rfl, v, s, c, rfl, hA, ok, d16, d8, fun H1 s1 => ⟨_, rfl, ?_⟩⟩
  have b1 := but_same (f := f) s1
  have hF1 := hF.same s1
  cases fl : s.flat with
  | true => exact condT rfl (q .non .none H1 (ths_none _) .non b1 hF1)
  | false =>
  refine condF rfl ?_
  cases s with
  | same a b => cases fl
  | no => cases fl
  | and a b =>
    have d16' : c + (max a.dp b.dp + 1) ≤ 16 := d16
    have d8' : max a.dp b.dp + 1 ≤ 8 := d8
    have dn' : max a.dp b.dp + 1 ≤ n + 1 := dn
    obtain ⟨p, x, y, rfl, hp, hx, hy⟩ := id hA
    have t1 := tups_same s1
    refine ⟨_, rfl, p, _, 0, _, rfl, rfl, .inl (.inl (t1 _ _ hp)), head_at _ _, rfl, _, rfl, wdT rfl ?_⟩
    refine ⟨_, rfl, _, rfl, p, _, 1, _, rfl, rfl, .inl (.inl (t1 _ _ hp)), atI_nat (j := 1) rfl, f, x, a, c, rfl, hx.keep t1, ok.1, by omega, by omega, by omega, hF1, fun u1 d1 H2 th1 hu1 b2 hF2 => ?_⟩
    have t2 := t1.trans (hF1.tups b2)
    refine ⟨_, rfl, _, rfl, p, _, 2, _, rfl, rfl, .inl (.inl (t2 _ _ hp)), atI_nat (j := 2) rfl, f, y, b, c, rfl, hy.keep t2, ok.2, by omega, by omega, by omega, hF2, fun u2 d2 H3 th2 hu2 b3 hF3 => ?_⟩
    have t23 := hF2.tups b3
    have t3 := t2.trans t23
    have b123 := (b1.trans b2).trans b3
    refine ⟨_, _, rfl, ?_⟩
    refine ⟨_, rfl, p, _, 1, _, rfl, rfl, .inl (.inl (t3 _ _ hp)), atI_nat (j := 1) rfl, x, a, c, rfl, hx.keep t3, ok.1, by omega, by omega, fun H4 s4 => ⟨_, rfl, ?_⟩⟩
    cases fa : a.flat with
    | true => exact condT rfl ⟨_, rfl, q u2 d2 H4 (th2.up (by omega)) (hu2.keep (tups_same s4)) (b123.trans (but_same s4)) (hF3.same s4)⟩
    | false =>
    refine condF rfl ?_
    have t4 := t3.trans (tups_same s4)
    refine ⟨_, rfl, p, _, 2, _, rfl, rfl, .inl (.inl (t4 _ _ hp)), atI_nat (j := 2) rfl, y, b, c, rfl, hy.keep t4, ok.2, by omega, by omega, fun H5 s5 => ⟨_, rfl, ?_⟩⟩
    have s45 := same_trans s4 s5
    have h1' := (hu1.keep t23).keep (tups_same s45)
    have h2' := hu2.keep (tups_same s45)
    cases fb : b.flat with
    | true => exact condT rfl ⟨_, rfl, q u1 d1 H5 (th1.up (by omega)) h1' (b123.trans (but_same s45)) (hF3.same s45)⟩
    | false =>
      refine condF rfl ⟨_, rfl, _, rfl, (by decide : 2 ≤ sizeLine), fun r nr => ?_⟩
      have s6 := same_new (o := HO.tup [u1, u2]) nr
      exact q _ _ _ (ths_pair th1 th2) (dt2 upd_same (h1'.keep (tups_same s6)) (h2'.keep (tups_same s6))) (b123.trans (but_same (same_trans s45 s6))) (hF3.same (same_trans s45 s6))
  | or a b =>
    have d16' : c + (max a.dp b.dp + 1) ≤ 16 := d16
    have d8' : max a.dp b.dp + 1 ≤ 8 := d8
    have dn' : max a.dp b.dp + 1 ≤ n + 1 := dn
    obtain ⟨p, x, y, rfl, hp, hx, hy⟩ := id hA
    have t1 := tups_same s1
    refine ⟨_, rfl, p, _, 0, _, rfl, rfl, .inl (.inl (t1 _ _ hp)), head_at _ _, rfl, _, rfl, wdF (by decide +kernel) ?_⟩
    refine ⟨_, rfl, p, _, 0, _, rfl, rfl, .inl (.inl (t1 _ _ hp)), head_at _ _, rfl, _, rfl, wdT rfl ?_⟩
    refine ⟨_, rfl, f, 2, rfl, by decide, by decide, hF1, fun k H2 k0 k1 b2 hF2 => ?_⟩
    have t2 := t1.trans (hF1.tups b2)
    refine ⟨(by decide : 2 ≤ sizeLine), fun l nl => ?_⟩
    have s3 := same_new (o := HO.lst [.str "this", .str "that"]) nl
    have fl3 : upd H2 l (.lst [.str "this", .str "that"]) l = _ := upd_same
    have hF3 := hF2.same s3
    have t3 := t2.trans (tups_same s3)
    have b3 := (b1.trans b2).trans (but_same (f := f) s3)
    generalize upd H2 l (.lst [.str "this", .str "that"]) = H3 at fl3 hF3 t3 b3 ⊢
    obtain ⟨z, v2, sb, hz, ez, ev, hv, okv, dv⟩ : ∃ (z : Str) (v2 : V) (sb : Sy), (z = "this" ∨ z = "that") ∧ atI ([.str "this", .str "that"] : List V) k = some (.str z) ∧ atI ([.str "or", x, y] : List V) (1 + k) = some v2 ∧ At H3 sb.tr v2 ∧ sb.Ok c ∧ sb.dp ≤ max a.dp b.dp := by
      rcases (show k = 0 ∨ k = 1 by omega) with rfl | rfl
      · exact ⟨"this", x, a, .inl rfl, atI_nat (j := 0) rfl, atI_nat (j := 1) rfl, hx.keep t3, ok.1, by omega⟩
      · exact ⟨"that", y, b, .inr rfl, atI_nat (j := 1) rfl, atI_nat (j := 2) rfl, hy.keep t3, ok.2, by omega⟩
    refine ⟨_, rfl, l, _, _, _, rfl, rfl, .inl (.inl fl3), ez, ?_⟩
    refine ⟨_, rfl, _, rfl, _, rfl, _, _, rfl, rfl, p, _, _, _, rfl, rfl, .inl (.inl (t3 _ _ hp)), ev, f, v2, sb, c, rfl, hv, okv, by omega, by omega, by omega, hF3, fun u1 d1 H4 th1 hu1 b4 hF4 => ?_⟩
    refine ⟨(by decide : 2 ≤ sizeLine), fun r nr => ?_⟩
    have s6 := same_new (o := HO.tup [.str z, u1]) nr
    exact q _ _ _ (ths_side hz th1) (dt2 upd_same (.str z) (hu1.keep (tups_same s6))) ((b3.trans b4).trans (but_same s6)) (hF4.same s6)
  | cond a b =>
    have d16' : c + (max a.dp b.dp + 1) ≤ 16 := d16
    have d8' : max a.dp b.dp + 1 ≤ 8 := d8
    have dn' : max a.dp b.dp + 1 ≤ n + 1 := dn
    obtain ⟨p, x, y, rfl, hp, hx, hy⟩ := id hA
    have t1 := tups_same s1
    refine ⟨_, rfl, p, _, 0, _, rfl, rfl, .inl (.inl (t1 _ _ hp)), head_at _ _, rfl, _, rfl, wdF (by decide +kernel) ?_⟩
    refine ⟨_, rfl, p, _, 0, _, rfl, rfl, .inl (.inl (t1 _ _ hp)), head_at _ _, rfl, _, rfl, wdF (by decide +kernel) ?_⟩
    refine ⟨_, rfl, p, _, 0, _, rfl, rfl, .inl (.inl (t1 _ _ hp)), head_at _ _, rfl, _, rfl, wdT rfl ?_⟩
    exact ⟨_, rfl, _, rfl, p, _, 2, _, rfl, rfl, .inl (.inl (t1 _ _ hp)), atI_nat (j := 2) rfl, f, y, b, c, rfl, hy.keep t1, ok.2.2, by omega, by omega, by omega, hF1, fun u1 d1 H2 th1 hu1 b2 hF2 => q u1 d1 H2 (th1.up (by omega)) hu1 (b1.trans b2) hF2⟩
  | some a =>
    have d16' : c + (a.dp + 1) ≤ 16 := d16
    have d8' : a.dp + 1 ≤ 8 := d8
    have dn' : a.dp + 1 ≤ n + 1 := dn
    obtain ⟨p, x, rfl, hp, hx⟩ := id hA
    have t1 := tups_same s1
    refine ⟨_, rfl, p, _, 0, _, rfl, rfl, .inl (.inl (t1 _ _ hp)), head_at _ _, rfl, _, rfl, wdF (by decide +kernel) ?_⟩
    refine ⟨_, rfl, p, _, 0, _, rfl, rfl, .inl (.inl (t1 _ _ hp)), head_at _ _, rfl, _, rfl, wdF (by decide +kernel) ?_⟩
    refine ⟨_, rfl, p, _, 0, _, rfl, rfl, .inl (.inl (t1 _ _ hp)), head_at _ _, rfl, _, rfl, wdF (by decide +kernel) ?_⟩
    refine ⟨_, rfl, _, rfl, f, 6, rfl, by decide, by decide, hF1, fun k H2 k0 k1 b2 hF2 => ?_⟩
    refine ⟨_, rfl, f, 6, rfl, by decide, by decide, hF2, fun k' H3 k0' k1' b3 hF3 => ?_⟩
    refine ⟨(by decide : 4 ≤ sizeLine), fun l nl => ?_⟩
    have s4 := same_new (o := HO.lst [.int 0, .int 1, .int k, .int k']) nl
    refine ⟨f, l, _, rfl, hF3.ne nl, .inl (.inl upd_same), (by show 0 < 4; decide), (by show 4 ≤ 1000; decide), hF3.same s4, fun m hm H5 b5 hF5 => ?_⟩
    obtain ⟨i, rfl, i0, i5⟩ : ∃ i : Int, m = .int i ∧ 0 ≤ i ∧ i ≤ 5 := by
      rcases List.mem_cons.mp hm with rfl | hm
      · exact ⟨0, rfl, by decide, by decide⟩
      rcases List.mem_cons.mp hm with rfl | hm
      · exact ⟨1, rfl, by decide, by decide⟩
      rcases List.mem_cons.mp hm with rfl | hm
      · exact ⟨k, rfl, k0, by omega⟩
      · rw [List.mem_singleton.mp hm]
        exact ⟨k', rfl, k0', by omega⟩
    have bb := ((((b1.trans b2).trans b3).trans (but_same (f := f) s4)).trans b5)
    have t5 : Tups H H5 := (((t1.trans (hF1.tups b2)).trans (hF2.tups b3)).trans (tups_same s4)).trans ((hF3.same s4).tups b5)
    refine ⟨_, rfl, p, _, 1, _, rfl, rfl, .inl (.inl (t5 _ _ hp)), atI_nat (j := 1) rfl, x, a, c + 1, rfl, hx.keep t5, ok, by omega, by omega, fun H6 s6 => ⟨_, rfl, ?_⟩⟩
    have bb6 := bb.trans (but_same (f := f) s6)
    have hF6 := hF5.same s6
    cases fa : a.flat with
    | true => exact condT rfl ⟨_, rfl, q _ _ H6 (ths_int _ i0 i5) (.int i) bb6 hF6⟩
    | false =>
      have t6 := t5.trans (tups_same s6)
      refine condF rfl ⟨_, rfl, _, rfl, _, rfl, p, _, 1, _, rfl, rfl, .inl (.inl (t6 _ _ hp)), atI_nat (j := 1) rfl, f, x, a, c + 1, rfl, hx.keep t6, ok, by omega, by omega, by omega, hF6, fun u1 d1 H7 th1 hu1 b7 hF7 => ?_⟩
      refine ⟨(by decide : 2 ≤ sizeLine), fun r nr => ?_⟩
      have s8 := same_new (o := HO.tup [.int i, u1]) nr
      exact q _ _ _ (ths_pair (ths_int n i0 i5) th1) (dt2 upd_same (.int i) (hu1.keep (tups_same s8))) ((bb6.trans b7).trans (but_same s8)) (hF7.same s8)
theorem ok_dws {g : Addr} {gd : FuncData} (F : Fun K "_law_drawn" "_law_drawn" sDw g gd) (D : Draw P w K mg base ft fp dt dp) (GF : FnOk P w K mg base CX0 10 ff df ["saying"] spLF) (bF : Binds K df ["saying"] []) (kF : PySem.W.keepIn K (.ref ff) = true) (mF : mg "_law_is_flat" = some (.ref ff)) (bS : Binds K gd ["feed", "saying"] []) (mS : mg "_law_drawn" = some (.ref g)) : ∀ n : Nat, FnOk P w K mg base CX0 (10 + n) g gd ["feed", "saying"] (spDw K n)
  | 0 => no_calls fun vs H Q E h => by
    obtain ⟨_, _, s, _, _, _, _, _, _, n1, _⟩ := h
    cases s <;> simp [Sy.dp] at n1
  | n + 1 => ok_dw F D GF bF kF mF (ok_dws F D GF bF kF mF bS mS n) bS mS
/-! ### _law_least -/
def spLe (K : PySem.W.Frag) (n : Nat) : Sp := fun vs H Q _ => ∃ (v : V) (s : Sy) (c : Nat), vs = [v] ∧ At H s.tr v ∧ s.Ok c ∧ c + s.dp ≤ 16 ∧ s.dp ≤ 8 ∧ s.dp ≤ n ∧ ∀ u d H', Ths s.dp d → Dt K H' u d → Same H H' → Q u H'
theorem ok_le {n : Nat} (F : Fun K "_law_least" "_law_least" sLe f fd) (GF : FnOk P w K mg base CX0 10 ff df ["saying"] spLF) (bF : Binds K df ["saying"] []) (kF : PySem.W.keepIn K (.ref ff) = true) (mF : mg "_law_is_flat" = some (.ref ff))
    (S : FnOk P w K mg base CX0 (10 + n) f fd ["saying"] (spLe K n)) (bS : Binds K fd ["saying"] []) (mS : mg "_law_least" = some (.ref f)) : FnOk P w K mg base CX0 (10 + n + 1) f fd ["saying"] (spLe K (n + 1)) := by
  refine F.ok scLe (fun vs H Q E h => ?_) (fun cdv Ar outer s0 H vs Q E hr h => ?_)
  · obtain ⟨v, s, c, rfl, _⟩ := h
    rfl
  have h10 : Room 10 _ := hr.mono (by omega)
  obtain ⟨v, s, c, rfl, hA, ok, d16, d8, dn, q⟩ := h
  refine ⟨_, (pss_cons (ps_if (pt_val (pe_call GF h10 (by rfl) mF kF bF .nil pass0 (pa_cons (pv 0) pa_nil))) (pss_one (ps_ret pe_non)) pss_nil)
    (pss_cons (ps_if (pt_cmpR op_eq (pe_ix ix_tup (pv 0) pe_int (fun _ _ => rfl)) pe_str (nomark _)) (pss_cons (ps_par (i := 1) (j := 2) rfl scLe.nd rfl rfl (by decide) rfl rfl (pa_cons (pe_call S hr (by rfl) mS F.kp bS .nil pass0 (pa_cons (pe_ix ix_tup (pv 0) pe_int (fun _ _ => rfl)) pa_nil)) (pa_cons (pe_call S hr (by rfl) mS F.kp bS .nil pass0 (pa_cons (pe_ix ix_tup (pv 0) pe_int (fun _ _ => rfl)) pa_nil)) pa_nil)) (by rfl))
    (pss_cons (ps_if (pt_val (pe_call GF h10 (by rfl) mF kF bF .nil pass0 (pa_cons (pe_ix ix_tup (pv 0) pe_int (fun _ _ => rfl)) pa_nil))) (pss_one (ps_ret (pv 2))) pss_nil)
    (pss_one (ps_ret (pe_ifExp (pt_val (pe_call GF h10 (by rfl) mF kF bF .nil pass0 (pa_cons (pe_ix ix_tup (pv 0) pe_int (fun _ _ => rfl)) pa_nil))) (pv 1) (pe_tup (pa_cons (pv 1) (pa_cons (pv 2) pa_nil)))))))) pss_nil)
    (pss_cons (ps_if (pt_cmpR op_eq (pe_ix ix_tup (pv 0) pe_int (fun _ _ => rfl)) pe_str (nomark _)) (pss_one (ps_ret (pe_tup (pa_cons pe_str (pa_cons (pe_call S hr (by rfl) mS F.kp bS .nil pass0 (pa_cons (pe_ix ix_tup (pv 0) pe_int (fun _ _ => rfl)) pa_nil)) pa_nil))))) pss_nil)
    (pss_cons (ps_if (pt_cmpR op_eq (pe_ix ix_tup (pv 0) pe_int (fun _ _ => rfl)) pe_str (nomark _)) (pss_one (ps_ret (pe_call S hr (by rfl) mS F.kp bS .nil pass0 (pa_cons (pe_ix ix_tup (pv 0) pe_int (fun _ _ => rfl)) pa_nil)))) pss_nil)
    (pss_one (ps_ret (pe_ifExp (pt_val (pe_call GF h10 (by rfl) mF kF bF .nil pass0 (pa_cons (pe_ix ix_tup (pv 0) pe_int (fun _ _ => rfl)) pa_nil))) pe_int (pe_tup (pa_cons pe_int (pa_cons (pe_call S hr (by rfl) mS F.kp bS .nil pass0 (pa_cons (pe_ix ix_tup (pv 0) pe_int (fun _ _ => rfl)) pa_nil)) pa_nil)))))))))), ?_⟩
  refine ⟨_, rfl, v, s, c, rfl, hA, ok, d16, d8, fun H1 s1 => ⟨_, rfl, ?_⟩⟩
  cases fl : s.flat with
  | true => exact condT rfl (q .non .none H1 (ths_none _) .non s1)
  | false =>
  refine condF rfl ?_
  cases s with
  | same a b => cases fl
  | no => cases fl
  | and a b =>
    have d16' : c + (max a.dp b.dp + 1) ≤ 16 := d16
    have d8' : max a.dp b.dp + 1 ≤ 8 := d8
    have dn' : max a.dp b.dp + 1 ≤ n + 1 := dn
    obtain ⟨p, x, y, rfl, hp, hx, hy⟩ := id hA
    refine ⟨_, rfl, p, _, 0, _, rfl, rfl, .inl (.inl (s1 _ _ hp)), head_at _ _, rfl, _, rfl, wdT rfl ?_⟩
    refine ⟨_, rfl, p, _, 1, _, rfl, rfl, .inl (.inl (s1 _ _ hp)), atI_nat (j := 1) rfl, x, a, c, rfl, hx.keep (tups_same s1), ok.1, by omega, by omega, by omega, fun u1 d1 H2 th1 hu1 s2 => ?_⟩
    have s12 := same_trans s1 s2
    refine ⟨_, rfl, p, _, 2, _, rfl, rfl, .inl (.inl (s12 _ _ hp)), atI_nat (j := 2) rfl, y, b, c, rfl, hy.keep (tups_same s12), ok.2, by omega, by omega, by omega, fun u2 d2 H3 th2 hu2 s3 => ?_⟩
    have s13 := same_trans s12 s3
    refine ⟨_, _, rfl, ?_⟩
    refine ⟨_, rfl, p, _, 1, _, rfl, rfl, .inl (.inl (s13 _ _ hp)), atI_nat (j := 1) rfl, x, a, c, rfl, hx.keep (tups_same s13), ok.1, by omega, by omega, fun H4 s4 => ⟨_, rfl, ?_⟩⟩
    have s14 := same_trans s13 s4
    cases fa : a.flat with
    | true => exact condT rfl ⟨_, rfl, q u2 d2 H4 (th2.up (by show b.dp ≤ max a.dp b.dp + 1; omega)) (hu2.keep (tups_same s4)) s14⟩
    | false =>
    refine condF rfl ?_
    refine ⟨_, rfl, p, _, 2, _, rfl, rfl, .inl (.inl (s14 _ _ hp)), atI_nat (j := 2) rfl, y, b, c, rfl, hy.keep (tups_same s14), ok.2, by omega, by omega, fun H5 s5 => ⟨_, rfl, ?_⟩⟩
    have s45 := same_trans s4 s5
    have h1' := (hu1.keep (tups_same s3)).keep (tups_same s45)
    have h2' := hu2.keep (tups_same s45)
    cases fb : b.flat with
    | true => exact condT rfl ⟨_, rfl, q u1 d1 H5 (th1.up (by show a.dp ≤ max a.dp b.dp + 1; omega)) h1' (same_trans s13 s45)⟩
    | false =>
      refine condF rfl ⟨_, rfl, _, rfl, (by decide : 2 ≤ sizeLine), fun r nr => ?_⟩
      have s6 := same_new (o := HO.tup [u1, u2]) nr
      exact q _ _ _ (show Ths (max a.dp b.dp + 1) _ from ths_pair (th1.up (Nat.le_max_left _ _)) (th2.up (Nat.le_max_right _ _))) (dt2 upd_same (h1'.keep (tups_same s6)) (h2'.keep (tups_same s6))) (same_trans s13 (same_trans s45 s6))
  | or a b =>
    have d16' : c + (max a.dp b.dp + 1) ≤ 16 := d16
    have d8' : max a.dp b.dp + 1 ≤ 8 := d8
    have dn' : max a.dp b.dp + 1 ≤ n + 1 := dn
    obtain ⟨p, x, y, rfl, hp, hx, hy⟩ := id hA
    refine ⟨_, rfl, p, _, 0, _, rfl, rfl, .inl (.inl (s1 _ _ hp)), head_at _ _, rfl, _, rfl, wdF (by decide +kernel) ?_⟩
    refine ⟨_, rfl, p, _, 0, _, rfl, rfl, .inl (.inl (s1 _ _ hp)), head_at _ _, rfl, _, rfl, wdT rfl ?_⟩
    refine ⟨_, rfl, p, _, 1, _, rfl, rfl, .inl (.inl (s1 _ _ hp)), atI_nat (j := 1) rfl, x, a, c, rfl, hx.keep (tups_same s1), ok.1, by omega, by omega, by omega, fun u1 d1 H2 th1 hu1 s2 => ?_⟩
    refine ⟨(by decide : 2 ≤ sizeLine), fun r nr => ?_⟩
    have s6 := same_new (o := HO.tup [.str "this", u1]) nr
    exact q _ _ _ (show Ths (max a.dp b.dp + 1) _ from ths_side (.inl rfl) (th1.up (Nat.le_max_left _ _))) (dt2 upd_same (.str "this") (hu1.keep (tups_same s6))) (same_trans s1 (same_trans s2 s6))
  | cond a b =>
    have d16' : c + (max a.dp b.dp + 1) ≤ 16 := d16
    have d8' : max a.dp b.dp + 1 ≤ 8 := d8
    have dn' : max a.dp b.dp + 1 ≤ n + 1 := dn
    obtain ⟨p, x, y, rfl, hp, hx, hy⟩ := id hA
    refine ⟨_, rfl, p, _, 0, _, rfl, rfl, .inl (.inl (s1 _ _ hp)), head_at _ _, rfl, _, rfl, wdF (by decide +kernel) ?_⟩
    refine ⟨_, rfl, p, _, 0, _, rfl, rfl, .inl (.inl (s1 _ _ hp)), head_at _ _, rfl, _, rfl, wdF (by decide +kernel) ?_⟩
    refine ⟨_, rfl, p, _, 0, _, rfl, rfl, .inl (.inl (s1 _ _ hp)), head_at _ _, rfl, _, rfl, wdT rfl ?_⟩
    exact ⟨_, rfl, p, _, 2, _, rfl, rfl, .inl (.inl (s1 _ _ hp)), atI_nat (j := 2) rfl, y, b, c, rfl, hy.keep (tups_same s1), ok.2.2, by omega, by omega, by omega, fun u1 d1 H2 th1 hu1 s2 => q u1 d1 H2 (th1.up (by show b.dp ≤ max a.dp b.dp + 1; omega)) hu1 (same_trans s1 s2)⟩
  | some a =>
    have d16' : c + (a.dp + 1) ≤ 16 := d16
    have d8' : a.dp + 1 ≤ 8 := d8
    have dn' : a.dp + 1 ≤ n + 1 := dn
    obtain ⟨p, x, rfl, hp, hx⟩ := id hA
    refine ⟨_, rfl, p, _, 0, _, rfl, rfl, .inl (.inl (s1 _ _ hp)), head_at _ _, rfl, _, rfl, wdF (by decide +kernel) ?_⟩
    refine ⟨_, rfl, p, _, 0, _, rfl, rfl, .inl (.inl (s1 _ _ hp)), head_at _ _, rfl, _, rfl, wdF (by decide +kernel) ?_⟩
    refine ⟨_, rfl, p, _, 0, _, rfl, rfl, .inl (.inl (s1 _ _ hp)), head_at _ _, rfl, _, rfl, wdF (by decide +kernel) ?_⟩
    refine ⟨_, rfl, p, _, 1, _, rfl, rfl, .inl (.inl (s1 _ _ hp)), atI_nat (j := 1) rfl, x, a, c + 1, rfl, hx.keep (tups_same s1), ok, by omega, by omega, fun H6 s6 => ⟨_, rfl, ?_⟩⟩
    have s16 := same_trans s1 s6
    cases fa : a.flat with
    | true => exact condT rfl (q _ _ H6 (ths_int _ (by decide) (by decide)) (.int 0) s16)
    | false =>
      refine condF rfl ⟨_, rfl, p, _, 1, _, rfl, rfl, .inl (.inl (s16 _ _ hp)), atI_nat (j := 1) rfl, x, a, c + 1, rfl, hx.keep (tups_same s16), ok, by omega, by omega, by omega, fun u1 d1 H7 th1 hu1 s7 => ?_⟩
      refine ⟨(by decide : 2 ≤ sizeLine), fun r nr => ?_⟩
      have s8 := same_new (o := HO.tup [.int 0, u1]) nr
      exact q _ _ _ (show Ths (a.dp + 1) _ from ths_pair (ths_int a.dp (by decide) (by decide)) th1) (dt2 upd_same (.int 0) (hu1.keep (tups_same s8))) (same_trans s16 (same_trans s7 s8))
theorem ok_les (F : Fun K "_law_least" "_law_least" sLe f fd) (GF : FnOk P w K mg base CX0 10 ff df ["saying"] spLF) (bF : Binds K df ["saying"] []) (kF : PySem.W.keepIn K (.ref ff) = true) (mF : mg "_law_is_flat" = some (.ref ff)) (bS : Binds K fd ["saying"] []) (mS : mg "_law_least" = some (.ref f)) : ∀ n : Nat, FnOk P w K mg base CX0 (10 + n) f fd ["saying"] (spLe K n)
  | 0 => no_calls fun vs H Q E h => by
    obtain ⟨_, s, _, _, _, _, _, _, n1, _⟩ := h
    cases s <;> simp [Sy.dp] at n1
  | n + 1 => ok_le F GF bF kF mF (ok_les F GF bF kF mF bS mS n) bS mS
end
end Kf
set_option Elab.async false
set_option linter.all false
set_option maxRecDepth 100000
set_option maxHeartbeats 8000000
set_option pp.maxSteps 500
/-! What the law seeks. -/
namespace Kf
open PySem PySem.Spec PyProof.Rows L2 Sx
abbrev sSo : Stmt := top 51
abbrev soN : List Str := ["saying", "bound", "one", "other", "some", "left", "found", "number"]
theorem scSo : FnScope soN ["saying", "bound"] (defScope sSo) := ⟨rfl, rfl, rfl, by decide +kernel, rfl, by decide +kernel, by decide +kernel⟩
theorem ths_all {n : Nat} {ds : List PyData} (h : ∀ d ∈ ds, Ths n d) : atss ds = true ∧ PyData.depthAll ds ≤ n := ⟨atss_of fun d m => (h d m).ats, dep_of fun d m => (h d m).dp⟩
theorem eqv_nil (ds : List PyData) : PyData.eqv (.list ds) (.list []) = ds.isEmpty := by cases ds <;> rfl
section
variable {P : Program} {w : World} {K : PySem.W.Frag} {mg : Str → Option Value} {base : Heap} {f ff ft fl_ fa : Addr} {fd df dt dl da : FuncData}
theorem dta_app {H : Hp} {us vs : List V} {ds es : List PyData} (a : DtAll K H us ds) (b : DtAll K H vs es) : DtAll K H (us ++ vs) (ds ++ es) := dps_app a b
theorem dta_one {H : Hp} {u : V} {d : PyData} (a : Dt K H u d) : DtAll K H [u] [d] := .cons a .nil
/-- a list of things -/
structure Lth (K : PySem.W.Frag) (n m : Nat) (H : Hp) (l : Addr) (us : List V) (ds : List PyData) : Prop where
  at_ : H l = some (.lst us)
  dt : DtAll K H us ds
  th : ∀ d ∈ ds, Ths n d
  len : ds.length ≤ m
theorem Lth.same {n m : Nat} {H H' : Hp} {l : Addr} {us : List V} {ds : List PyData} (h : Lth K n m H l us ds) (s : Same H H') : Lth K n m H' l us ds := ⟨s _ _ h.at_, h.dt.keep (tups_same s), h.th, h.len⟩
theorem Lth.up {n m n' m' : Nat} {H : Hp} {l : Addr} {us : List V} {ds : List PyData} (h : Lth K n m H l us ds) (a : n ≤ n') (b : m ≤ m') : Lth K n' m' H l us ds := ⟨h.at_, h.dt, fun d hd => (h.th d hd).up a, Nat.le_trans h.len b⟩
theorem Lth.dp {n m : Nat} {H : Hp} {l : Addr} {us : List V} {ds : List PyData} (h : Lth K n m H l us ds) (n8 : n ≤ 20) : Dp K H (.ref l) (.list ds) ∧ (PyData.list ds).canLay0 = true ∧ (PyData.list ds).depth ≤ 120 := by
  obtain ⟨a, d⟩ := ths_all h.th
  exact ⟨.lst (.inl (.inl h.at_)) h.dt.dp, (fit (.list ds) a).lay, by rw [dep_lst]; omega⟩
def spSo (K : PySem.W.Frag) (n : Nat) : Sp := fun vs H Q _ => ∃ (v : V) (s : Sy), vs = [v, .int 3] ∧ At H s.tr v ∧ s.Ok 0 ∧ s.dp ≤ 8 ∧ s.dp ≤ n ∧ n ≤ 8 ∧ ∀ l us ds H', Same H H' → Lth K n (2 ^ n) H' l us ds → Q (.ref l) H'
theorem empty_ways {n m : Nat} {H : Hp} {l : Addr} {us : List V} {ds : List PyData} (h : Lth K n m H l us ds) : (ds.isEmpty = true ∧ us = [] ∧ ds = []) ∨ (ds.isEmpty = false ∧ ∃ u r d e, us = u :: r ∧ ds = d :: e ∧ Dt K H u d ∧ Ths n d) := by
  cases ds with
  | nil =>
    have z := h.dt
    cases z
    exact .inl ⟨rfl, rfl, rfl⟩
  | cons d e =>
    have z := h.dt
    cases z with
    | cons a b => exact .inr ⟨rfl, _, _, d, e, rfl, rfl, a, h.th d List.mem_cons_self⟩
theorem ok_so {n : Nat} (F : Fun K "_law_sought" "_law_sought" sSo f fd) (zRange : mg "range" = none) (GF : FnOk P w K mg base CX0 10 ff df ["saying"] spLF) (bF : Binds K df ["saying"] []) (kF : PySem.W.keepIn K (.ref ff) = true) (mF : mg "_law_is_flat" = some (.ref ff))
    (GT : FnOk P w K mg base CX0 11 ft dt ["saying"] (spTr 8)) (bT : Binds K dt ["saying"] []) (kT : PySem.W.keepIn K (.ref ft) = true) (mT : mg "_law_true" = some (.ref ft))
    (GL : FnOk P w K mg base CX0 18 fl_ dl ["saying"] (spLe K 8)) (bL : Binds K dl ["saying"] []) (kL : PySem.W.keepIn K (.ref fl_) = true) (mL : mg "_law_least" = some (.ref fl_))
    (GA : FnOk P w K mg base CX0 11 fa da ["thing", "number", "around"] (spAt 10)) (bA : Binds K da ["thing", "number", "around"] []) (kA : PySem.W.keepIn K (.ref fa) = true) (mA : mg "_law_at" = some (.ref fa))
    (S : FnOk P w K mg base CX0 (18 + n) f fd ["saying", "bound"] (spSo K n)) (bS : Binds K fd ["saying", "bound"] []) (mS : mg "_law_sought" = some (.ref f)) : FnOk P w K mg base CX0 (18 + n + 1) f fd ["saying", "bound"] (spSo K (n + 1)) := by
  refine F.ok scSo (fun vs H Q E h => ?_) (fun cdv Ar outer s0 H vs Q E hr h => ?_)
  · obtain ⟨v, s, rfl, _⟩ := h
    rfl
  have h18 : Room 18 _ := hr.mono (by omega)
  have h11 : Room 11 _ := hr.mono (by omega)
  have h10 : Room 10 _ := hr.mono (by omega)
  have u1 : (Ar.deeper (envOfC "_law_sought" (defScope sSo) s0.heap.objs.size f cdv)).units + 130 < cLine := by
    have := hr.un
    omega
  obtain ⟨v, s, rfl, hA, ok, d8, dn, n8, q⟩ := h
  refine ⟨_, (pss_cons (ps_if (pt_val (pe_call GF h10 (by rfl) mF kF bF .nil pass0 (pa_cons (pv 0) pa_nil))) (pss_one (ps_ret (pe_ifExp (pt_val (pe_call GT h11 (by rfl) mT kT bT .nil pass0 (pa_cons (pv 0) pa_nil))) (pe_lst (pa_cons pe_non pa_nil)) (pe_lst pa_nil)))) pss_nil)
    (pss_cons (ps_if (pt_cmpR op_eq (pe_ix (show IxR _ (rIxT K) from ix_tup) (pv 0) pe_int (fun _ _ => rfl)) pe_str (nomark _)) (pss_cons (ps_set (i := 2) scSo.nd rfl (.inl rfl) (pe_call S hr (by rfl) mS F.kp bS .nil pass0 (pa_cons (pe_ix (show IxR _ (rIxT K) from ix_tup) (pv 0) pe_int (fun _ _ => rfl)) (pa_cons (pv 1) pa_nil))))
    (pss_cons (ps_set (i := 3) scSo.nd rfl (.inl rfl) (pe_call S hr (by rfl) mS F.kp bS .nil pass0 (pa_cons (pe_ix (show IxR _ (rIxT K) from ix_tup) (pv 0) pe_int (fun _ _ => rfl)) (pa_cons (pv 1) pa_nil))))
    (pss_cons (ps_if (PW.pt (pw_or (pt_cmpR (op_eqW u1) (pv 2) (pe_lst pa_nil) (nomark _)) (pw_or1 (pt_cmpR (op_eqW u1) (pv 3) (pe_lst pa_nil) (nomark _))))) (pss_one (ps_ret (pe_lst pa_nil))) pss_nil)
    (pss_cons (ps_if (pt_val (pe_call GF h10 (by rfl) mF kF bF .nil pass0 (pa_cons (pe_ix (show IxR _ (rIxT K) from ix_tup) (pv 0) pe_int (fun _ _ => rfl)) pa_nil))) (pss_one (ps_ret (pv 3))) pss_nil)
    (pss_one (ps_ret (pe_ifExp (pt_val (pe_call GF h10 (by rfl) mF kF bF .nil pass0 (pa_cons (pe_ix (show IxR _ (rIxT K) from ix_tup) (pv 0) pe_int (fun _ _ => rfl)) pa_nil))) (pv 2) (pe_lst (pa_cons (pe_tup (pa_cons (pe_ix ix_list (pv 2) pe_int (fun _ _ => rfl)) (pa_cons (pe_ix ix_list (pv 3) pe_int (fun _ _ => rfl)) pa_nil))) pa_nil))))))))) pss_nil)
    (pss_cons (ps_if (pt_cmpR op_eq (pe_ix (show IxR _ (rIxT K) from ix_tup) (pv 0) pe_int (fun _ _ => rfl)) pe_str (nomark _)) (pss_cons (ps_set (i := 2) scSo.nd rfl (.inl rfl) (pe_call S hr (by rfl) mS F.kp bS .nil pass0 (pa_cons (pe_ix (show IxR _ (rIxT K) from ix_tup) (pv 0) pe_int (fun _ _ => rfl)) (pa_cons (pv 1) pa_nil))))
    (pss_cons (ps_set (i := 3) scSo.nd rfl (.inl rfl) (pe_call S hr (by rfl) mS F.kp bS .nil pass0 (pa_cons (pe_ix (show IxR _ (rIxT K) from ix_tup) (pv 0) pe_int (fun _ _ => rfl)) (pa_cons (pv 1) pa_nil))))
    (pss_cons (ps_setLc (i := 5) (own := [("some", 4)]) (g := gName 4) (tt := tYes) rfl scSo.nd rfl rfl (sw_true rfl rfl (by rfl) (by decide +kernel)) (pi_list (pv 2)) (blkOk_by (N := soN) (sc := defScope sSo) (by decide +kernel)) (fun _ _ _ _ _ => pg_name (i := 4) scSo.nd rfl (Or.inl rfl)) (fun _ _ _ _ _ => pts_nil) (fun _ _ _ _ _ => (pe_tup (pa_cons pe_str (pa_cons (pv 4) pa_nil)))))
    (pss_one (ps_ret (pe_op op_cat (pv 5) (pe_lc (own := [("some", 4)]) (g := gName 4) (tt := tYes) (by rfl) scSo.nd (pi_list (pv 3)) (blkOk_by (N := soN) (sc := defScope sSo) (by decide +kernel)) (fun _ _ _ _ _ => pg_name (i := 4) scSo.nd rfl (Or.inl rfl)) (fun _ _ _ _ _ => pts_nil) (fun _ _ _ _ _ => (pe_tup (pa_cons pe_str (pa_cons (pv 4) pa_nil))))))))))) pss_nil)
    (pss_cons (ps_if (pt_cmpR op_eq (pe_ix (show IxR _ (rIxT K) from ix_tup) (pv 0) pe_int (fun _ _ => rfl)) pe_str (nomark _)) (pss_cons (ps_if (pt_not (pt_val (pe_call GT h11 (by rfl) mT kT bT .nil pass0 (pa_cons (pe_ix (show IxR _ (rIxT K) from ix_tup) (pv 0) pe_int (fun _ _ => rfl)) pa_nil)))) (pss_one (ps_ret (pe_lst (pa_cons (pe_call GL h18 (by rfl) mL kL bL .nil pass0 (pa_cons (pe_ix (show IxR _ (rIxT K) from ix_tup) (pv 0) pe_int (fun _ _ => rfl)) pa_nil)) pa_nil)))) pss_nil)
    (pss_one (ps_ret (pe_call S hr (by rfl) mS F.kp bS .nil pass0 (pa_cons (pe_ix (show IxR _ (rIxT K) from ix_tup) (pv 0) pe_int (fun _ _ => rfl)) (pa_cons (pv 1) pa_nil)))))) pss_nil)
    (pss_cons (ps_set (i := 6) scSo.nd rfl (.inl rfl) (pe_lst pa_nil))
    (pss_cons (ps_for PassesOwn.never rfl (pi_range1 (by rfl) zRange (pa_cons (pe_op op_add (pv 1) pe_int) pa_nil)) (pg_name (i := 7) scSo.nd rfl (.inr rfl)) (pss_one (ps_if (pt_cmpR (op_eqW u1) (pv 6) (pe_lst pa_nil) (nomark _)) (pss_cons (ps_set (i := 4) scSo.nd rfl (.inl rfl) (pe_call S hr (by rfl) mS F.kp bS .nil pass0 (pa_cons (pe_call GA h11 (by rfl) mA kA bA .nil pass0 (pa_cons (pe_ix (show IxR _ (rIxT K) from ix_tup) (pv 0) pe_int (fun _ _ => rfl)) (pa_cons (pv 7) (pa_cons pe_int pa_nil)))) (pa_cons (pv 1) pa_nil))))
    (pss_one (ps_setLc (i := 6) (own := [("one", 2)]) (g := gName 2) (tt := tYes) rfl scSo.nd rfl rfl (sw_true rfl rfl (by rfl) (by decide +kernel)) (pi_list (pv 4)) (blkOk_by (N := soN) (sc := defScope sSo) (by decide +kernel)) (fun _ _ _ _ _ => pg_name (i := 2) scSo.nd rfl (Or.inl rfl)) (fun _ _ _ _ _ => pts_nil) (fun _ _ _ _ _ => (pe_ifExp (pt_val (pe_call GF h10 (by rfl) mF kF bF .nil pass0 (pa_cons (pe_ix (show IxR _ (rIxT K) from ix_tup) (pv 0) pe_int (fun _ _ => rfl)) pa_nil))) (pv 7) (pe_tup (pa_cons (pv 7) (pa_cons (pv 2) pa_nil)))))))) pss_nil)))
    (pss_one (ps_ret (pv 6))))))))), ?_⟩
  have p2 : 2 ^ (n + 1) = 2 ^ n + 2 ^ n := by rw [Nat.pow_succ]; omega
  have p1 := two_ge n
  have p256 : 2 ^ n ≤ 2 ^ 8 := Nat.pow_le_pow_right (by decide) (by omega)
  have e256 : 2 ^ 8 = 256 := by decide
  have l0 : (PyData.list []).canLay0 = true := by decide +kernel
  refine ⟨_, rfl, v, s, 0, rfl, hA, ok, by omega, d8, fun H1 s1 => ⟨_, rfl, ?_⟩⟩
  cases fl : s.flat with
  | true =>
    refine condT rfl ?_
    refine ⟨_, rfl, v, s, rfl, hA.keep (tups_same s1), fl, ok, d8, fun H2 s2 => ⟨_, rfl, ?_⟩⟩
    have s12 := same_trans s1 s2
    cases tr : s.tru with
    | true => exact condT rfl ⟨(by decide : 1 ≤ sizeLine), fun l nl => q l [.non] [.none] _ (same_trans s12 (same_new nl)) ⟨upd_same, .cons .non .nil, fun d hd => by rw [List.mem_singleton.mp hd]; exact ths_none _, by show 1 ≤ 2 ^ (n + 1); omega⟩⟩
    | false => exact condF rfl ⟨(by decide : 0 ≤ sizeLine), fun l nl => q l [] [] _ (same_trans s12 (same_new nl)) ⟨upd_same, .nil, (fun _ h => nomatch h), Nat.zero_le _⟩⟩
  | false =>
  refine condF rfl ?_
  cases s with
  | same a b => cases fl
  | no => cases fl
  | and a b =>
    have d8' : max a.dp b.dp + 1 ≤ 8 := d8
    have dn' : max a.dp b.dp + 1 ≤ n + 1 := dn
    obtain ⟨p, x, y, rfl, hp, hx, hy⟩ := id hA
    refine ⟨_, rfl, p, _, 0, _, rfl, rfl, .inl (.inl (s1 _ _ hp)), head_at _ _, rfl, _, rfl, wdT rfl ?_⟩
    refine ⟨_, rfl, p, _, 1, _, rfl, rfl, .inl (.inl (s1 _ _ hp)), atI_nat (j := 1) rfl, _, rfl, x, a, rfl, hx.keep (tups_same s1), ok.1, by omega, by omega, by omega, fun l1 us1 ds1 H2 s2 L1 => ?_⟩
    have s12 := same_trans s1 s2
    refine ⟨_, rfl, p, _, 2, _, rfl, rfl, .inl (.inl (s12 _ _ hp)), atI_nat (j := 2) rfl, _, rfl, y, b, rfl, hy.keep (tups_same s12), ok.2, by omega, by omega, by omega, fun l2 us2 ds2 H3 s3 L2 => ?_⟩
    have s13 := same_trans s12 s3
    have L1 := L1.same s3
    refine ⟨_, rfl, (by decide : 0 ≤ sizeLine), fun e1 ne1 => ?_⟩
    have s4 := same_new (o := HO.lst []) ne1
    obtain ⟨dp1, la1, de1⟩ := (L1.same s4).dp (by omega)
    refine ⟨.list ds1, .list [], dp1, .lst (.inl (.inl upd_same)) .nil, la1, l0, de1, _, rfl, ?_⟩
    rw [eqv_nil]
    have s14 := same_trans s13 s4
    have L1 := L1.same s4
    have L2 := L2.same s4
    generalize upd H3 e1 (.lst []) = H4 at s14 L1 L2 ⊢
    rcases empty_ways L1 with ⟨em, _, _⟩ | ⟨em, u1', r1, d1, e1', rfl, rfl, hu1, th1⟩
    · rw [em]
      exact condT rfl ⟨(by decide : 0 ≤ sizeLine), fun l nl => q l [] [] _ (same_trans s14 (same_new nl)) ⟨upd_same, .nil, (fun _ h => nomatch h), Nat.zero_le _⟩⟩
    rw [em]
    refine condF rfl ⟨_, rfl, (by decide : 0 ≤ sizeLine), fun e2 ne2 => ?_⟩
    have s5 := same_new (o := HO.lst []) ne2
    obtain ⟨dp2, la2, de2⟩ := (L2.same s5).dp (by omega)
    refine ⟨.list ds2, .list [], dp2, .lst (.inl (.inl upd_same)) .nil, la2, l0, de2, _, rfl, ?_⟩
    rw [eqv_nil]
    have s15 := same_trans s14 s5
    have L1 := L1.same s5
    have L2 := L2.same s5
    have hu1 := hu1.keep (tups_same s5)
    generalize upd H4 e2 (.lst []) = H5 at s15 L1 L2 hu1 ⊢
    rcases empty_ways L2 with ⟨em2, _, _⟩ | ⟨em2, u2', r2, d2, e2', rfl, rfl, hu2, th2⟩
    · rw [em2]
      exact condT rfl ⟨(by decide : 0 ≤ sizeLine), fun l nl => q l [] [] _ (same_trans s15 (same_new nl)) ⟨upd_same, .nil, (fun _ h => nomatch h), Nat.zero_le _⟩⟩
    rw [em2]
    refine condF rfl ?_
    refine ⟨_, rfl, p, _, 1, _, rfl, rfl, .inl (.inl (s15 _ _ hp)), atI_nat (j := 1) rfl, x, a, 0, rfl, hx.keep (tups_same s15), ok.1, by omega, by omega, fun H6 s6 => ⟨_, rfl, ?_⟩⟩
    have s16 := same_trans s15 s6
    cases fa : a.flat with
    | true => exact condT rfl ⟨_, rfl, q l2 _ _ H6 s16 ((L2.same s6).up (by omega) (by omega))⟩
    | false =>
    refine condF rfl ?_
    refine ⟨_, rfl, p, _, 2, _, rfl, rfl, .inl (.inl (s16 _ _ hp)), atI_nat (j := 2) rfl, y, b, 0, rfl, hy.keep (tups_same s16), ok.2, by omega, by omega, fun H7 s7 => ⟨_, rfl, ?_⟩⟩
    have s67 := same_trans s6 s7
    have s17 := same_trans s15 s67
    cases fb : b.flat with
    | true => exact condT rfl ⟨_, rfl, q l1 _ _ H7 s17 ((L1.same s67).up (by omega) (by omega))⟩
    | false =>
      refine condF rfl ⟨_, rfl, l1, _, 0, _, rfl, rfl, .inl (.inl (L1.same s67).at_), head_at _ _, _, rfl, l2, _, 0, _, rfl, rfl, .inl (.inl (L2.same s67).at_), head_at _ _, (by decide : 2 ≤ sizeLine), fun t nt => ?_⟩
      have s8 := same_new (o := HO.tup [u1', u2']) nt
      have ht : Dt K (upd H7 t (.tup [u1', u2'])) (.ref t) (.tuple [d1, d2]) := dt2 upd_same ((hu1.keep (tups_same s67)).keep (tups_same s8)) ((hu2.keep (tups_same s67)).keep (tups_same s8))
      refine ⟨(by decide : 1 ≤ sizeLine), fun l nl => ?_⟩
      have s9 := same_new (o := HO.lst [.ref t]) nl
      exact q l [.ref t] [.tuple [d1, d2]] _ (same_trans s17 (same_trans s8 s9)) ⟨upd_same, .cons (ht.keep (tups_same s9)) .nil, fun d hd => by rw [List.mem_singleton.mp hd]; exact ths_pair th1 th2, by show 1 ≤ 2 ^ (n + 1); omega⟩
  | or a b =>
    have d8' : max a.dp b.dp + 1 ≤ 8 := d8
    have dn' : max a.dp b.dp + 1 ≤ n + 1 := dn
    obtain ⟨p, x, y, rfl, hp, hx, hy⟩ := id hA
    refine ⟨_, rfl, p, _, 0, _, rfl, rfl, .inl (.inl (s1 _ _ hp)), head_at _ _, rfl, _, rfl, wdF (by decide +kernel) ?_⟩
    refine ⟨_, rfl, p, _, 0, _, rfl, rfl, .inl (.inl (s1 _ _ hp)), head_at _ _, rfl, _, rfl, wdT rfl ?_⟩
    refine ⟨_, rfl, p, _, 1, _, rfl, rfl, .inl (.inl (s1 _ _ hp)), atI_nat (j := 1) rfl, _, rfl, x, a, rfl, hx.keep (tups_same s1), ok.1, by omega, by omega, by omega, fun l1 us1 ds1 H2 s2 L1 => ?_⟩
    have s12 := same_trans s1 s2
    refine ⟨_, rfl, p, _, 2, _, rfl, rfl, .inl (.inl (s12 _ _ hp)), atI_nat (j := 2) rfl, _, rfl, y, b, rfl, hy.keep (tups_same s12), ok.2, by omega, by omega, by omega, fun l2 us2 ds2 H3 s3 L2 => ?_⟩
    have s13 := same_trans s12 s3
    have L1 := L1.same s3
    have le1 := dps_len L1.dt
    have le2 := dps_len L2.dt
    refine ⟨_, rfl, l1, rfl, ⟨_, .inl (.inl L1.at_)⟩, fun D nD => ?_⟩
    have sD := same_new (o := HO.lst []) nD
    refine lc_list (K := K) (a := l1) (xs := us1) (fun i X => ∃ vs, X D = some (.lst vs) ∧ Same H3 X ∧ DtAll K X vs ((ds1.take i).map fun d => .tuple [.str "this", d])) ⟨[], upd_same, sD, .nil⟩ (fun i X _ ⟨_, _, sX, _⟩ => .inl (.inl (sX _ _ L1.at_))) ?_ ?_
    · rintro i u X hu ⟨vs, hD, sX, al⟩
      obtain ⟨d1, hd1, dt1⟩ := dps_get L1.dt hu
      have il : i < us1.length := (List.getElem?_eq_some_iff.mp hu).1
      have ll := L1.len
      have lv := dps_len al
      rw [List.length_map, List.length_take] at lv
      refine ⟨rfl, _, rfl, (by decide : 2 ≤ sizeLine), fun t nt => ?_⟩
      have s5 := same_new (o := HO.tup [.str "this", u]) nt
      have hD5 := s5 _ _ hD
      have ht : Dt K (upd X t (.tup [.str "this", u])) (.ref t) (.tuple [.str "this", d1]) := dt2 upd_same (.str _) ((Dt.keep dt1 (tups_same sX)).keep (tups_same s5))
      refine ⟨_, hD5, few_of' (by omega), vs ++ [.ref t], upd_same, same_up (same_trans sX s5) nD, ?_⟩
      rw [List.take_add_one, hd1, List.map_append]
      exact dps_app ((al.keep (tups_same s5)).keep (tups_lst hD5)) (.cons (ht.keep (tups_lst hD5)) .nil)
    rintro X ⟨vs, hD, sX, al⟩
    rw [le1, List.take_length] at al
    have LL : Lth K (n + 1) (2 ^ n) X D vs (ds1.map fun d => .tuple [.str "this", d]) := ⟨hD, al, fun d hd => by
      obtain ⟨e, he, rfl⟩ := List.mem_map.mp hd
      exact ths_side (.inl rfl) (L1.th e he), by rw [List.length_map]; exact L1.len⟩
    have L2 := L2.same sX
    have s1X := same_trans s13 sX
    clear hD al nD sD
    refine ⟨_, rfl, _, rfl, l2, rfl, ⟨_, .inl (.inl L2.at_)⟩, fun D2 nD2 => ?_⟩
    have sD2 := same_new (o := HO.lst []) nD2
    refine lc_list (K := K) (a := l2) (xs := us2) (fun i X' => ∃ vs, X' D2 = some (.lst vs) ∧ Same X X' ∧ DtAll K X' vs ((ds2.take i).map fun d => .tuple [.str "that", d])) ⟨[], upd_same, sD2, .nil⟩ (fun i X' _ ⟨_, _, sX', _⟩ => .inl (.inl (sX' _ _ L2.at_))) ?_ ?_
    · rintro i u X' hu ⟨vs, hD, sX', al⟩
      obtain ⟨d1, hd1, dt1⟩ := dps_get L2.dt hu
      have il : i < us2.length := (List.getElem?_eq_some_iff.mp hu).1
      have ll := L2.len
      have lv := dps_len al
      rw [List.length_map, List.length_take] at lv
      refine ⟨rfl, _, rfl, (by decide : 2 ≤ sizeLine), fun t nt => ?_⟩
      have s5 := same_new (o := HO.tup [.str "that", u]) nt
      have hD5 := s5 _ _ hD
      have ht : Dt K (upd X' t (.tup [.str "that", u])) (.ref t) (.tuple [.str "that", d1]) := dt2 upd_same (.str _) ((Dt.keep dt1 (tups_same sX')).keep (tups_same s5))
      refine ⟨_, hD5, few_of' (by omega), vs ++ [.ref t], upd_same, same_up (same_trans sX' s5) nD2, ?_⟩
      rw [List.take_add_one, hd1, List.map_append]
      exact dps_app ((al.keep (tups_same s5)).keep (tups_lst hD5)) (.cons (ht.keep (tups_lst hD5)) .nil)
    rintro X2 ⟨vs2, hD2, sX2, al2⟩
    rw [le2, List.take_length] at al2
    have LL := LL.same sX2
    have lv2 := dps_len al2
    rw [List.length_map] at lv2
    have lv1 := dps_len LL.dt
    have b1' := LL.len
    have b2' := L2.len
    refine ⟨D, D2, _, _, rfl, rfl, LL.at_, hD2, Nat.le_of_lt (few_of' (by omega)), fun r nr => ?_⟩
    have s9 := same_new (o := HO.lst (vs ++ vs2)) nr
    refine q r (vs ++ vs2) ((ds1.map fun d => .tuple [.str "this", d]) ++ ds2.map fun d => .tuple [.str "that", d]) _ (same_trans s1X (same_trans sX2 s9)) ⟨upd_same, dta_app (LL.dt.keep (tups_same s9)) (DtAll.keep al2 (tups_same s9)), fun d hd => ?_, ?_⟩
    · rcases List.mem_append.mp hd with hd | hd
      · exact LL.th d hd
      · obtain ⟨e, he, rfl⟩ := List.mem_map.mp hd
        exact ths_side (.inr rfl) (L2.th e he)
    · rw [List.length_append, List.length_map, List.length_map]
      rw [List.length_map] at b1'
      omega
  | cond a b =>
    have d8' : max a.dp b.dp + 1 ≤ 8 := d8
    have dn' : max a.dp b.dp + 1 ≤ n + 1 := dn
    obtain ⟨p, x, y, rfl, hp, hx, hy⟩ := id hA
    refine ⟨_, rfl, p, _, 0, _, rfl, rfl, .inl (.inl (s1 _ _ hp)), head_at _ _, rfl, _, rfl, wdF (by decide +kernel) ?_⟩
    refine ⟨_, rfl, p, _, 0, _, rfl, rfl, .inl (.inl (s1 _ _ hp)), head_at _ _, rfl, _, rfl, wdF (by decide +kernel) ?_⟩
    refine ⟨_, rfl, p, _, 0, _, rfl, rfl, .inl (.inl (s1 _ _ hp)), head_at _ _, rfl, _, rfl, wdT rfl ?_⟩
    refine ⟨_, rfl, p, _, 1, _, rfl, rfl, .inl (.inl (s1 _ _ hp)), atI_nat (j := 1) rfl, x, a, rfl, hx.keep (tups_same s1), ok.1, ok.2.1, by omega, fun H2 s2 => ⟨_, rfl, ?_⟩⟩
    have s12 := same_trans s1 s2
    cases tr : a.tru with
    | false =>
      refine condT rfl ⟨_, rfl, p, _, 2, _, rfl, rfl, .inl (.inl (s12 _ _ hp)), atI_nat (j := 2) rfl, y, b, 0, rfl, hy.keep (tups_same s12), ok.2.2, by omega, by omega, by omega, fun u d H3 th hu s3 => ?_⟩
      refine ⟨(by decide : 1 ≤ sizeLine), fun l nl => ?_⟩
      have s9 := same_new (o := HO.lst [u]) nl
      exact q l [u] [d] _ (same_trans s12 (same_trans s3 s9)) ⟨upd_same, .cons (hu.keep (tups_same s9)) .nil, fun e he => by rw [List.mem_singleton.mp he]; exact th.up (by omega), by show 1 ≤ 2 ^ (n + 1); omega⟩
    | true =>
      exact condF rfl ⟨_, rfl, p, _, 2, _, rfl, rfl, .inl (.inl (s12 _ _ hp)), atI_nat (j := 2) rfl, _, rfl, y, b, rfl, hy.keep (tups_same s12), ok.2.2, by omega, by omega, by omega, fun l2 us2 ds2 H3 s3 L2 => q l2 _ _ H3 (same_trans s12 s3) (L2.up (by omega) (by omega))⟩
  | some a =>
    have d8' : a.dp + 1 ≤ 8 := d8
    have dn' : a.dp + 1 ≤ n + 1 := dn
    have oka : a.Ok 1 := ok
    have la := lk_of1 oka (by omega)
    obtain ⟨p, x, rfl, hp, hx⟩ := id hA
    refine ⟨_, rfl, p, _, 0, _, rfl, rfl, .inl (.inl (s1 _ _ hp)), head_at _ _, rfl, _, rfl, wdF (by decide +kernel) ?_⟩
    refine ⟨_, rfl, p, _, 0, _, rfl, rfl, .inl (.inl (s1 _ _ hp)), head_at _ _, rfl, _, rfl, wdF (by decide +kernel) ?_⟩
    refine ⟨_, rfl, p, _, 0, _, rfl, rfl, .inl (.inl (s1 _ _ hp)), head_at _ _, rfl, _, rfl, wdF (by decide +kernel) ?_⟩
    refine ⟨(by decide : 0 ≤ sizeLine), fun l0' nl0 => ?_⟩
    have s2 := same_trans s1 (same_new (o := HO.lst []) nl0)
    have LF0 : Lth K (n + 1) (2 ^ (n + 1)) (upd H1 l0' (.lst [])) l0' [] [] := ⟨upd_same, .nil, (fun _ h => nomatch h), Nat.zero_le _⟩
    generalize upd H1 l0' (.lst []) = H2 at s2 LF0 ⊢
    refine ⟨_, rfl, _, _, rfl, rfl, _, rfl, by decide, by decide, ?_⟩
    refine for_range (lo := 0) (n := 4) (fun i σ X => ∃ (lf : Addr) (us : List V) (ds : List PyData) (y4 y7 : Option V), σ = [some (.ref p), some (.int 3), none, none, y4, none, some (.ref lf), y7] ∧ Same H X ∧ Lth K (n + 1) (2 ^ (n + 1)) X lf us ds)
      ⟨l0', [], [], _, _, rfl, s2, LF0⟩ ?_ ?_
    · rintro i σ X hi ⟨lf, us, ds, y4, y7, rfl, sX, LF⟩
      have i4 : i < 4 := hi
      refine ⟨_, rfl, (by decide : 0 ≤ sizeLine), fun e1 ne1 => ?_⟩
      have s4 := same_new (o := HO.lst []) ne1
      obtain ⟨dp1, la1, de1⟩ := (LF.same s4).dp (by omega)
      refine ⟨.list ds, .list [], dp1, .lst (.inl (.inl upd_same)) .nil, la1, l0, de1, _, rfl, ?_⟩
      rw [eqv_nil]
      have s14 := same_trans sX s4
      have LF := LF.same s4
      generalize upd X e1 (.lst []) = X1 at s14 LF ⊢
      cases em : ds.isEmpty with
      | false => exact condF rfl ⟨lf, us, ds, _, _, rfl, s14, LF⟩
      | true =>
      refine condT rfl ?_
      refine ⟨_, rfl, p, _, 1, _, rfl, rfl, .inl (.inl (s14 _ _ hp)), atI_nat (j := 1) rfl, _, rfl, x, a.tr, Kf.kS, i, 0, by show [x, V.int (0 + (i : Int)), V.int 0] = _; rw [Int.zero_add]; rfl, hx.keep (tups_same s14), la.wf, lay_sy a, la.dp, by decide, fun u X2 s5 hu => ?_⟩
      have hu : At X2 (a.at i 0).tr u := by
        have z := chg_sy i a 0
        unfold putT at hu
        rw [z] at hu
        exact hu
      have s15 := same_trans s14 s5
      refine ⟨_, rfl, u, a.at i 0, rfl, hu, ok_at (s := a) (by omega) oka, by rw [dp_at]; omega, by rw [dp_at]; omega, by omega, fun ls us2 ds2 X3 s6 LS => ?_⟩
      have s16 := same_trans s15 s6
      have le2 := dps_len LS.dt
      refine ⟨_, rfl, ls, rfl, ⟨_, .inl (.inl LS.at_)⟩, fun D nD => ?_⟩
      have sD := same_new (o := HO.lst []) nD
      refine lc_list (K := K) (a := ls) (xs := us2) (fun j X' => ∃ vs es, X' D = some (.lst vs) ∧ Same X3 X' ∧ DtAll K X' vs es ∧ (∀ d ∈ es, Ths (n + 1) d) ∧ es.length = j) ⟨[], [], upd_same, sD, .nil, (fun _ h => nomatch h), rfl⟩ (fun j X' _ ⟨_, _, _, sX', _⟩ => .inl (.inl (sX' _ _ LS.at_))) ?_ ?_
      · rintro j u1' X' hu1 ⟨vs, es, hD, sX', al, ths, lj⟩
        obtain ⟨d1, hd1, dt1⟩ := dps_get LS.dt hu1
        have th1 := LS.th d1 (List.mem_of_getElem? hd1)
        have jl : j < us2.length := (List.getElem?_eq_some_iff.mp hu1).1
        have ll := LS.len
        have lv := dps_len al
        have sHX := same_trans s16 sX'
        refine ⟨rfl, ?_⟩
        refine ⟨_, rfl, p, _, 1, _, rfl, rfl, .inl (.inl (sHX _ _ hp)), atI_nat (j := 1) rfl, x, a, 1, rfl, hx.keep (tups_same sHX), oka, by omega, by omega, fun X4 s7 => ⟨_, rfl, ?_⟩⟩
        cases fa : a.flat with
        | true =>
          have hD4 := s7 _ _ hD
          refine condT rfl ⟨_, rfl, _, hD4, few_of' (by omega), vs ++ [_], es ++ [.int (0 + (i : Int))], upd_same, same_up (same_trans sX' s7) nD, dps_app ((al.keep (tups_same s7)).keep (tups_lst hD4)) (.cons (.int _) .nil), fun d hd => ?_, by rw [List.length_append, lj]; rfl⟩
          rcases List.mem_append.mp hd with hd | hd
          · exact ths d hd
          · rw [List.mem_singleton.mp hd]
            exact ths_int _ (by omega) (by omega)
        | false =>
          refine condF rfl ⟨_, rfl, _, rfl, (by decide : 2 ≤ sizeLine), fun t nt => ?_⟩
          have s8 := same_trans s7 (same_new (o := HO.tup [.int (0 + (i : Int)), u1']) nt)
          have hD4 := s8 _ _ hD
          have ht : Dt K (upd X4 t (.tup [.int (0 + (i : Int)), u1'])) (.ref t) (.tuple [.int (0 + (i : Int)), d1]) := dt2 upd_same (.int _) ((Dt.keep dt1 (tups_same sX')).keep (tups_same s8))
          refine ⟨_, hD4, few_of' (by omega), vs ++ [.ref t], es ++ [.tuple [.int (0 + (i : Int)), d1]], upd_same, same_up (same_trans sX' s8) nD, dta_app (DtAll.keep (DtAll.keep al (tups_same s8)) (tups_lst hD4)) (dta_one (Dt.keep ht (tups_lst hD4))), fun d hd => ?_, by rw [List.length_append, lj]; rfl⟩
          rcases List.mem_append.mp hd with hd | hd
          · exact ths d hd
          · rw [List.mem_singleton.mp hd]
            exact ths_pair (ths_int n (by omega) (by omega)) th1
      · rintro X' ⟨vs, es, hD, sX', al, ths, lj⟩
        have ll := LS.len
        exact ⟨D, vs, es, _, _, rfl, same_trans s16 sX', hD, al, ths, by omega⟩
    · rintro σ X ⟨lf, us, ds, y4, y7, rfl, sX, LF⟩
      exact ⟨_, rfl, q lf us ds X sX LF⟩
theorem ok_sos (F : Fun K "_law_sought" "_law_sought" sSo f fd) (zRange : mg "range" = none) (GF : FnOk P w K mg base CX0 10 ff df ["saying"] spLF) (bF : Binds K df ["saying"] []) (kF : PySem.W.keepIn K (.ref ff) = true) (mF : mg "_law_is_flat" = some (.ref ff))
    (GT : FnOk P w K mg base CX0 11 ft dt ["saying"] (spTr 8)) (bT : Binds K dt ["saying"] []) (kT : PySem.W.keepIn K (.ref ft) = true) (mT : mg "_law_true" = some (.ref ft))
    (GL : FnOk P w K mg base CX0 18 fl_ dl ["saying"] (spLe K 8)) (bL : Binds K dl ["saying"] []) (kL : PySem.W.keepIn K (.ref fl_) = true) (mL : mg "_law_least" = some (.ref fl_))
    (GA : FnOk P w K mg base CX0 11 fa da ["thing", "number", "around"] (spAt 10)) (bA : Binds K da ["thing", "number", "around"] []) (kA : PySem.W.keepIn K (.ref fa) = true) (mA : mg "_law_at" = some (.ref fa)) (bS : Binds K fd ["saying", "bound"] []) (mS : mg "_law_sought" = some (.ref f)) : ∀ n : Nat, FnOk P w K mg base CX0 (18 + n) f fd ["saying", "bound"] (spSo K n)
  | 0 => no_calls fun vs H Q E h => by
    obtain ⟨_, s, _, _, _, _, n1, _⟩ := h
    cases s <;> simp [Sy.dp] at n1
  | n + 1 => ok_so F zRange GF bF kF mF GT bT kT mT GL bL kL mL GA bA kA mA (ok_sos F zRange GF bF kF mF GT bT kT mT GL bL kL mL GA bA kA mA bS mS n) bS mS
end
end Kf
set_option Elab.async false
set_option linter.all false
set_option maxRecDepth 100000
set_option maxHeartbeats 4000000
set_option pp.maxSteps 1200
/-! A tuple from behind: t[::-1]. -/
namespace Kf
open PySem PySem.Spec PyProof.Rows L2 Sx
section
variable {prog : Program} {w : World} {A : Around} {E : Value → Shared → Prop} {s : Shared}
theorem places_rev (n : Nat) : Builtin.Slice.slicePlaces ((n : Int) - 1) (-1) (-1) = n := by
  unfold Builtin.Slice.slicePlaces
  have h1 : ¬ ((-1 : Int) > 0) := by decide
  rw [if_neg h1]
  by_cases h : (n : Int) - 1 > -1
  · rw [if_pos h, show (- -1 : Int) = 1 by decide, Int.ediv_one]
    omega
  · rw [if_neg h]
    omega
theorem sliceApplied_rev {sl : Addr} {vs : Value} {n : Nat} {Q : Int × Int × Nat → Shared → Prop} (hs : s.heap.IsSliceOf sl .none .none vs) (ps : IsPart vs (some (-1)))
    (h : Q ((n : Int) - 1, -1, n) s) : wpAny (model prog w) A (Builtin.Slice.sliceApplied (.ref sl) (pure (n : Int))) Q E s := by
  obtain ⟨os, hos, hcs, hds⟩ := id hs
  unfold Builtin.Slice.sliceApplied Builtin.Slice.sliceFields
  refine wpAny_bind (wpAny_bind (wpAny_field hos hds (x := .none) rfl (wpAny_bind (wpAny_field hos hds (x := .none) rfl (wpAny_bind (wpAny_field hos hds (x := vs) rfl (wpAny_pure ?_)))))))
  refine wpAny_bind (HT.slicePart_ ps ?_)
  show wpAny _ _ (if ((-1 : Int) == 0) = true then _ else _) _ _ s
  rw [if_neg (by decide)]
  refine wpAny_bind (HT.slicePart_ .none (wpAny_bind (HT.slicePart_ .none (wpAny_bind (wpAny_pure ?_)))))
  show wpAny _ _ (pure (((n : Int) - 1), (-1 : Int), Builtin.Slice.slicePlaces ((n : Int) - 1) (-1) (-1))) _ _ s
  rw [places_rev]
  exact wpAny_pure h
theorem fm_congr {α β : Type} {f g : α → Option β} : ∀ l : List α, (∀ x ∈ l, f x = g x) → l.filterMap f = l.filterMap g
  | [], _ => rfl
  | a :: l, h => by
    rw [List.filterMap_cons, List.filterMap_cons, h a List.mem_cons_self, fm_congr l fun x hx => h x (List.mem_cons_of_mem _ hx)]
theorem pick_rev (xs : Array Value) : ((List.range xs.size).filterMap fun (m : Nat) => xs[((xs.size : Int) - 1 + (m : Int) * (-1)).toNat]?).toArray = xs.toList.reverse.toArray := by
  have k := PySem.W.krv_pick xs
  rw [← k]
  unfold slicePick
  rw [PySem.W.krv_bounds]
  show _ = ((sliceRange ((xs.size : Int) - 1) (-1) (-1)).filterMap (xs[·]?)).toArray
  rw [PySem.W.krv_sliceRange, List.filterMap_map]
  congr 1
  refine fm_congr _ fun m hm => ?_
  have lt := List.mem_range.mp hm
  show xs[((xs.size : Int) - 1 + (m : Int) * (-1)).toNat]? = xs[xs.size - 1 - m]?
  rw [show ((xs.size : Int) - 1 + (m : Int) * (-1)).toNat = xs.size - 1 - m by omega]
theorem getItem_tuple_rev {t sl : Addr} {items : Array Value} {vs : Value} {Q : Value → Shared → Prop} (ht : IsTup s.heap t items) (hs : s.heap.IsSliceOf sl .none .none vs) (ps : IsPart vs (some (-1)))
    (h : Q (.ref s.heap.objs.size) { s with heap := s.heap.push { cls := .type "tuple", data := .seq items.toList.reverse.toArray } }) (hsz : items.size ≤ sizeLine) : wpAny (model prog w) A (getItem (.ref t) (.ref sl)) Q E s := by
  have htake : sizeOk (.seq items.toList.reverse.toArray) := by
    show items.toList.reverse.toArray.size ≤ sizeLine
    rw [List.size_toArray, List.length_reverse, Array.length_toList]
    exact hsz
  obtain ⟨os, hos, hcs, hds⟩ := id hs
  have hTs : s.TypeIs (.ref sl) "slice" := ⟨os, hos, hcs⟩
  unfold getItem
  try with_reducible refine wpAny_holding ?_
  first | refine wpAny_bind (wpAny_pure ?_) | skip
  refine wpAny_bind (wpAny_sequenceKey ht.typeIs (by decide) ?_)
  refine wpAny_bind (wpAny_callSpecial?_slot (name := Str.ofString "__getitem__") ht.typeIs PyProof.Rows.slot_tuple_getitem
    (wpAny_call_entry PyProof.Rows.slot_tuple_getitem ht.typeIs entry_tuple_getitem ?_ (args_tuple_getitem _ _)))
  show wpAny _ _ (Builtin.Tuple.tupleItemsOf (.ref t) >>= _) _ _ s
  refine wpAny_bind (tupleItemsOf_ ht ?_)
  refine wpAny_bind (wpAny_typeOf hTs ?_)
  rw [if_pos (by decide)]
  refine wpAny_bind (sliceApplied_rev hs ps ?_)
  have hno : ¬ ((((items.size : Int) - 1) == 0 && (-1 : Int) == 1 && items.size == items.size) = true) := by
    rw [show ((-1 : Int) == 1) = false by decide, Bool.and_false, Bool.false_and]
    exact Bool.false_ne_true
  show wpAny _ _ (if (((items.size : Int) - 1) == 0 && (-1 : Int) == 1 && items.size == items.size) = true then _ else _) _ _ s
  rw [if_neg hno, pick_rev]
  first
    | exact wpAny_bind (m := Builtin.Tuple.tupleExact _) (wpAny_newObj_type (wpAny_pure ⟨_, rfl, wpAny_pure h⟩) htake)
    | exact wpAny_bind (m := Builtin.Tuple.tupleExact _) (wpAny_newObj_type (wpAny_bind (wpAny_pure (wpAny_pure ⟨_, rfl, wpAny_pure h⟩))) htake)
    | exact wpAny_bind (wpAny_bind (m := Builtin.Tuple.tupleExact _) (wpAny_newObj_type (wpAny_pure (wpAny_pure ⟨_, rfl, wpAny_pure h⟩)) htake))
    | exact wpAny_bind (wpAny_bind (m := Builtin.Tuple.tupleExact _) (wpAny_newObj_type (wpAny_pure ⟨_, rfl, wpAny_pure h⟩) htake))
end
section
variable {X : Cx}
def tRevT (K : PySem.W.Frag) (te : TE) : TE := fun σ H Q => te σ H fun x H1 => ∃ a xs, x = .ref a ∧ SqT K H1 a xs ∧ ∀ p, H1 p = none → Q (.ref p) (upd H1 p (.tup xs.reverse))
theorem pe_revT {e : Expr} {te : TE} {k : Nat} {p1 p2 p3 pos : Pos} (he : PE X e te) : PE X (.Subscript e (.Slice none none (some (.UnaryOp .USub (.Constant (.int 1) k p1) p2)) p3) pos) (tRevT X.K te) := by
  refine ⟨fun pins s σ H Q I h => ?_⟩
  refine Subscript_ (thn (he.run pins s σ H _ I h) fun v s1 ⟨x, H1, I1, r1, q1⟩ => ?_)
  obtain ⟨a, xs, ex, hx, q⟩ := q1
  subst ex
  cases r1
  have hst : PO X (some (.UnaryOp .USub (.Constant (.int 1) k p1) p2)) (tPart (tUn (rU fun i => .int (-i)) (tC (.int 1)))) := po_some (pe_un un_neg pe_int)
  refine wpAny_Slice (thn (po_none.run pins s1 σ H1 (fun o H2 => o = none ∧ H2 = H1) I1 ⟨rfl, rfl⟩) fun vl s2 ⟨l, H2, I2, pl, el, e2⟩ => ?_)
  subst el e2
  refine thn (po_none.run pins s2 σ H2 (fun o H3 => o = none ∧ H3 = H2) I2 ⟨rfl, rfl⟩) fun vu s3 ⟨u, H3, I3, pu, eu, e3⟩ => ?_
  subst eu e3
  refine thn (hst.run pins s3 σ H3 (fun o H4 => o = some (-1) ∧ H4 = H3) I3 ⟨1, rfl, -1, rfl, rfl, rfl⟩) fun vs s4 ⟨o, H4, I4, ps, eo, e4⟩ => ?_
  subst eo e4
  have I5 : Inv X pins σ H4 { s4 with heap := s4.heap.push { cls := .type "slice", data := .fields #[vl, vu, vs] } } := I4.kept (t' := s4.toks) fun b ob q => Heap.get?_push_of_some _ q
  obtain ⟨its, r, ht, hz⟩ := I5.tuple hx
  have hlen := r.length
  cases pl
  cases pu
  show wpAny (model X.prog X.w) X.A (subscriptTail e (.Slice none none (some (.UnaryOp .USub (.Constant (.int 1) k p1) p2)) p3) (.ref a) (.ref s4.heap.objs.size)) (EP X pins σ Q) X.xe { s4 with heap := s4.heap.push { cls := .type "slice", data := .fields #[.none, .none, vs] } }
  refine tail_any (ops := [.ref a, .ref s4.heap.objs.size]) ht.typeIs (PySem.F.slot_tuple_getitem.lookup) ?_ (by with_unfolding_all rfl)
  refine getItem_tuple_rev ht (Heap.IsSliceOf.new _ .none .none vs) ps ?_ (by rw [List.size_toArray]; omega)
  refine ⟨.ref _, _, I5.laid (t' := s4.toks) (o := .tup xs.reverse) (fun b ob q => Heap.get?_push_of_some _ q) (Nat.le_refl _) ?_, rfl, q _ (I5.hok.fresh (Nat.le_refl _))⟩
  exact ⟨by rw [List.length_reverse]; exact hz, _, r.reverse, IsTup.new _ _⟩
end
end Kf
set_option Elab.async false
set_option linter.all false
set_option maxRecDepth 100000
set_option maxHeartbeats 8000000
set_option pp.maxSteps 500
/-! Things bent by the law. -/
namespace Kf
open PySem PySem.Spec PyProof.Rows L2 Sx
abbrev sFa : Stmt := top 53
abbrev faN : List Str := ["found", "turn"]
theorem scFa : FnScope faN [] (defScope sFa) := ⟨rfl, rfl, rfl, by decide +kernel, rfl, by decide +kernel, by decide +kernel⟩
abbrev sBn : Stmt := top 54
abbrev bnN : List Str := ["feed", "thing", "way", "some", "at"]
theorem scBn : FnScope bnN ["feed", "thing"] (defScope sBn) := ⟨rfl, rfl, rfl, by decide +kernel, rfl, by decide +kernel, by decide +kernel⟩
def farD : Nat → PyData
  | 0 => .tuple []
  | n + 1 => .tuple [farD n]
structure Bt (m k : Nat) (e : PyData) : Prop where
  ats : ats e = true
  sml : sml e = true
  sz : psz e ≤ m
  dp : e.depth ≤ k
theorem bt_c {m k : Nat} {e : PyData} (a : Kf.ats e = true) (b : Kf.sml e = true) (c : psz e ≤ 400) (d : e.depth ≤ 310) : Bt (2 * m + 400) (k + 310) e := ⟨a, b, by omega, by omega⟩
theorem far_all : ∀ n, Kf.ats (farD n) = true ∧ Kf.sml (farD n) = true ∧ psz (farD n) = n + 1 ∧ (farD n).depth = n + 1
  | 0 => ⟨rfl, rfl, rfl, rfl⟩
  | n + 1 => by
    obtain ⟨a, b, c, d⟩ := far_all n
    refine ⟨?_, ?_, ?_, ?_⟩
    · show (Kf.ats (farD n) && true) = true
      rw [a]; rfl
    · show (Kf.sml (farD n) && true) = true
      rw [b]; rfl
    · show 1 + (psz (farD n) + 0) = n + 1 + 1
      omega
    · show max (farD n).depth 0 + 1 = n + 1 + 1
      omega
theorem far_bt {m k : Nat} : Bt (2 * m + 400) (k + 310) (farD 299) := by
  obtain ⟨a, b, c, d⟩ := far_all 299
  exact bt_c a b (by omega) (by omega)
theorem ls_but {H H' : Hp} {f : Addr} {Z : List Addr} (hF : FeedAt H' f) (b : But f H H') (h : LS H Z) : LS H' Z := fun a ha => by
  by_cases e : a = f
  · obtain ⟨x, y, e2, _⟩ := hF
    rw [e]
    exact ⟨_, e2⟩
  · obtain ⟨xs, e2⟩ := h a ha
    exact ⟨xs, b _ _ e e2⟩
theorem lsf {H : Hp} {f : Addr} (h : FeedAt H f) : LS H [f] := fun a ha => by
  rw [List.mem_singleton.mp ha]
  obtain ⟨x, y, e, _⟩ := h
  exact ⟨_, e⟩
theorem nf {f c : Addr} (h : c ≠ f) : c ∉ [f] := fun z => h (List.mem_singleton.mp z)
section
variable {P : Program} {w : World} {K : PySem.W.Frag} {mg : Str → Option Value} {base : Heap} {ft fp : Addr} {dt dp : FuncData}
theorem df_dt {H : Hp} {Z : List Addr} {v : V} {d : PyData} (h : LS H Z) (hv : Dt K H v d) : Df K Z H v d := dp_up (fun c o e => by
  obtain ⟨xs, rfl, e2⟩ := tups_is e
  have n : c ∉ Z := fun z => by
    obtain ⟨ys, e3⟩ := h c z
    rw [e3] at e2
    cases e2
  rw [delS_ne n]
  exact e2) _ _ hv
theorem dfs_dt {H : Hp} {Z : List Addr} {vs : List V} {ds : List PyData} (h : LS H Z) (hv : DtAll K H vs ds) : DfAll K Z H vs ds := dps_up (fun c o e => by
  obtain ⟨xs, rfl, e2⟩ := tups_is e
  have n : c ∉ Z := fun z => by
    obtain ⟨ys, e3⟩ := h c z
    rw [e3] at e2
    cases e2
  rw [delS_ne n]
  exact e2) _ _ hv
/-! ### _law_far -/
def spFa (K : PySem.W.Frag) : Sp := fun vs H Q _ => vs = [] ∧ ∀ u H', Dt K H' u (farD 299) → Same H H' → Q u H'
theorem ok_fa {f : Addr} {fd : FuncData} (F : Fun K "_law_far" "_law_far" sFa f fd) (zRange : mg "range" = none) : FnOk P w K mg base CX0 1 f fd [] (spFa K) := by
  refine F.ok scFa (fun vs H Q E h => ?_) (fun cdv A outer s0 H vs Q E hr h => ?_)
  · obtain ⟨rfl, _⟩ := h
    rfl
  obtain ⟨rfl, q⟩ := h
  refine ⟨_, (pss_cons (ps_set (i := 0) scFa.nd rfl (.inl rfl) (pe_tup pa_nil))
    (pss_cons (ps_for PassesOwn.never rfl (pi_range1 (by rfl) zRange (pa_cons pe_int pa_nil)) (pg_name (i := 1) scFa.nd rfl (.inl rfl)) (pss_one (ps_set (i := 0) scFa.nd rfl (.inl rfl) (pe_tup (pa_cons (pv 0) pa_nil)))))
    (pss_one (ps_ret (pv 0))))), ?_⟩
  refine ⟨(by decide : 0 ≤ sizeLine), fun c nc => ?_⟩
  have s1 := same_new (o := HO.tup []) nc
  have h0 : Dt K (upd H c (.tup [])) (.ref c) (farD 0) := dt_tup upd_same .nil
  generalize upd H c (.tup []) = H1 at s1 h0 ⊢
  refine ⟨_, rfl, by decide, by decide, ?_⟩
  refine for_range (lo := 0) (n := 299) (fun i σ X => ∃ (u : V) (y1 : Option V), σ = [some u, y1] ∧ Same H X ∧ Dt K X u (farD i)) ⟨_, _, rfl, s1, h0⟩ ?_ ?_
  · rintro i σ X hi ⟨u, y1, rfl, sX, hu⟩
    refine ⟨_, rfl, (by decide : 1 ≤ sizeLine), fun c2 nc2 => ?_⟩
    have s2 := same_new (o := HO.tup [u]) nc2
    exact ⟨_, _, rfl, same_trans sX s2, dt_tup upd_same (.cons (hu.keep (tups_same s2)) .nil)⟩
  · rintro σ X ⟨u, y1, rfl, sX, hu⟩
    exact ⟨_, rfl, q u X hu sX⟩
/-! ### _law_bent -/
theorem sl_out {x : V} {a : Addr} {xs : List V} {lo hi : Option Int} {H : Hp} {Q : VK} (ex : x = .ref a) (h : SqT K H a xs) (q : ∀ b H', Same H H' → SqT K H' b (cutV xs lo hi) → Q (.ref b) H') : rSlA K x lo hi H Q :=
  ⟨a, xs, ex, h, fun hw => q a H (fun _ _ e => e) (by
    have e : cutV xs lo hi = xs := by
      unfold cutV
      rw [hw.1, hw.2]
      simp
    rw [e]
    exact h), fun _ p np => q p _ (same_new np) (.inl (.inl upd_same))⟩
theorem cat_out {x y : V} {a b : Addr} {xs ys : List V} {H : Hp} {Q : VK} (ex : x = .ref a) (ey : y = .ref b) (ha : SqT K H a xs) (hb : SqT K H b ys) (hl : xs.length + ys.length ≤ sizeLine) (q : ∀ c H', Same H H' → SqT K H' c (xs ++ ys) → Q (.ref c) H') : rCatA K x y H Q :=
  ⟨a, b, xs, ys, ex, ey, ha, hb, hl, fun e => by subst e; exact q b H (fun _ _ e => e) hb, fun _ e => by subst e; exact q a H (fun _ _ e => e) (by rw [List.append_nil]; exact ha), fun _ _ p np => q p _ (same_new np) (.inl (.inl upd_same))⟩
theorem sq_but {f a : Addr} {xs : List V} {H H' : Hp} (hF : FeedAt H f) (b : But f H H') (h : SqT K H a xs) : SqT K H' a xs := by
  obtain ⟨x, y, e, _⟩ := hF
  rcases h with (h | ⟨o, h⟩) | h
  · exact .inl (.inl (b _ _ (ne_of h e (by intro z; cases z)) h))
  · exact .inl (.inr ⟨o, b _ _ (ne_of h e (by intro z; cases z)) h⟩)
  · exact .inr h
theorem al_same {Z : List Addr} {X X' : Hp} {xs : List V} {m k : Nat} (s : Same X X') (h : ∀ x ∈ xs, ∃ e, Df K Z X x e ∧ Bt m k e) : ∀ x ∈ xs, ∃ e, Df K Z X' x e ∧ Bt m k e := fun x mx => by
  obtain ⟨e, he, bt⟩ := h x mx
  exact ⟨e, Df.same s he, bt⟩
theorem prs_two {ds : List PyData} (h : prs (.tuple ds) = true) : ∃ x y, ds = [x, y] ∧ (isS x = true ∨ prs x = true) ∧ prs y = true := by
  match ds, h with
  | [x, y], h =>
    have h : ((isS x || prs x) && prs y) = true := h
    rw [Bool.and_eq_true, Bool.or_eq_true] at h
    exact ⟨x, y, rfl, h.1, h.2⟩
  | [], h => cases h
  | [_], h => cases h
  | _ :: _ :: _ :: _, h => cases h
/-- what may be bent -/
structure Bn (d : PyData) : Prop where
  ats : ats d = true
  sml : sml d = true
  prs : prs d = true
def spBn (K : PySem.W.Frag) (n : Nat) : Sp := fun vs H Q _ => ∃ (Z : List Addr) (f : Addr) (v : V) (d : PyData), vs = [.ref f, v] ∧ f ∈ Z ∧ LS H Z ∧ Bn d ∧ d.depth + 1 ≤ n ∧ Dt K H v d ∧ FeedAt H f ∧ ∀ u e H', Bt (2 * psz d + 400) (d.depth + 310) e → Df K Z H' u e → But f H H' → FeedAt H' f → Q u H'
theorem ok_bn {n : Nat} {g gf : Addr} {gd df : FuncData} (F : Fun K "_law_bent" "_law_bent" sBn g gd) (ZZ : ZA mg) (zList : mg "list" = none) (D : Draw P w K mg base ft fp dt dp) (GFa : FnOk P w K mg base CX0 1 gf df [] (spFa K)) (bFa : Binds K df [] []) (kFa : PySem.W.keepIn K (.ref gf) = true) (mFa : mg "_law_far" = some (.ref gf))
    (S : FnOk P w K mg base CX0 (2 + n) g gd ["feed", "thing"] (spBn K n)) (bS : Binds K gd ["feed", "thing"] []) (mS : mg "_law_bent" = some (.ref g)) : FnOk P w K mg base CX0 (2 + n + 1) g gd ["feed", "thing"] (spBn K (n + 1)) := by
  refine F.ok scBn (fun vs H Q E h => ?_) (fun cdv Ar outer s0 H vs Q E hr h => ?_)
  · obtain ⟨Z, f, v, d, rfl, _⟩ := h
    rfl
  have h2 : Room 2 _ := hr.mono (by omega)
  have h1 : Room 1 _ := hr.mono (by omega)
  obtain ⟨Z, f, v, d, rfl, fZ, hZ0, bn, dn, hv, hF0, q⟩ := h
  refine ⟨_, (pss_cons (ps_set (i := 2) scBn.nd rfl (.inl rfl) (pe_call D.T h1 (by rfl) D.mT D.kT D.bT .nil pass0 (pa_cons (pv 0) (pa_cons pe_int pa_nil))))
    (pss_cons (ps_if (PW.pt (pw_or (pt_not (pt_val (pe_callB (id := "isinstance") (r := rIsi K) call_isi (by rfl) ZZ.zIsinstance (by decide +kernel) (pa_cons (pv 1) (pa_cons (pe_bltn (v := .ty "tuple") (by rfl) ZZ.zTuple (by decide +kernel) rfl) pa_nil))))) (pw_or1 (pt_cmpR op_eq (pv 2) pe_int (nomark _))))) (pss_cons (ps_set (i := 3) scBn.nd rfl (.inl rfl) (pe_lst (pa_cons pe_non (pa_cons pe_int (pa_cons pe_int (pa_cons pe_int (pa_cons pe_bl (pa_cons pe_bl (pa_cons (pe_un un_neg pe_int) (pa_cons pe_str (pa_cons (pe_tup pa_nil) (pa_cons (pe_lst pa_nil) (pa_cons (pe_tup (pa_cons pe_int (pa_cons pe_non pa_nil))) (pa_cons (pe_tup (pa_cons pe_str (pa_cons pe_non pa_nil))) (pa_cons (pe_tup (pa_cons pe_str (pa_cons pe_non pa_nil))) pa_nil)))))))))))))))
    (pss_cons (ps_set (i := 3) scBn.nd rfl (.inl rfl) (pe_op op_cat (pv 3) (pe_lst (pa_cons (pe_tup (pa_cons pe_str (pa_cons pe_int pa_nil))) (pa_cons (pe_op op_pow pe_int pe_int) (pa_cons (pe_tup (pa_cons (pe_lst pa_nil) (pa_cons pe_non pa_nil))) (pa_cons (pe_tup (pa_cons (pe_lst (pa_cons pe_str pa_nil)) (pa_cons pe_non pa_nil))) (pa_cons (pe_call0 GFa h1 (by rfl) mFa kFa bFa .nil pass0) pa_nil))))))))
    (pss_cons (ps_if (pt_val (pe_callB (id := "isinstance") (r := rIsi K) call_isi (by rfl) ZZ.zIsinstance (by decide +kernel) (pa_cons (pv 1) (pa_cons (pe_bltn (v := .ty "tuple") (by rfl) ZZ.zTuple (by decide +kernel) rfl) pa_nil)))) (pss_one (ps_set (i := 3) scBn.nd rfl (.inl rfl) (pe_op op_cat (pv 3) (pe_lst (pa_cons (pe_callTy call_list_of (by rfl) zList (by decide +kernel) (pa_cons (pv 1) pa_nil)) (pa_cons (pe_slice sl_tupA (pv 1) po_none (po_some (pe_un un_neg pe_int))) (pa_cons (pe_op op_catA (pv 1) (pe_tup (pa_cons pe_non pa_nil))) (pa_cons (pe_revT (pv 1)) (pa_cons (pe_ix ix_tup (pv 1) (pe_un un_neg pe_int) (fun _ _ => rfl)) (pa_cons (pe_tup (pa_cons (pv 1) pa_nil)) pa_nil)))))))))) pss_nil)
    (pss_one (ps_ret (pe_call D.Pk h2 (by rfl) D.mP D.kP D.bP .nil pass0 (pa_cons (pv 0) (pa_cons (pv 3) pa_nil)))))))) pss_nil)
    (pss_cons (ps_set (i := 4) scBn.nd rfl (.inl rfl) (pe_call D.T h1 (by rfl) D.mT D.kT D.bT .nil pass0 (pa_cons (pv 0) (pa_cons (pe_callB call_len_seq (by rfl) ZZ.zLen PySem.boot_len (pa_cons (pv 1) pa_nil)) pa_nil))))
    (pss_cons (ps_if (pt_val (pe_callB (id := "isinstance") (r := rIsi K) call_isi (by rfl) ZZ.zIsinstance (by decide +kernel) (pa_cons (pe_ix ix_tup (pv 1) (pv 4) (fun _ _ => rfl)) (pa_cons (pe_bltn (v := .ty "str") (by rfl) ZZ.zStr (by decide +kernel) rfl) pa_nil)))) (pss_one (ps_ret (pe_op op_catA (pe_op op_catA (pe_slice sl_tupA (pv 1) po_none (po_some (pv 4))) (pe_tup (pa_cons (pe_call D.Pk h2 (by rfl) D.mP D.kP D.bP .nil pass0 (pa_cons (pv 0) (pa_cons (pe_lst (pa_cons pe_str (pa_cons pe_str (pa_cons pe_str (pa_cons pe_str pa_nil))))) pa_nil))) pa_nil))) (pe_slice sl_tupA (pv 1) (po_some (pe_op op_add (pv 4) pe_int)) po_none)))) pss_nil)
    (pss_one (ps_ret (pe_op op_catA (pe_op op_catA (pe_slice sl_tupA (pv 1) po_none (po_some (pv 4))) (pe_tup (pa_cons (pe_call S hr (by rfl) mS F.kp bS .nil pass0 (pa_cons (pv 0) (pa_cons (pe_ix ix_tup (pv 1) (pv 4) (fun _ _ => rfl)) pa_nil))) pa_nil))) (pe_slice sl_tupA (pv 1) (po_some (pe_op op_add (pv 4) pe_int)) po_none)))))))), ?_⟩
  refine ⟨_, rfl, f, 6, rfl, by decide, by decide, hF0, fun way H1 w0 w1 bb hF => ?_⟩
  have hv1 : Dt K H1 v d := hv.keep (hF0.tups bb)
  have hZ := ls_but hF bb hZ0
  have pick : ∀ (X : Hp) (l : Addr) (xs : List V), FeedAt X f → But f H X → X l = some (.lst xs) → l ≠ f → 0 < xs.length → xs.length ≤ 1000 → (∀ x ∈ xs, ∃ e, Df K Z X x e ∧ Bt (2 * psz d + 400) (d.depth + 310) e) → spPick K [.ref f, .ref l] X Q L2.E0 := fun X l xs hX bX el nl l0 l1 al =>
    ⟨f, l, xs, rfl, nl, .inl (.inl el), l0, l1, hX, fun x mx X' b' hX' => by
      obtain ⟨e, he, bt⟩ := al x mx
      exact q x e X' bt (Df.but fZ b' he) (bX.trans b') hX'⟩
  apply join (C := fun X => X = H1)
  · intro menu
    refine ⟨_, rfl, _, _, _, _, isTu d, rfl, .ty "tuple", dp_ty hv1.dp, kit_tu d, _, rfl, ?_⟩
    cases tu : isTu d with
    | false => exact condT rfl (condT rfl (menu H1 rfl))
    | true =>
      refine condF rfl ⟨_, rfl, rfl, _, rfl, ?_⟩
      refine ite2 (fun _ => menu H1 rfl) (fun _ => ?_)
      obtain ⟨ds, rfl⟩ : ∃ ds, d = .tuple ds := by
        cases d with
        | tuple ds => exact ⟨ds, rfl⟩
        | _ => cases tu
      obtain ⟨dx, dy, rfl, px, py⟩ := prs_two bn.prs
      obtain ⟨p, xs, rfl, hs, hxx⟩ := Dt.view hv1
      cases hxx with
      | @cons x _ _ _ hx hxx =>
      cases hxx with
      | @cons y _ _ _ hy hxx =>
      cases hxx
      have hx : Dt K H1 x dx := hx
      have hy : Dt K H1 y dy := hy
      have atx : ats dx = true ∧ ats dy = true := by
        have z : (ats dx && (ats dy && true)) = true := bn.ats
        rw [Bool.and_true, Bool.and_eq_true] at z
        exact z
      have smx : sml dx = true ∧ sml dy = true := by
        have z : (sml dx && (sml dy && true)) = true := bn.sml
        rw [Bool.and_true, Bool.and_eq_true] at z
        exact z
      have dpe : (PyData.tuple [dx, dy]).depth = max dx.depth (max dy.depth 0) + 1 := rfl
      have pse : psz (.tuple [dx, dy]) = 1 + (psz dx + (psz dy + 0)) := rfl
      refine ⟨_, rfl, _, rfl, p, _, rfl, .inr hs, f, _, rfl, (by show (0 : Int) < 2; decide), (by show (2 : Int).natAbs < 2 ^ 200; decide), hF, fun k H2 k0 k1 b2 hF2 => ?_⟩
      have bb2 := bb.trans b2
      have hZ2 := ls_but hF2 b2 hZ
      have hs2 := sq_but hF b2 hs
      have hx := hx.keep (hF.tups b2)
      have hy := hy.keep (hF.tups b2)
      have kk : k = 0 ∨ k = 1 := by
        have k1 : k < 2 := k1
        omega
      rcases kk with rfl | rfl
      · have ct : cutV [x, y] none (some 0) = [] := rfl
        have cf : cutV [x, y] (some (0 + 1)) none = [y] := rfl
        refine ⟨_, rfl, _, rfl, p, _, _, x, rfl, rfl, hs2, rfl, _, _, _, _, isS dx, rfl, .ty "str", dp_ty hx.dp, kit_s _, _, rfl, ?_⟩
        cases st : isS dx with
        | true =>
          refine condT rfl ⟨_, rfl, _, rfl, _, rfl, ?_⟩
          refine sl_out (lo := none) (hi := some 0) rfl hs2 fun a1 X1 t1 q1 => ?_
          refine ⟨_, rfl, (by decide : 4 ≤ sizeLine), fun lw nlw => ?_⟩
          have t2 := same_new (o := HO.lst [.str "this", .str "that", .str "these", .str ""]) nlw
          have hF3 := (hF2.same t1).same t2
          have hZ3 := LS.same (LS.same hZ2 t1) t2
          refine ⟨f, lw, _, rfl, (hF2.same t1).ne nlw, .inl (.inl upd_same), by decide, by decide, hF3, fun z mz X3 b3 hF4 => ?_⟩
          obtain ⟨w, rfl, wa⟩ : ∃ w : Str, z = .str w ∧ (ats (.str w) = true) := by
            rcases List.mem_cons.mp mz with rfl | mz
            · exact ⟨_, rfl, by decide +kernel⟩
            rcases List.mem_cons.mp mz with rfl | mz
            · exact ⟨_, rfl, by decide +kernel⟩
            rcases List.mem_cons.mp mz with rfl | mz
            · exact ⟨_, rfl, by decide +kernel⟩
            · exact ⟨_, List.mem_singleton.mp mz, by decide +kernel⟩
          have tt : Tups H2 X3 := ((tups_same t1).trans (tups_same t2)).trans (hF3.tups b3)
          have q1 : SqT K X3 a1 [] := by rw [← ct]; exact sq_but hF3 b3 (sqT_up t2 q1)
          have hs4 := sq_but hF3 b3 (sqT_up t2 (sqT_up t1 hs2))
          have b4 := (((bb2.trans (but_same (f := f) t1)).trans (but_same t2)).trans b3)
          refine ⟨(by decide : 1 ≤ sizeLine), fun a2 na2 => ?_⟩
          have t5 := same_new (o := HO.tup [.str w]) na2
          refine cat_out rfl rfl (sqT_up t5 q1) (.inl (.inl upd_same)) (by decide : 0 + 1 ≤ sizeLine) fun a3 X4 t6 q3 => ?_
          have t56 := same_trans t5 t6
          refine ⟨_, rfl, _, rfl, _, _, rfl, rfl, _, rfl, ?_⟩
          dsimp only [tNoPart]
          refine sl_out (lo := some (0 + 1)) (hi := none) rfl (sqT_up t56 hs4) fun a4 X5 t7 q4 => ?_
          rw [cf] at q4
          refine cat_out rfl rfl (sqT_up t7 q3) q4 (by decide : 1 + 1 ≤ sizeLine) fun a5 X6 t8 q5 => ?_
          have t58 := same_trans t56 (same_trans t7 t8)
          have hF6 := hF4.same t58
          have hZ6 := LS.same (ls_but hF4 b3 hZ3) t58
          have b6 := b4.trans (but_same (f := f) t58)
          have ho := (hy.keep tt).keep (tups_same t58)
          refine q (.ref a5) (.tuple [.str w, dy]) X6 ⟨?_, ?_, ?_, ?_⟩ (df_tup hZ6 q5 (.cons (.str w) (.cons (df_dt hZ6 ho) .nil))) b6 hF6
          · show (ats (.str w) && (ats dy && true)) = true
            rw [wa, atx.2]
            rfl
          · show (true && (sml dy && true)) = true
            rw [smx.2]
            rfl
          · show 1 + (1 + (psz dy + 0)) ≤ _
            omega
          · show max 0 (max dy.depth 0) + 1 ≤ _
            omega
        | false =>
          have pth : prs dx = true := px.elim (fun z => by rw [st] at z; cases z) id
          refine condF rfl ⟨_, rfl, _, rfl, _, rfl, ?_⟩
          refine sl_out (lo := none) (hi := some 0) rfl hs2 fun a1 X1 t1 q1 => ?_
          have hF3 := hF2.same t1
          have hZ3 := LS.same hZ2 t1
          refine ⟨_, rfl, _, rfl, _, rfl, p, _, _, x, rfl, rfl, sqT_up t1 hs2, rfl, Z, f, x, dx, rfl, fZ, hZ3, ⟨atx.1, smx.1, pth⟩, by omega, hx.keep (tups_same t1), hF3, fun u e X3 bt hu b3 hF4 => ?_⟩
          have tt : Tups H2 X3 := (tups_same t1).trans (hF3.tups b3)
          have q1 : SqT K X3 a1 [] := by rw [← ct]; exact sq_but hF3 b3 q1
          have hs4 := sq_but hF3 b3 (sqT_up t1 hs2)
          have b4 := ((bb2.trans (but_same (f := f) t1)).trans b3)
          refine ⟨(by decide : 1 ≤ sizeLine), fun a2 na2 => ?_⟩
          have t5 := same_new (o := HO.tup [u]) na2
          refine cat_out rfl rfl (sqT_up t5 q1) (.inl (.inl upd_same)) (by decide : 0 + 1 ≤ sizeLine) fun a3 X4 t6 q3 => ?_
          have t56 := same_trans t5 t6
          refine ⟨_, rfl, _, rfl, _, _, rfl, rfl, _, rfl, ?_⟩
          dsimp only [tNoPart]
          refine sl_out (lo := some (0 + 1)) (hi := none) rfl (sqT_up t56 hs4) fun a4 X5 t7 q4 => ?_
          rw [cf] at q4
          refine cat_out rfl rfl (sqT_up t7 q3) q4 (by decide : 1 + 1 ≤ sizeLine) fun a5 X6 t8 q5 => ?_
          have t58 := same_trans t56 (same_trans t7 t8)
          have hF6 := hF4.same t58
          have hZ6 := LS.same (ls_but hF4 b3 hZ3) t58
          have b6 := b4.trans (but_same (f := f) t58)
          have ho := (hy.keep tt).keep (tups_same t58)
          have hu6 := Df.same t58 hu
          have bs := bt.sz
          have bd := bt.dp
          refine q (.ref a5) (.tuple [e, dy]) X6 ⟨?_, ?_, ?_, ?_⟩ (df_tup hZ6 q5 (.cons hu6 (.cons (df_dt hZ6 ho) .nil))) b6 hF6
          · show (ats e && (ats dy && true)) = true
            rw [bt.ats, atx.2]
            rfl
          · show (sml e && (sml dy && true)) = true
            rw [bt.sml, smx.2]
            rfl
          · show 1 + (psz e + (psz dy + 0)) ≤ _
            omega
          · show max e.depth (max dy.depth 0) + 1 ≤ _
            omega
      · have ct : cutV [x, y] none (some 1) = [x] := rfl
        have cf : cutV [x, y] (some (1 + 1)) none = [] := rfl
        refine ⟨_, rfl, _, rfl, p, _, _, y, rfl, rfl, hs2, rfl, _, _, _, _, isS dy, rfl, .ty "str", dp_ty hy.dp, kit_s _, _, rfl, ?_⟩
        cases st : isS dy with
        | true =>
          refine condT rfl ⟨_, rfl, _, rfl, _, rfl, ?_⟩
          refine sl_out (lo := none) (hi := some 1) rfl hs2 fun a1 X1 t1 q1 => ?_
          refine ⟨_, rfl, (by decide : 4 ≤ sizeLine), fun lw nlw => ?_⟩
          have t2 := same_new (o := HO.lst [.str "this", .str "that", .str "these", .str ""]) nlw
          have hF3 := (hF2.same t1).same t2
          have hZ3 := LS.same (LS.same hZ2 t1) t2
          refine ⟨f, lw, _, rfl, (hF2.same t1).ne nlw, .inl (.inl upd_same), by decide, by decide, hF3, fun z mz X3 b3 hF4 => ?_⟩
          obtain ⟨w, rfl, wa⟩ : ∃ w : Str, z = .str w ∧ (ats (.str w) = true) := by
            rcases List.mem_cons.mp mz with rfl | mz
            · exact ⟨_, rfl, by decide +kernel⟩
            rcases List.mem_cons.mp mz with rfl | mz
            · exact ⟨_, rfl, by decide +kernel⟩
            rcases List.mem_cons.mp mz with rfl | mz
            · exact ⟨_, rfl, by decide +kernel⟩
            · exact ⟨_, List.mem_singleton.mp mz, by decide +kernel⟩
          have tt : Tups H2 X3 := ((tups_same t1).trans (tups_same t2)).trans (hF3.tups b3)
          have q1 : SqT K X3 a1 [x] := by rw [← ct]; exact sq_but hF3 b3 (sqT_up t2 q1)
          have hs4 := sq_but hF3 b3 (sqT_up t2 (sqT_up t1 hs2))
          have b4 := (((bb2.trans (but_same (f := f) t1)).trans (but_same t2)).trans b3)
          refine ⟨(by decide : 1 ≤ sizeLine), fun a2 na2 => ?_⟩
          have t5 := same_new (o := HO.tup [.str w]) na2
          refine cat_out rfl rfl (sqT_up t5 q1) (.inl (.inl upd_same)) (by decide : 1 + 1 ≤ sizeLine) fun a3 X4 t6 q3 => ?_
          have t56 := same_trans t5 t6
          refine ⟨_, rfl, _, rfl, _, _, rfl, rfl, _, rfl, ?_⟩
          dsimp only [tNoPart]
          refine sl_out (lo := some (1 + 1)) (hi := none) rfl (sqT_up t56 hs4) fun a4 X5 t7 q4 => ?_
          rw [cf] at q4
          refine cat_out rfl rfl (sqT_up t7 q3) q4 (by decide : 2 + 0 ≤ sizeLine) fun a5 X6 t8 q5 => ?_
          have t58 := same_trans t56 (same_trans t7 t8)
          have hF6 := hF4.same t58
          have hZ6 := LS.same (ls_but hF4 b3 hZ3) t58
          have b6 := b4.trans (but_same (f := f) t58)
          have ho := (hx.keep tt).keep (tups_same t58)
          refine q (.ref a5) (.tuple [dx, .str w]) X6 ⟨?_, ?_, ?_, ?_⟩ (df_tup hZ6 q5 (.cons (df_dt hZ6 ho) (.cons (.str w) .nil))) b6 hF6
          · show (ats dx && (ats (.str w) && true)) = true
            rw [atx.1, wa]
            rfl
          · show (sml dx && (true && true)) = true
            rw [smx.1]
            rfl
          · show 1 + (psz dx + (1 + 0)) ≤ _
            omega
          · show max dx.depth (max 0 0) + 1 ≤ _
            omega
        | false =>
          have pth : prs dy = true := py
          refine condF rfl ⟨_, rfl, _, rfl, _, rfl, ?_⟩
          refine sl_out (lo := none) (hi := some 1) rfl hs2 fun a1 X1 t1 q1 => ?_
          have hF3 := hF2.same t1
          have hZ3 := LS.same hZ2 t1
          refine ⟨_, rfl, _, rfl, _, rfl, p, _, _, y, rfl, rfl, sqT_up t1 hs2, rfl, Z, f, y, dy, rfl, fZ, hZ3, ⟨atx.2, smx.2, pth⟩, by omega, hy.keep (tups_same t1), hF3, fun u e X3 bt hu b3 hF4 => ?_⟩
          have tt : Tups H2 X3 := (tups_same t1).trans (hF3.tups b3)
          have q1 : SqT K X3 a1 [x] := by rw [← ct]; exact sq_but hF3 b3 q1
          have hs4 := sq_but hF3 b3 (sqT_up t1 hs2)
          have b4 := ((bb2.trans (but_same (f := f) t1)).trans b3)
          refine ⟨(by decide : 1 ≤ sizeLine), fun a2 na2 => ?_⟩
          have t5 := same_new (o := HO.tup [u]) na2
          refine cat_out rfl rfl (sqT_up t5 q1) (.inl (.inl upd_same)) (by decide : 1 + 1 ≤ sizeLine) fun a3 X4 t6 q3 => ?_
          have t56 := same_trans t5 t6
          refine ⟨_, rfl, _, rfl, _, _, rfl, rfl, _, rfl, ?_⟩
          dsimp only [tNoPart]
          refine sl_out (lo := some (1 + 1)) (hi := none) rfl (sqT_up t56 hs4) fun a4 X5 t7 q4 => ?_
          rw [cf] at q4
          refine cat_out rfl rfl (sqT_up t7 q3) q4 (by decide : 2 + 0 ≤ sizeLine) fun a5 X6 t8 q5 => ?_
          have t58 := same_trans t56 (same_trans t7 t8)
          have hF6 := hF4.same t58
          have hZ6 := LS.same (ls_but hF4 b3 hZ3) t58
          have b6 := b4.trans (but_same (f := f) t58)
          have ho := (hx.keep tt).keep (tups_same t58)
          have hu6 := Df.same t58 hu
          have bs := bt.sz
          have bd := bt.dp
          refine q (.ref a5) (.tuple [dx, e]) X6 ⟨?_, ?_, ?_, ?_⟩ (df_tup hZ6 q5 (.cons (df_dt hZ6 ho) (.cons hu6 .nil))) b6 hF6
          · show (ats dx && (ats e && true)) = true
            rw [bt.ats, atx.1]
            rfl
          · show (sml dx && (sml e && true)) = true
            rw [bt.sml, smx.1]
            rfl
          · show 1 + (psz dx + (psz e + 0)) ≤ _
            omega
          · show max dx.depth (max e.depth 0) + 1 ≤ _
            omega
  · intro X eX
    have e2 := eX.symm
    subst e2
    refine ⟨_, rfl, (by decide : 0 ≤ sizeLine), fun c1 nc1 => ?_⟩
    have sc1 := same_new (o := HO.tup []) nc1
    have ec1 : upd H1 c1 (.tup []) c1 = _ := upd_same
    have nec1 := hF.ne nc1
    have nzc1 := LS.nin hZ nc1
    have hv1 := hv1.keep (tups_same sc1)
    have hF := hF.same sc1
    have hZ := LS.same hZ sc1
    have bb := bb.trans (but_same (f := f) sc1)
    generalize upd H1 c1 (.tup []) = Z1 at sc1 ec1 hv1 hF hZ bb ⊢
    have D1 : Df K Z Z1 (.ref c1) (.tuple []) := df_tup (hZ) (.inl (.inl ec1)) (.nil)
    refine ⟨(by decide : 0 ≤ sizeLine), fun c2 nc2 => ?_⟩
    have sc2 := same_new (o := HO.lst []) nc2
    have ec2 : upd Z1 c2 (.lst []) c2 = _ := upd_same
    have nec2 := hF.ne nc2
    have nzc2 := LS.nin hZ nc2
    have hv1 := hv1.keep (tups_same sc2)
    have D1 := Df.same sc2 D1
    have hF := hF.same sc2
    have hZ := LS.same hZ sc2
    have bb := bb.trans (but_same (f := f) sc2)
    generalize upd Z1 c2 (.lst []) = Z2 at sc2 ec2 hv1 D1 hF hZ bb ⊢
    have D2 : Df K Z Z2 (.ref c2) (.list []) := df_lst nzc2 ec2 (.nil)
    refine ⟨(by decide : 2 ≤ sizeLine), fun c3 nc3 => ?_⟩
    have sc3 := same_new (o := HO.tup [.int 0, .non]) nc3
    have ec3 : upd Z2 c3 (.tup [.int 0, .non]) c3 = _ := upd_same
    have nec3 := hF.ne nc3
    have nzc3 := LS.nin hZ nc3
    have hv1 := hv1.keep (tups_same sc3)
    have D1 := Df.same sc3 D1
    have D2 := Df.same sc3 D2
    have hF := hF.same sc3
    have hZ := LS.same hZ sc3
    have bb := bb.trans (but_same (f := f) sc3)
    generalize upd Z2 c3 (.tup [.int 0, .non]) = Z3 at sc3 ec3 hv1 D1 D2 hF hZ bb ⊢
    have D3 : Df K Z Z3 (.ref c3) (.tuple [.int 0, .none]) := df_tup (hZ) (.inl (.inl ec3)) (.cons (.int 0) (.cons .non .nil))
    refine ⟨(by decide : 2 ≤ sizeLine), fun c4 nc4 => ?_⟩
    have sc4 := same_new (o := HO.tup [.str "this", .non]) nc4
    have ec4 : upd Z3 c4 (.tup [.str "this", .non]) c4 = _ := upd_same
    have nec4 := hF.ne nc4
    have nzc4 := LS.nin hZ nc4
    have hv1 := hv1.keep (tups_same sc4)
    have D1 := Df.same sc4 D1
    have D2 := Df.same sc4 D2
    have D3 := Df.same sc4 D3
    have hF := hF.same sc4
    have hZ := LS.same hZ sc4
    have bb := bb.trans (but_same (f := f) sc4)
    generalize upd Z3 c4 (.tup [.str "this", .non]) = Z4 at sc4 ec4 hv1 D1 D2 D3 hF hZ bb ⊢
    have D4 : Df K Z Z4 (.ref c4) (.tuple [.str "this", .none]) := df_tup (hZ) (.inl (.inl ec4)) (.cons (.str _) (.cons .non .nil))
    refine ⟨(by decide : 2 ≤ sizeLine), fun c5 nc5 => ?_⟩
    have sc5 := same_new (o := HO.tup [.str "that", .non]) nc5
    have ec5 : upd Z4 c5 (.tup [.str "that", .non]) c5 = _ := upd_same
    have nec5 := hF.ne nc5
    have nzc5 := LS.nin hZ nc5
    have hv1 := hv1.keep (tups_same sc5)
    have D1 := Df.same sc5 D1
    have D2 := Df.same sc5 D2
    have D3 := Df.same sc5 D3
    have D4 := Df.same sc5 D4
    have hF := hF.same sc5
    have hZ := LS.same hZ sc5
    have bb := bb.trans (but_same (f := f) sc5)
    generalize upd Z4 c5 (.tup [.str "that", .non]) = Z5 at sc5 ec5 hv1 D1 D2 D3 D4 hF hZ bb ⊢
    have D5 : Df K Z Z5 (.ref c5) (.tuple [.str "that", .none]) := df_tup (hZ) (.inl (.inl ec5)) (.cons (.str _) (.cons .non .nil))
    refine ⟨(by decide : 13 ≤ sizeLine), fun c6 nc6 => ?_⟩
    have sc6 := same_new (o := HO.lst [.non, .int 0, .int 1, .int 2, .bl true, .bl false, .int (-1), .str "this", .ref c1, .ref c2, .ref c3, .ref c4, .ref c5]) nc6
    have ec6 : upd Z5 c6 (.lst [.non, .int 0, .int 1, .int 2, .bl true, .bl false, .int (-1), .str "this", .ref c1, .ref c2, .ref c3, .ref c4, .ref c5]) c6 = _ := upd_same
    have nec6 := hF.ne nc6
    have nzc6 := LS.nin hZ nc6
    have hv1 := hv1.keep (tups_same sc6)
    have D1 := Df.same sc6 D1
    have D2 := Df.same sc6 D2
    have D3 := Df.same sc6 D3
    have D4 := Df.same sc6 D4
    have D5 := Df.same sc6 D5
    have hF := hF.same sc6
    have hZ := LS.same hZ sc6
    have bb := bb.trans (but_same (f := f) sc6)
    generalize upd Z5 c6 (.lst [.non, .int 0, .int 1, .int 2, .bl true, .bl false, .int (-1), .str "this", .ref c1, .ref c2, .ref c3, .ref c4, .ref c5]) = Z6 at sc6 ec6 hv1 D1 D2 D3 D4 D5 hF hZ bb ⊢
    refine ⟨_, rfl, (by decide : 2 ≤ sizeLine), fun c7 nc7 => ?_⟩
    have sc7 := same_new (o := HO.tup [.str "this", .int 0]) nc7
    have ec7 : upd Z6 c7 (.tup [.str "this", .int 0]) c7 = _ := upd_same
    have nec7 := hF.ne nc7
    have nzc7 := LS.nin hZ nc7
    have hv1 := hv1.keep (tups_same sc7)
    have D1 := Df.same sc7 D1
    have D2 := Df.same sc7 D2
    have D3 := Df.same sc7 D3
    have D4 := Df.same sc7 D4
    have D5 := Df.same sc7 D5
    have ec6 := sc7 _ _ ec6
    have hF := hF.same sc7
    have hZ := LS.same hZ sc7
    have bb := bb.trans (but_same (f := f) sc7)
    generalize upd Z6 c7 (.tup [.str "this", .int 0]) = Z7 at sc7 ec7 hv1 D1 D2 D3 D4 D5 ec6 hF hZ bb ⊢
    have D6 : Df K Z Z7 (.ref c7) (.tuple [.str "this", .int 0]) := df_tup (hZ) (.inl (.inl ec7)) (.cons (.str _) (.cons (.int 0) .nil))
    refine ⟨_, _, rfl, rfl, ⟨by decide, by decide, by decide⟩, (by decide : 0 ≤ sizeLine), fun c8 nc8 => ?_⟩
    have sc8 := same_new (o := HO.lst []) nc8
    have ec8 : upd Z7 c8 (.lst []) c8 = _ := upd_same
    have nec8 := hF.ne nc8
    have nzc8 := LS.nin hZ nc8
    have hv1 := hv1.keep (tups_same sc8)
    have D1 := Df.same sc8 D1
    have D2 := Df.same sc8 D2
    have D3 := Df.same sc8 D3
    have D4 := Df.same sc8 D4
    have D5 := Df.same sc8 D5
    have ec6 := sc8 _ _ ec6
    have D6 := Df.same sc8 D6
    have hF := hF.same sc8
    have hZ := LS.same hZ sc8
    have bb := bb.trans (but_same (f := f) sc8)
    generalize upd Z7 c8 (.lst []) = Z8 at sc8 ec8 hv1 D1 D2 D3 D4 D5 ec6 D6 hF hZ bb ⊢
    have D7a : Df K Z Z8 (.ref c8) (.list []) := df_lst nzc8 ec8 (.nil)
    refine ⟨(by decide : 2 ≤ sizeLine), fun c9 nc9 => ?_⟩
    have sc9 := same_new (o := HO.tup [.ref c8, .non]) nc9
    have ec9 : upd Z8 c9 (.tup [.ref c8, .non]) c9 = _ := upd_same
    have nec9 := hF.ne nc9
    have nzc9 := LS.nin hZ nc9
    have hv1 := hv1.keep (tups_same sc9)
    have D1 := Df.same sc9 D1
    have D2 := Df.same sc9 D2
    have D3 := Df.same sc9 D3
    have D4 := Df.same sc9 D4
    have D5 := Df.same sc9 D5
    have ec6 := sc9 _ _ ec6
    have D6 := Df.same sc9 D6
    have D7a := Df.same sc9 D7a
    have hF := hF.same sc9
    have hZ := LS.same hZ sc9
    have bb := bb.trans (but_same (f := f) sc9)
    generalize upd Z8 c9 (.tup [.ref c8, .non]) = Z9 at sc9 ec9 hv1 D1 D2 D3 D4 D5 ec6 D6 D7a hF hZ bb ⊢
    have D7 : Df K Z Z9 (.ref c9) (.tuple [.list [], .none]) := df_tup (hZ) (.inl (.inl ec9)) (.cons D7a (.cons .non .nil))
    refine ⟨(by decide : 1 ≤ sizeLine), fun c10 nc10 => ?_⟩
    have sc10 := same_new (o := HO.lst [.str "this"]) nc10
    have ec10 : upd Z9 c10 (.lst [.str "this"]) c10 = _ := upd_same
    have nec10 := hF.ne nc10
    have nzc10 := LS.nin hZ nc10
    have hv1 := hv1.keep (tups_same sc10)
    have D1 := Df.same sc10 D1
    have D2 := Df.same sc10 D2
    have D3 := Df.same sc10 D3
    have D4 := Df.same sc10 D4
    have D5 := Df.same sc10 D5
    have ec6 := sc10 _ _ ec6
    have D6 := Df.same sc10 D6
    have D7a := Df.same sc10 D7a
    have D7 := Df.same sc10 D7
    have hF := hF.same sc10
    have hZ := LS.same hZ sc10
    have bb := bb.trans (but_same (f := f) sc10)
    generalize upd Z9 c10 (.lst [.str "this"]) = Z10 at sc10 ec10 hv1 D1 D2 D3 D4 D5 ec6 D6 D7a D7 hF hZ bb ⊢
    have D8a : Df K Z Z10 (.ref c10) (.list [.str "this"]) := df_lst nzc10 ec10 (.cons (.str _) .nil)
    refine ⟨(by decide : 2 ≤ sizeLine), fun c11 nc11 => ?_⟩
    have sc11 := same_new (o := HO.tup [.ref c10, .non]) nc11
    have ec11 : upd Z10 c11 (.tup [.ref c10, .non]) c11 = _ := upd_same
    have nec11 := hF.ne nc11
    have nzc11 := LS.nin hZ nc11
    have hv1 := hv1.keep (tups_same sc11)
    have D1 := Df.same sc11 D1
    have D2 := Df.same sc11 D2
    have D3 := Df.same sc11 D3
    have D4 := Df.same sc11 D4
    have D5 := Df.same sc11 D5
    have ec6 := sc11 _ _ ec6
    have D6 := Df.same sc11 D6
    have D7a := Df.same sc11 D7a
    have D7 := Df.same sc11 D7
    have D8a := Df.same sc11 D8a
    have hF := hF.same sc11
    have hZ := LS.same hZ sc11
    have bb := bb.trans (but_same (f := f) sc11)
    generalize upd Z10 c11 (.tup [.ref c10, .non]) = Z11 at sc11 ec11 hv1 D1 D2 D3 D4 D5 ec6 D6 D7a D7 D8a hF hZ bb ⊢
    have D8 : Df K Z Z11 (.ref c11) (.tuple [.list [.str "this"], .none]) := df_tup (hZ) (.inl (.inl ec11)) (.cons D8a (.cons .non .nil))
    refine ⟨rfl, fun uf HF huf sf => ?_⟩
    have hv1 := hv1.keep (tups_same sf)
    have D1 := Df.same sf D1
    have D2 := Df.same sf D2
    have D3 := Df.same sf D3
    have D4 := Df.same sf D4
    have D5 := Df.same sf D5
    have ec6 := sf _ _ ec6
    have D6 := Df.same sf D6
    have D7a := Df.same sf D7a
    have D7 := Df.same sf D7
    have D8a := Df.same sf D8a
    have D8 := Df.same sf D8
    have hF := hF.same sf
    have hZ := LS.same hZ sf
    have bb := bb.trans (but_same (f := f) sf)
    have D9 : Df K Z HF uf (farD 299) := df_dt hZ huf
    refine ⟨(by decide : 5 ≤ sizeLine), fun c12 nc12 => ?_⟩
    have sc12 := same_new (o := HO.lst [.ref c7, .int (10 ^ (60 : Int).toNat), .ref c9, .ref c11, uf]) nc12
    have ec12 : upd HF c12 (.lst [.ref c7, .int (10 ^ (60 : Int).toNat), .ref c9, .ref c11, uf]) c12 = _ := upd_same
    have nec12 := hF.ne nc12
    have nzc12 := LS.nin hZ nc12
    have hv1 := hv1.keep (tups_same sc12)
    have D1 := Df.same sc12 D1
    have D2 := Df.same sc12 D2
    have D3 := Df.same sc12 D3
    have D4 := Df.same sc12 D4
    have D5 := Df.same sc12 D5
    have ec6 := sc12 _ _ ec6
    have D6 := Df.same sc12 D6
    have D7a := Df.same sc12 D7a
    have D7 := Df.same sc12 D7
    have D8a := Df.same sc12 D8a
    have D8 := Df.same sc12 D8
    have D9 := Df.same sc12 D9
    have hF := hF.same sc12
    have hZ := LS.same hZ sc12
    have bb := bb.trans (but_same (f := f) sc12)
    generalize upd HF c12 (.lst [.ref c7, .int (10 ^ (60 : Int).toNat), .ref c9, .ref c11, uf]) = Z12 at sc12 ec12 hv1 D1 D2 D3 D4 D5 ec6 D6 D7a D7 D8a D8 D9 hF hZ bb ⊢
    refine ⟨c6, c12, _, _, rfl, rfl, ec6, ec12, (by decide : 13 + 5 ≤ sizeLine), fun c13 nc13 => ?_⟩
    have sc13 := same_new (o := HO.lst ([.non, .int 0, .int 1, .int 2, .bl true, .bl false, .int (-1), .str "this", .ref c1, .ref c2, .ref c3, .ref c4, .ref c5] ++ [.ref c7, .int (10 ^ (60 : Int).toNat), .ref c9, .ref c11, uf])) nc13
    have ec13 : upd Z12 c13 (.lst ([.non, .int 0, .int 1, .int 2, .bl true, .bl false, .int (-1), .str "this", .ref c1, .ref c2, .ref c3, .ref c4, .ref c5] ++ [.ref c7, .int (10 ^ (60 : Int).toNat), .ref c9, .ref c11, uf])) c13 = _ := upd_same
    have nec13 := hF.ne nc13
    have hv1 := hv1.keep (tups_same sc13)
    have D1 := Df.same sc13 D1
    have D2 := Df.same sc13 D2
    have D3 := Df.same sc13 D3
    have D4 := Df.same sc13 D4
    have D5 := Df.same sc13 D5
    have D6 := Df.same sc13 D6
    have D7a := Df.same sc13 D7a
    have D7 := Df.same sc13 D7
    have D8a := Df.same sc13 D8a
    have D8 := Df.same sc13 D8
    have D9 := Df.same sc13 D9
    have hF := hF.same sc13
    have hZ := LS.same hZ sc13
    have bb := bb.trans (but_same (f := f) sc13)
    have al : ∀ x ∈ ([.non, .int 0, .int 1, .int 2, .bl true, .bl false, .int (-1), .str "this", .ref c1, .ref c2, .ref c3, .ref c4, .ref c5] ++ [.ref c7, .int (10 ^ (60 : Int).toNat), .ref c9, .ref c11, uf] : List V), ∃ e, Df K Z (upd Z12 c13 (.lst ([.non, .int 0, .int 1, .int 2, .bl true, .bl false, .int (-1), .str "this", .ref c1, .ref c2, .ref c3, .ref c4, .ref c5] ++ [.ref c7, .int (10 ^ (60 : Int).toNat), .ref c9, .ref c11, uf]))) x e ∧ Bt (2 * psz d + 400) (d.depth + 310) e := fun x mx => by
      simp only [List.cons_append, List.nil_append] at mx
      rcases List.mem_cons.mp mx with rfl | mx
      · exact ⟨.none, .non, bt_c (by decide +kernel) (by decide +kernel) (by decide) (by decide)⟩
      rcases List.mem_cons.mp mx with rfl | mx
      · exact ⟨.int 0, .int 0, bt_c (by decide +kernel) (by decide +kernel) (by decide) (by decide)⟩
      rcases List.mem_cons.mp mx with rfl | mx
      · exact ⟨.int 1, .int 1, bt_c (by decide +kernel) (by decide +kernel) (by decide) (by decide)⟩
      rcases List.mem_cons.mp mx with rfl | mx
      · exact ⟨.int 2, .int 2, bt_c (by decide +kernel) (by decide +kernel) (by decide) (by decide)⟩
      rcases List.mem_cons.mp mx with rfl | mx
      · exact ⟨.bool true, .bl true, bt_c (by decide +kernel) (by decide +kernel) (by decide) (by decide)⟩
      rcases List.mem_cons.mp mx with rfl | mx
      · exact ⟨.bool false, .bl false, bt_c (by decide +kernel) (by decide +kernel) (by decide) (by decide)⟩
      rcases List.mem_cons.mp mx with rfl | mx
      · exact ⟨.int (-1), .int (-1), bt_c (by decide +kernel) (by decide +kernel) (by decide) (by decide)⟩
      rcases List.mem_cons.mp mx with rfl | mx
      · exact ⟨.str "this", .str _, bt_c (by decide +kernel) (by decide +kernel) (by decide) (by decide)⟩
      rcases List.mem_cons.mp mx with rfl | mx
      · exact ⟨.tuple [], D1, bt_c (by decide +kernel) (by decide +kernel) (by decide) (by decide)⟩
      rcases List.mem_cons.mp mx with rfl | mx
      · exact ⟨.list [], D2, bt_c (by decide +kernel) (by decide +kernel) (by decide) (by decide)⟩
      rcases List.mem_cons.mp mx with rfl | mx
      · exact ⟨.tuple [.int 0, .none], D3, bt_c (by decide +kernel) (by decide +kernel) (by decide) (by decide)⟩
      rcases List.mem_cons.mp mx with rfl | mx
      · exact ⟨.tuple [.str "this", .none], D4, bt_c (by decide +kernel) (by decide +kernel) (by decide) (by decide)⟩
      rcases List.mem_cons.mp mx with rfl | mx
      · exact ⟨.tuple [.str "that", .none], D5, bt_c (by decide +kernel) (by decide +kernel) (by decide) (by decide)⟩
      rcases List.mem_cons.mp mx with rfl | mx
      · exact ⟨.tuple [.str "this", .int 0], D6, bt_c (by decide +kernel) (by decide +kernel) (by decide) (by decide)⟩
      rcases List.mem_cons.mp mx with rfl | mx
      · exact ⟨.int (10 ^ (60 : Int).toNat), .int _, bt_c (by decide +kernel) (by decide +kernel) (by decide) (by decide)⟩
      rcases List.mem_cons.mp mx with rfl | mx
      · exact ⟨.tuple [.list [], .none], D7, bt_c (by decide +kernel) (by decide +kernel) (by decide) (by decide)⟩
      rcases List.mem_cons.mp mx with rfl | mx
      · exact ⟨.tuple [.list [.str "this"], .none], D8, bt_c (by decide +kernel) (by decide +kernel) (by decide) (by decide)⟩
      · rw [List.mem_singleton.mp mx]
        exact ⟨farD 299, D9, far_bt⟩
    generalize upd Z12 c13 (.lst ([.non, .int 0, .int 1, .int 2, .bl true, .bl false, .int (-1), .str "this", .ref c1, .ref c2, .ref c3, .ref c4, .ref c5] ++ [.ref c7, .int (10 ^ (60 : Int).toNat), .ref c9, .ref c11, uf])) = Y0 at ec13 hv1 D1 D2 D3 D4 D5 D6 D7a D7 D8a D8 D9 hZ hF bb al ⊢
    clear D1 D2 D3 D4 D5 D6 D7 D8 D7a D8a D9
    refine ⟨_, rfl, _, _, _, _, isTu d, rfl, .ty "tuple", dp_ty hv1.dp, kit_tu d, _, rfl, ?_⟩
    cases tu : isTu d with
    | false => exact condF rfl ⟨_, rfl, _, rfl, pick Y0 c13 _ hF bb ec13 nec13 (by show 0 < 18; decide) (by show 18 ≤ 1000; decide) al⟩
    | true =>
      refine condT rfl ?_
      obtain ⟨ds, rfl⟩ : ∃ ds, d = .tuple ds := by
        cases d with
        | tuple ds => exact ⟨ds, rfl⟩
        | _ => cases tu
      obtain ⟨dx, dy, rfl, px, py⟩ := prs_two bn.prs
      obtain ⟨p, xs, rfl, hs, hxx⟩ := Dt.view hv1
      cases hxx with
      | @cons x _ _ _ hx hxx =>
      cases hxx with
      | @cons y _ _ _ hy hxx =>
      cases hxx
      have hx : Dt K Y0 x dx := hx
      have hy : Dt K Y0 y dy := hy
      have atx : ats dx = true ∧ ats dy = true := by
        have z : (ats dx && (ats dy && true)) = true := bn.ats
        rw [Bool.and_true, Bool.and_eq_true] at z
        exact z
      have smx : sml dx = true ∧ sml dy = true := by
        have z : (sml dx && (sml dy && true)) = true := bn.sml
        rw [Bool.and_true, Bool.and_eq_true] at z
        exact z
      have dpe : (PyData.tuple [dx, dy]).depth = max dx.depth (max dy.depth 0) + 1 := rfl
      have pse : psz (.tuple [dx, dy]) = 1 + (psz dx + (psz dy + 0)) := rfl
      refine ⟨_, rfl, _, rfl, p, _, rfl, .inr hs, fun c21 nc21 => ?_⟩
      have sc21 := same_new (o := HO.lst [x, y]) nc21
      have ec21 : upd Y0 c21 (.lst [x, y]) c21 = _ := upd_same
      have nec21 := hF.ne nc21
      have nzc21 := LS.nin hZ nc21
      have hx := hx.keep (tups_same sc21)
      have hy := hy.keep (tups_same sc21)
      have hv1 := hv1.keep (tups_same sc21)
      have ec13 := sc21 _ _ ec13
      have al := al_same sc21 al
      have hs := sqT_up sc21 hs
      have hF := hF.same sc21
      have hZ := LS.same hZ sc21
      have bb := bb.trans (but_same (f := f) sc21)
      generalize upd Y0 c21 (.lst [x, y]) = Z21 at sc21 ec21 hx hy hv1 ec13 al hs hF hZ bb ⊢
      have E1 : Df K Z Z21 (.ref c21) (.list [dx, dy]) := df_lst nzc21 ec21 (.cons (df_dt hZ hx) (.cons (df_dt hZ hy) .nil))
      have cm : cutV [x, y] none (some (-1)) = [x] := rfl
      refine ⟨_, rfl, _, rfl, _, rfl, ?_⟩
      refine sl_out (lo := none) (hi := some (-1)) rfl hs fun c22 Z22 sc22 qc22 => ?_
      have hx := hx.keep (tups_same sc22)
      have hy := hy.keep (tups_same sc22)
      have hv1 := hv1.keep (tups_same sc22)
      have ec13 := sc22 _ _ ec13
      have al := al_same sc22 al
      have hs := sqT_up sc22 hs
      have E1 := Df.same sc22 E1
      have hF := hF.same sc22
      have hZ := LS.same hZ sc22
      have bb := bb.trans (but_same (f := f) sc22)
      have E2 : Df K Z Z22 (.ref c22) (.tuple [dx]) := df_tup (hZ) (by rw [← cm]; exact qc22) (.cons (df_dt hZ hx) .nil)
      refine ⟨_, rfl, (by decide : 1 ≤ sizeLine), fun c23 nc23 => ?_⟩
      have sc23 := same_new (o := HO.tup [.non]) nc23
      have ec23 : upd Z22 c23 (.tup [.non]) c23 = _ := upd_same
      have nec23 := hF.ne nc23
      have nzc23 := LS.nin hZ nc23
      have hx := hx.keep (tups_same sc23)
      have hy := hy.keep (tups_same sc23)
      have hv1 := hv1.keep (tups_same sc23)
      have ec13 := sc23 _ _ ec13
      have al := al_same sc23 al
      have hs := sqT_up sc23 hs
      have E1 := Df.same sc23 E1
      have E2 := Df.same sc23 E2
      have hF := hF.same sc23
      have hZ := LS.same hZ sc23
      have bb := bb.trans (but_same (f := f) sc23)
      generalize upd Z22 c23 (.tup [.non]) = Z23 at sc23 ec23 hx hy hv1 ec13 al hs E1 E2 hF hZ bb ⊢
      refine cat_out rfl rfl hs (.inl (.inl ec23)) (by decide : 2 + 1 ≤ sizeLine) fun c24 Z24 sc24 qc24 => ?_
      have hx := hx.keep (tups_same sc24)
      have hy := hy.keep (tups_same sc24)
      have hv1 := hv1.keep (tups_same sc24)
      have ec13 := sc24 _ _ ec13
      have al := al_same sc24 al
      have hs := sqT_up sc24 hs
      have E1 := Df.same sc24 E1
      have E2 := Df.same sc24 E2
      have hF := hF.same sc24
      have hZ := LS.same hZ sc24
      have bb := bb.trans (but_same (f := f) sc24)
      have E3 : Df K Z Z24 (.ref c24) (.tuple [dx, dy, .none]) := df_tup (hZ) qc24 (.cons (df_dt hZ hx) (.cons (df_dt hZ hy) (.cons .non .nil)))
      refine ⟨_, rfl, p, _, rfl, hs, fun c25 nc25 => ?_⟩
      have sc25 := same_new (o := HO.tup [x, y].reverse) nc25
      have ec25 : upd Z24 c25 (.tup [x, y].reverse) c25 = _ := upd_same
      have nec25 := hF.ne nc25
      have nzc25 := LS.nin hZ nc25
      have hx := hx.keep (tups_same sc25)
      have hy := hy.keep (tups_same sc25)
      have hv1 := hv1.keep (tups_same sc25)
      have ec13 := sc25 _ _ ec13
      have al := al_same sc25 al
      have hs := sqT_up sc25 hs
      have E1 := Df.same sc25 E1
      have E2 := Df.same sc25 E2
      have E3 := Df.same sc25 E3
      have hF := hF.same sc25
      have hZ := LS.same hZ sc25
      have bb := bb.trans (but_same (f := f) sc25)
      generalize upd Z24 c25 (.tup [x, y].reverse) = Z25 at sc25 ec25 hx hy hv1 ec13 al hs E1 E2 E3 hF hZ bb ⊢
      have E4 : Df K Z Z25 (.ref c25) (.tuple [dy, dx]) := df_tup (hZ) (show SqT K _ _ [y, x] from .inl (.inl ec25)) (.cons (df_dt hZ hy) (.cons (df_dt hZ hx) .nil))
      refine ⟨_, rfl, _, rfl, p, _, _, y, rfl, rfl, hs, rfl, ?_⟩
      refine ⟨_, rfl, (by decide : 1 ≤ sizeLine), fun c26 nc26 => ?_⟩
      have sc26 := same_new (o := HO.tup [.ref p]) nc26
      have ec26 : upd Z25 c26 (.tup [.ref p]) c26 = _ := upd_same
      have nec26 := hF.ne nc26
      have nzc26 := LS.nin hZ nc26
      have hx := hx.keep (tups_same sc26)
      have hy := hy.keep (tups_same sc26)
      have hv1 := hv1.keep (tups_same sc26)
      have ec13 := sc26 _ _ ec13
      have al := al_same sc26 al
      have hs := sqT_up sc26 hs
      have E1 := Df.same sc26 E1
      have E2 := Df.same sc26 E2
      have E3 := Df.same sc26 E3
      have E4 := Df.same sc26 E4
      have hF := hF.same sc26
      have hZ := LS.same hZ sc26
      have bb := bb.trans (but_same (f := f) sc26)
      generalize upd Z25 c26 (.tup [.ref p]) = Z26 at sc26 ec26 hx hy hv1 ec13 al hs E1 E2 E3 E4 hF hZ bb ⊢
      have E6 : Df K Z Z26 (.ref c26) (.tuple [.tuple [dx, dy]]) := df_tup (hZ) (.inl (.inl ec26)) (.cons (df_dt hZ hv1) .nil)
      refine ⟨(by decide : 6 ≤ sizeLine), fun c27 nc27 => ?_⟩
      have sc27 := same_new (o := HO.lst [.ref c21, .ref c22, .ref c24, .ref c25, y, .ref c26]) nc27
      have ec27 : upd Z26 c27 (.lst [.ref c21, .ref c22, .ref c24, .ref c25, y, .ref c26]) c27 = _ := upd_same
      have nec27 := hF.ne nc27
      have nzc27 := LS.nin hZ nc27
      have hx := hx.keep (tups_same sc27)
      have hy := hy.keep (tups_same sc27)
      have hv1 := hv1.keep (tups_same sc27)
      have ec13 := sc27 _ _ ec13
      have al := al_same sc27 al
      have hs := sqT_up sc27 hs
      have E1 := Df.same sc27 E1
      have E2 := Df.same sc27 E2
      have E3 := Df.same sc27 E3
      have E4 := Df.same sc27 E4
      have E6 := Df.same sc27 E6
      have hF := hF.same sc27
      have hZ := LS.same hZ sc27
      have bb := bb.trans (but_same (f := f) sc27)
      generalize upd Z26 c27 (.lst [.ref c21, .ref c22, .ref c24, .ref c25, y, .ref c26]) = Z27 at sc27 ec27 hx hy hv1 ec13 al hs E1 E2 E3 E4 E6 hF hZ bb ⊢
      refine ⟨c13, c27, _, _, rfl, rfl, ec13, ec27, (by decide : 18 + 6 ≤ sizeLine), fun cl ncl => ?_⟩
      have scl := same_new (o := HO.lst (([.non, .int 0, .int 1, .int 2, .bl true, .bl false, .int (-1), .str "this", .ref c1, .ref c2, .ref c3, .ref c4, .ref c5] ++ [.ref c7, .int (10 ^ (60 : Int).toNat), .ref c9, .ref c11, uf]) ++ [.ref c21, .ref c22, .ref c24, .ref c25, y, .ref c26])) ncl
      refine ⟨_, rfl, _, rfl, pick _ cl _ (hF.same scl) (bb.trans (but_same scl)) upd_same (hF.ne ncl) (by show 0 < 24; decide) (by show 24 ≤ 1000; decide) fun x0 mx => ?_⟩
      rcases List.mem_append.mp mx with mx | mx
      · obtain ⟨e, he, bt⟩ := al x0 mx
        exact ⟨e, Df.same scl he, bt⟩
      rcases List.mem_cons.mp mx with rfl | mx
      · exact ⟨.list [dx, dy], Df.same scl E1, ⟨by show (ats dx && (ats dy && true)) = true; rw [atx.1, atx.2]; rfl, by show (sml dx && (sml dy && true)) = true; rw [smx.1, smx.2]; rfl, by show 1 + (psz dx + (psz dy + 0)) ≤ _; omega, by show max dx.depth (max dy.depth (0)) + 1 ≤ _; omega⟩⟩
      rcases List.mem_cons.mp mx with rfl | mx
      · exact ⟨.tuple [dx], Df.same scl E2, ⟨by show (ats dx && true) = true; rw [atx.1]; rfl, by show (sml dx && true) = true; rw [smx.1]; rfl, by show 1 + (psz dx + 0) ≤ _; omega, by show max dx.depth (0) + 1 ≤ _; omega⟩⟩
      rcases List.mem_cons.mp mx with rfl | mx
      · exact ⟨.tuple [dx, dy, .none], Df.same scl E3, ⟨by show (ats dx && (ats dy && (true && true))) = true; rw [atx.1, atx.2]; rfl, by show (sml dx && (sml dy && (true && true))) = true; rw [smx.1, smx.2]; rfl, by show 1 + (psz dx + (psz dy + (1 + 0))) ≤ _; omega, by show max dx.depth (max dy.depth (max 0 (0))) + 1 ≤ _; omega⟩⟩
      rcases List.mem_cons.mp mx with rfl | mx
      · exact ⟨.tuple [dy, dx], Df.same scl E4, ⟨by show (ats dy && (ats dx && true)) = true; rw [atx.2, atx.1]; rfl, by show (sml dy && (sml dx && true)) = true; rw [smx.2, smx.1]; rfl, by show 1 + (psz dy + (psz dx + 0)) ≤ _; omega, by show max dy.depth (max dx.depth (0)) + 1 ≤ _; omega⟩⟩
      rcases List.mem_cons.mp mx with rfl | mx
      · exact ⟨dy, Df.same scl (df_dt hZ hy), ⟨atx.2, smx.2, by omega, by omega⟩⟩
      rw [List.mem_singleton.mp mx]
      exact ⟨.tuple [.tuple [dx, dy]], Df.same scl E6, ⟨by show (ats (.tuple [dx, dy]) && true) = true; rw [bn.ats]; rfl, by show (sml (.tuple [dx, dy]) && true) = true; rw [bn.sml]; rfl, by show 1 + (psz (.tuple [dx, dy]) + 0) ≤ _; omega, by show max (PyData.tuple [dx, dy]).depth 0 + 1 ≤ _; omega⟩⟩
theorem ok_bns {g gf : Addr} {gd df : FuncData} (F : Fun K "_law_bent" "_law_bent" sBn g gd) (ZZ : ZA mg) (zList : mg "list" = none) (D : Draw P w K mg base ft fp dt dp) (GFa : FnOk P w K mg base CX0 1 gf df [] (spFa K)) (bFa : Binds K df [] []) (kFa : PySem.W.keepIn K (.ref gf) = true) (mFa : mg "_law_far" = some (.ref gf)) (bS : Binds K gd ["feed", "thing"] []) (mS : mg "_law_bent" = some (.ref g)) : ∀ n : Nat, FnOk P w K mg base CX0 (2 + n) g gd ["feed", "thing"] (spBn K n)
  | 0 => no_calls fun vs H Q E h => by
    obtain ⟨_, _, _, d, _, _, _, _, n1, _⟩ := h
    omega
  | n + 1 => ok_bn F ZZ zList D GFa bFa kFa mFa (ok_bns F ZZ zList D GFa bFa kFa mFa bS mS n) bS mS
end
end Kf
set_option Elab.async false
set_option linter.all false
set_option maxRecDepth 100000
set_option maxHeartbeats 3900000
/-! The end of a law whose defs want to know that no repr is under way around them: its def is run from the caller alone. -/
namespace Gd
open PySem PySem.Spec PyProof.Rows L2 LamX LmY
section
variable {P : Program} {w : World} {K : PySem.W.Frag} {mg mb : Str → Option Value} {k : Nat} {fa scr : Addr} {cs : List (Addr × Addr)} {st : Shared} {vs : List Value} {ns : List Int}
/-- what stands in the heap ahead of the law's call -/
structure Ahead (K : PySem.W.Frag) (mg mb : Str → Option Value) (cs : List (Addr × Addr)) (scr : Addr) (vs : List Value) (st : Shared) : Prop where
  kin : K.In st.heap
  glob : st.heap.Ns mainGlobals mg
  blt : st.heap.Ns builtinsNs mb
  boot : ∀ x : Str, x ≠ "__name__" → mb x = bootBuiltins x
  lim : st.heap.NoLimit
  gens : st.gens = #[]
  tabs : ∀ p ∈ cs, st.heap.get? p.2 = some { cls := .none, data := .fields #[] }
  offK : ∀ p ∈ cs, K.lookup p.2 = none
  codes : ∀ p ∈ cs, PySem.W.CodeHd st.heap p.1 p.2
  mod : ∃ (bm : Addr) (ob : Obj), mg "__builtins__" = some (.ref bm) ∧ bm ≠ builtinsNs ∧ st.heap.get? bm = some ob ∧ ob.cls = .type "module" ∧ ob.dict = some builtinsNs ∧ ob.data = .plain
  list : st.heap.get? scr = some { cls := .type "list", data := .seq vs.toArray }
/-- tracked are the script and the tables at most -/
structure Few (K : PySem.W.Frag) (cs : List (Addr × Addr)) (scr : Addr) (H : Hp) : Prop where
  only : ∀ b, H b ≠ none → b = scr ∨ ∃ p ∈ cs, p.2 = b
  notK : H scr ≠ none → K.lookup scr = none
theorem untracked (W : Ahead K mg mb cs scr vs st) {H : Hp} (F : Few K cs scr H) {b : Addr} {ob : Obj} (at_ : st.heap.get? b = some ob) (n1 : ∀ us m, ob.data ≠ .seq us m) (n2 : ob.data ≠ .fields #[]) : H b = none := by
  refine Decidable.byContradiction fun z => ?_
  rcases F.only b z with rfl | ⟨p, hp, rfl⟩
  · rw [W.list] at at_
    cases at_
    exact n1 _ _ rfl
  · rw [W.tabs p hp] at at_
    cases at_
    exact n2 rfl
theorem hid_ns (W : Ahead K mg mb cs scr vs st) {H : Hp} (F : Few K cs scr H) {b : Addr} {m : Str → Option Value} (h : st.heap.Ns b m) : (hidT st.heap H).Ns b m := by
  obtain ⟨ob, es, ep, at_, dat, rest⟩ := h
  refine ⟨ob, es, ep, hidT_get at_ (untracked W F at_ (fun us m z => ?_) fun z => ?_), dat, rest⟩ <;> (rw [dat] at z; cases z)
theorem hid_in (W : Ahead K mg mb cs scr vs st) {H : Hp} (F : Few K cs scr H) : K.In (hidT st.heap H) := fun b ob e => by
  refine hidT_get (W.kin b ob e) (Decidable.byContradiction fun z => ?_)
  rcases F.only b z with rfl | ⟨p, hp, rfl⟩
  · rw [F.notK z] at e
    cases e
  · rw [W.offK p hp] at e
    cases e
theorem hid_tab (W : Ahead K mg mb cs scr vs st) {H : Hp} (F : Few K cs scr H) : ∀ p ∈ cs, TabB (hidT st.heap H) mg p.1 p.2 := fun p hp => by
  have here := W.tabs p hp
  have plainG : ∀ {b : Addr} {ob : Obj}, st.heap.get? b = some ob → (∃ es ep, ob.data = .dict es ep) → b ≠ p.2 := fun e ⟨es, ep, d⟩ z => by
    rw [z, here] at e
    cases e
    cases d
  refine ⟨?_, ?_, ?_⟩
  · obtain ⟨ob, us, file, tf, flags, tg, inF, text, tt, e1, r1, r2, r3, rest⟩ := W.codes p hp
    refine ⟨ob, us, file, tf, flags, tg, inF, text, tt, hidT_get e1 (untracked W F e1 (fun us m z => ?_) fun z => ?_), r1, r2, r3, rest⟩
    · rw [r2] at z
      cases z
    · rw [r2] at z
      cases z
      simp at r3
  · obtain ⟨bm, ob, b1, b2, b3, b4, b5, b6⟩ := W.mod
    refine ⟨bm, ob, b1, b2, fun z => ?_, fun z => ?_, hidT_get b3 (untracked W F b3 (fun us m z => ?_) fun z => ?_), b4, b5, b6⟩
    · obtain ⟨og, es, ep, e, dat, _⟩ := W.glob
      rw [z, e] at b3
      cases b3
      rw [dat] at b6
      cases b6
    · rw [z, here] at b3
      cases b3
      cases b6
    · rw [b6] at z
      cases z
    · rw [b6] at z
      cases z
  · obtain ⟨og, es, ep, e, dat, _⟩ := W.glob
    exact plainG e ⟨es, ep, dat⟩
theorem hid_env (W : Ahead K mg mb cs scr vs st) {H : Hp} (F : Few K cs scr H) (hok : HOk P w H st.heap) : Env0 P w K mg (hidT st.heap H) callerA [] st H :=
  ⟨rfl, ⟨hid_in W F, hid_ns W F W.glob, ⟨mb, hid_ns W F W.blt, W.boot⟩, let ⟨mc, c1, c2⟩ := W.lim; ⟨mc, hid_ns W F c1, c2⟩⟩, fun b ob e => of_hidT e, Nat.le_of_eq (hidT_size _ _), trivial, fun b hb => (List.not_mem_nil (show b ∈ ([] : List Addr) from hb)).elim, hok, .of_eq W.gens⟩
/-- what is told of the heap behind the call -/
theorem behind (W : Ahead K mg mb cs scr vs st) {H : Hp} (F : Few K cs scr H) (hok : HOk P w H st.heap) (tb : ∀ p ∈ cs, H p.2 = some (.tbl #[])) (fz : H scr = none ∨ ∃ ob xs, H scr = some (.frz ob (.lst xs))) {r : Result} {s' : Shared}
    (told : CR L2.CX0 [] P w H st (fun v _ => v = .bl true) L2.E0 r s') : r = .ok (.ret (.bool true)) ∧ OldK st.heap s'.heap ∧ s'.os = st.os ∧ AllBare s'.gens := by
  match r, told with
  | .error _, told => exact (show False from told).elim
  | .ok .next, told => exact (show False from told).elim
  | .ok .brk, told => exact (show False from told).elim
  | .ok .cont, told => exact (show False from told).elim
  | .ok (.ret u), told =>
    obtain ⟨v, H2, os, bare, un, hok2, rel, isT⟩ := told
    have isT : v = .bl true := isT
    subst isT
    obtain rfl : u = Value.bool true := rel
    have noE : ∀ b : Addr, b ∉ ([] : List Addr) := fun _ => List.not_mem_nil
    have grown : ∀ p ∈ cs, ∃ more : Array Value, s'.heap.get? p.2 = some { cls := .none, data := .fields more } := fun p hp => by
      obtain ⟨more, e⟩ := un.tbls p.2 #[] (tb p hp)
      exact ⟨_, hok2 p.2 _ e⟩
    have stays : ∀ b ob, (¬ ∃ p ∈ cs, p.2 = b) → st.heap.get? b = some ob → s'.heap.get? b = some ob := fun b ob far e => by
      by_cases z : H b = none
      · exact un.keep b ob e z (noE b) (noE b)
      · rcases F.only b z with rfl | h
        · rcases fz with f | ⟨o2, xs, f⟩
          · exact absurd f z
          · obtain ⟨e1, _⟩ := hok _ _ f
            obtain ⟨e2, _⟩ := hok2 _ _ (un.frzs _ _ _ f)
            rw [e] at e1
            cases e1
            exact e2
        · exact absurd h far
    refine ⟨rfl, ⟨fun b ob e => ?_, fun b ob e => ?_⟩, os, bare⟩
    · by_cases h : ∃ p ∈ cs, p.2 = b
      · obtain ⟨p, hp, rfl⟩ := h
        obtain ⟨more, hm⟩ := grown p hp
        rw [W.tabs p hp] at e
        cases e
        exact .inr (.inl ⟨((W.codes p hp).tab (W.tabs p hp)).isCodeTable, rfl, #[], more, rfl, by rw [Array.empty_append]; exact hm⟩)
      · exact .inl (stays b ob h e)
    · by_cases h : ∃ p ∈ cs, p.2 = b
      · obtain ⟨p, hp, rfl⟩ := h
        obtain ⟨more, hm⟩ := grown p hp
        exact ⟨_, hm⟩
      · exact ⟨ob, stays b ob h e⟩
open Classical in
/-- THE END: the law's def by its run from the caller alone -/
theorem end_at (W : Ahead K mg mb cs scr vs st) (are : IntsAre vs ns) (short : ns.length ≤ sizeLine)
    (run : ∀ (base : Heap) (H : Hp), K.In base → base.Ns mainGlobals mg → (∀ p ∈ cs, TabB base mg p.1 p.2) → (∀ p ∈ cs, H p.2 = some (.tbl #[])) → SqL K H scr (ns.map V.int) → Env0 P w K mg base callerA [] st H →
      codeAny (model P w) callerA (.call (.ref fa) ⟨[.ref scr], []⟩) (CR L2.CX0 [] P w H st (fun v _ => v = .bl true) L2.E0) st) :
    codeAny (model P w) callerA (.call (.ref fa) ⟨[.ref scr], []⟩) (fun r s' => r = .ok (.ret (.bool true)) ∧ OldK st.heap s'.heap ∧ s'.os = st.os ∧ AllBare s'.gens) st := by
  have rv := vals_ints are
  have same := are.length
  have scrT : ¬ ∃ p ∈ cs, p.2 = scr := fun ⟨p, hp, e⟩ => by
    have z := W.tabs p hp
    rw [e, W.list] at z
    cases z
  have go : ∀ H : Hp, (∀ b, (∃ p ∈ cs, p.2 = b) → H b = some (.tbl #[])) → (∀ b, (¬ ∃ p ∈ cs, p.2 = b) → b ≠ scr → H b = none) → (H scr = none ∨ (K.lookup scr = none ∧ H scr = some (.frz { cls := .type "list", data := .seq vs.toArray } (.lst (ns.map V.int))))) → SqL K H scr (ns.map V.int) →
      codeAny (model P w) callerA (.call (.ref fa) ⟨[.ref scr], []⟩) (fun r s' => r = .ok (.ret (.bool true)) ∧ OldK st.heap s'.heap ∧ s'.os = st.os ∧ AllBare s'.gens) st := by
    intro H isTab noneElse atScr seq
    have few : Few K cs scr H := ⟨fun b z => by
      by_cases h : ∃ p ∈ cs, p.2 = b
      · exact .inr h
      · exact .inl (Decidable.byContradiction fun n => z (noneElse b h n)), fun z => (atScr.resolve_left z).1⟩
    have hok : HOk P w H st.heap := fun b ob e => by
      by_cases h : ∃ p ∈ cs, p.2 = b
      · rw [isTab b h] at e
        cases e
        obtain ⟨p, hp, rfl⟩ := h
        exact W.tabs p hp
      · by_cases n : b = scr
        · subst n
          rcases atScr with z | ⟨_, z⟩
          · rw [z] at e
            cases e
          · rw [z] at e
            cases e
            exact ⟨W.list, by rw [List.length_map]; exact short, vs, _, rv, W.list⟩
        · rw [noneElse b h n] at e
          cases e
    have tb : ∀ p ∈ cs, H p.2 = some (.tbl #[]) := fun p hp => isTab p.2 ⟨p, hp, rfl⟩
    exact codeAny_mono (run _ H (hid_in W few) (hid_ns W few W.glob) (hid_tab W few) tb seq (hid_env W few hok)) fun r s' told => behind W few hok tb (atScr.imp id fun z => ⟨_, _, z.2⟩) told
  cases hk : K.lookup scr with
  | some ob =>
    have e := W.kin scr ob hk
    rw [W.list] at e
    cases e
    exact go (fun b => if ∃ p ∈ cs, p.2 = b then some (.tbl #[]) else none) (fun b h => if_pos h) (fun b h _ => if_neg h) (.inl (if_neg scrT)) (.inr ⟨_, vs.toArray, _, hk, rfl, rfl, rfl, by rw [List.size_toArray, same]; exact short, by simpa using rv⟩)
  | none =>
    refine go (fun b => if b = scr then some (.frz { cls := .type "list", data := .seq vs.toArray } (.lst (ns.map V.int))) else if ∃ p ∈ cs, p.2 = b then some (.tbl #[]) else none) (fun b h => ?_) (fun b h n => ?_) (.inr ⟨hk, if_pos rfl⟩) (.inl (.inr ⟨_, if_pos rfl⟩))
    · exact (if_neg (fun z => scrT (by rw [← z]; exact h))).trans (if_pos h)
    · exact (if_neg n).trans (if_neg h)
end
end Gd
set_option Elab.async false
set_option linter.all false
set_option maxRecDepth 100000
set_option maxHeartbeats 3900000
/-! Defs that are run where no repr is under way; repr of data. -/
namespace Gd
open PySem PySem.Spec PyProof.Rows L2 LamX LmY
/-- as FnOk, where no repr is under way around the call -/
structure FnG (P : Program) (w : World) (K : PySem.W.Frag) (mg : Str → Option Value) (base : Heap) (k : Nat) (f : Addr) (fd : FuncData) (ps : List Str) (sp : Sp) : Prop where
  len : ∀ vs H Q E, sp vs H Q E → vs.length = ps.length
  run : ∀ (A : Around) (outer : List Env) (s : Shared) (H : Hp) (args : Args) (us : List Value) (vs : List V) (Q : VK), A.guards = some [] → Room k A → Env0 P w K mg base A outer s H → BindsTo s fd args (ps.zip us) → Vals vs us → sp vs H Q L2.E0 →
    codeAny (model P w) A (.call (.ref f) args) (CR L2.CX0 outer P w H s Q L2.E0) s
section
variable {P : Program} {w : World} {K : PySem.W.Frag} {mg : Str → Option Value} {base : Heap}
/-- a def of the text, by its body -/
theorem okG {x : Str} {st : Stmt} {f : Addr} {fd : FuncData} {N ps : List Str} {k : Nat} {sp : Sp} (F : Fun K x x st f fd) (S : FnScope N ps (defScope st)) (len : ∀ vs H Q E, sp vs H Q E → vs.length = ps.length)
    (body : ∀ (cdv : Value) (A : Around) (outer : List Env) (s : Shared) (H : Hp) (vs : List V) (Q : VK), A.guards = some [] → Room k (A.deeper (envOfC x (defScope st) s.heap.objs.size f cdv)) → sp vs H Q L2.E0 →
      ∃ t, PSs (cxOf L2.CX0 P w K mg base N x (defScope st) f cdv A outer s H L2.E0).nox (defBody st) t ∧ t { nx := fun _ H' => Q .non H', rt := Q } (L2.start N vs) H) : FnG P w K mg base (k + 1) f fd ps sp := by
  obtain ⟨oc, od, kV, doc, pm, an, cdv, ct, osl, rfl, look, code⟩ := F.ex
  refine ⟨len, fun A outer s H args us vs Q gu room e0 bind rel h => ?_⟩
  refine run_ofS look code S room e0 bind rel (len _ _ _ _ h) fun room1 => ?_
  obtain ⟨t, run, told⟩ := body cdv A outer s H vs Q gu room1 h
  exact ⟨t, run.nox, told⟩
/-- FnOk is more -/
theorem FnG.of {k : Nat} {f : Addr} {fd : FuncData} {ps : List Str} {sp : Sp} (F : FnOk P w K mg base L2.CX0 k f fd ps sp) : FnG P w K mg base k f fd ps sp := ⟨F.len, fun A outer s H args us vs Q _ room e0 bind rel h => F.run A outer s H args us vs Q L2.E0 room e0 bind rel h⟩
end
section
variable {X : Cx}
/-- x(e, ..), x such a def -/
theorem pe_callG {k : Nat} {f : Addr} {fd : FuncData} {ps : List Str} {sp : Sp} {x : Str} {p pos : Pos} {e : Expr} {es : List Expr} {t : TA} (F : FnG X.prog X.w X.K X.mg X.base k f fd ps sp) (gu : X.A.guards = some []) (room : Room k X.A) (gl : Gl X x) (mx : X.mg x = some (.ref f)) (kx : PySem.W.keepIn X.K (.ref f) = true)
    (bind : L2.Binds X.K fd ps []) (pa : PA X (e :: es) t) (h0 : (x == ("__debug__" : Str)) = false := by decide)
    (h1 : starEach (e :: es) X.env = (false, eval e X.env) :: starEach es X.env := by rfl) (h2 : (backTo pos (starEach es X.env)).any (·.1) = false := by rfl) :
    PE X (.Call (.Name x p) (e :: es) [] pos) (fun σ H Q => t σ H fun vs H1 => sp vs H1 Q L2.E0) := by
  refine ⟨fun pins s σ H Q I reading => wpAny_Call_Name_kw (ld_glob I gl mx (PySem.W.callWith_K (h₀ := X.base) I.ok.mod.kin kx (thn (pa.run pos pins s σ H _ I reading) fun us s1 ⟨vs, H1, I1, rel, q⟩ => ⟨I1.kIn, land (us := us) I1 ?_⟩) h1 h2) h0)⟩
  have given := bind s1 us I1.kIn (by rw [List.append_nil]; exact rel.length.symm.trans (F.len _ _ _ _ q))
  rw [List.append_nil] at given
  exact F.run X.A X.stack s1 H1 ⟨us, []⟩ us vs Q gu room I1.env0 given rel q
/-- repr of data, no repr being under way -/
theorem cr_reprD (gu : X.A.guards = some []) (un : X.A.units + 64 < cLine) : CallR X (.builtin "repr") (fun xs H Q => ∃ (a : Addr) (d : PyData), xs = [.ref a] ∧ Dp X.K H (.ref a) d ∧ d.showable = true ∧ d.hasDict = false ∧ d.depth ≤ 60 ∧ d.shown.length ≤ sizeLine ∧ Q (.str d.shown) H) := by
  intro pins s σ H xs us Q I rel ⟨a, d, ex, dp, sh, nd, dd, fits, q⟩
  subst ex
  rw [Vals.ref1 rel]
  obtain ⟨as, rd⟩ := Dp.reads I d (.ref a) (.ref a) dp rfl
  exact repr_of_reads' rd sh (fun e => by rw [nd] at e; cases e) gu (by omega) (fun _ _ e => e) (fun h' u tk kp => ⟨.str d.shown, H, I.kept kp, ⟨u, rfl⟩, q⟩) fits
end
/-- what the end wants of the law's def -/
def LawG (l : PySem.W.OpenLaw) (w : World) (K : PySem.W.Frag) (k n : Nat) (x : Str) (mg : Str → Option Value) (fa : Addr) (h : Heap) : Prop :=
  ∃ (fd : FuncData) (cs : List (Addr × Addr)) (sp : Sp), (∀ p ∈ cs, h.get? p.2 = some { cls := .none, data := .fields #[] }) ∧ (∀ p ∈ cs, K.lookup p.2 = none) ∧ (∀ p ∈ cs, PySem.W.CodeHd h p.1 p.2) ∧ (∀ (s : Shared) (u : Value), BindsTo s fd ⟨[u], []⟩ [(x, u)]) ∧
    (∀ (H : Hp) (a : Addr) (ns : List Int), ns.length ≤ n → (∀ z ∈ ns, Builtin.Int.intBits z ≤ 1048576) → (∀ p ∈ cs, H p.2 = some (.tbl #[])) → SqL K H a (ns.map V.int) → sp [.ref a] H (fun v _ => v = .bl true) L2.E0) ∧
    ∀ base : Heap, K.In base → base.Ns mainGlobals mg → (∀ p ∈ cs, TabB base mg p.1 p.2) → FnG l.prog w K mg base k fa fd [x] sp
/-- the end of a law some defs of which say repr, or hold lambdas: these ones' tables are still empty -/
theorem walk_guard {l : PySem.W.OpenLaw} {n k : Nat} {q : Program} {loose : List Str} {XP : (Str → Option Value) → Heap → Prop} {YP : World → Heap → Prop} {d : DefRec} {K : Params → PySem.W.Frag} {x : Str} (nms : List Str)
    (hn : l.most = some n) (line : n ≤ sizeLine) (hdf : d.params.defaults = []) (room : Room k callerA) (recs : ∀ nm ∈ nms, ((recsOf q).any fun e => e.name == nm) = true) (hY : ∀ (w : World) (h : Heap), YP w h → (K w.params).In h)
    (F : ∀ (w : World) (mg : Str → Option Value) (fa : Addr) (h : Heap), YP w h → (K w.params).In h → h.Ns mainGlobals mg → mg d.name = some (.ref fa) → (∀ nm ∈ nms, ∀ fw, mg nm = some (.ref fw) → OwnTab (K w.params) fw h) → LawG l w (K w.params) k n x mg fa h) :
    PySem.W.WalkO q loose XP YP l.row.toRowW d [] (fun f vs => PySem.call f vs) := by
  refine Att.attach_callB hn hdf fun w s0 s1 mg mb fa o pm cd doc a vs ns G Y ho hd hcd hmg hobj hints hlen hbits hg => ?_
  have KX := hY w _ Y
  have tabs : ∀ nm ∈ nms, ∀ fw, mg nm = some (.ref fw) → OwnTab (K w.params) fw s1.heap := by
    intro nm inn fw hw c P o1 fd1 e dd us sl look isF isC lookC at11
    obtain ⟨dR, mem, same⟩ := List.any_eq_true.mp (recs nm inn)
    have eN : dR.name = nm := beq_iff_eq.mp same
    obtain ⟨a2, o2, fd2, c2, P2, g1, g2, g3, g4, _, ⟨oc, vc, g5, _, g6, g7⟩, empty⟩ := G.T.tab dR mem
    rw [eN] at g1
    cases hw.symm.trans g1
    cases (KX _ _ look).symm.trans g2
    cases isF.symm.trans g3
    cases isC.symm.trans g4
    cases (KX _ _ lookC).symm.trans g5
    cases g6
    cases at11.symm.trans g7
    exact empty
  obtain ⟨fd, cs, sp, hT, nT, hC, hb, hsp, hF⟩ := F w mg fa _ Y KX G.T.g hmg tabs
  exact end_at ⟨KX, G.T.g, G.T.b, G.T.builtins, G.T.nolimit, hg, hT, nT, hC, G.T.bmain, hobj⟩ hints (Nat.le_trans hlen line) fun base H hK hG hB ht hS e0 =>
    (hF base hK hG hB).run callerA [] s1 H ⟨[.ref a], []⟩ [.ref a] [.ref a] _ rfl room e0 (hb s1 (.ref a)) (.cons rfl .nil) (hsp H a ns hlen hbits ht hS)
end Gd
set_option Elab.async false
set_option linter.all false
set_option maxRecDepth 100000
set_option maxHeartbeats 8000000
set_option pp.maxSteps 500
/-! k42: the law. -/
namespace Kf
open PySem PySem.Spec PyProof.Rows L2 Sx LmY LamX NdefX Gd
abbrev sLaw : Stmt := top 55
abbrev lawN : List Str := ["script", "k", "feed", "saying", "some", "thing", "kept", "due", "found", "turn", "one"]
theorem scLaw : FnScope lawN ["script"] (defScope sLaw) := ⟨rfl, rfl, rfl, by decide +kernel, rfl, by decide +kernel, by decide +kernel⟩
theorem cr_reprF {X : Cx} (gu : X.A.guards = some []) (un : X.A.units + 400 < cLine) : CallR X (.builtin "repr") (fun xs H Q => ∃ (a : Addr) (d : PyData), xs = [.ref a] ∧ Dp X.K H (.ref a) d ∧ d.showable = true ∧ d.hasDict = false ∧ d.depth ≤ 380 ∧ d.shown.length ≤ sizeLine ∧ Q (.str d.shown) H) := by
  intro pins s σ H xs us Q I rel ⟨a, d, ex, dp, sh, nd, dd, fits, q⟩
  subst ex
  rw [Vals.ref1 rel]
  obtain ⟨as, rd⟩ := Dp.reads I d (.ref a) (.ref a) dp rfl
  exact repr_of_reads' rd sh (fun e => by rw [nd] at e; cases e) gu (by omega) (fun _ _ e => e) (fun h' u tk kp => ⟨.str d.shown, H, I.kept kp, ⟨u, rfl⟩, q⟩) fits
theorem lo62 {r : Int} (h : 0 ≤ r) : -(2 ^ 62) ≤ r := Int.le_trans (by decide) h
theorem hi62 {r : Int} (h : r ≤ 1000) : r < 2 ^ 62 := Int.lt_of_le_of_lt h (by decide)
/-! ### sayings as data -/
theorem ats_w {w : Str} (h : ats (.str w) = true) (r : List PyData) (hr : atss r = true) : ats (.tuple (.str w :: r)) = true := by
  show (ats (.str w) && atss r) = true
  rw [h, hr]
  rfl
theorem ats_lf {c : Nat} (hc : c ≤ 100) {l : Lf} (h : l.Ok c) : ats l.tr.dat = true := by
  cases l with
  | num n =>
    have h : n ≤ 5 := h
    exact ats_w (by decide +kernel) _ (by
      show (ats (.int (n : Int)) && true) = true
      rw [show ats (.int (n : Int)) = true from decide_eq_true (Nat.lt_of_le_of_lt (show (n : Int).natAbs ≤ 100 by omega) (by decide))]
      rfl)
  | bnd k =>
    have h : k < c := h
    exact ats_w (by decide +kernel) _ (by
      show (ats (.int (k : Int)) && true) = true
      rw [show ats (.int (k : Int)) = true from decide_eq_true (Nat.lt_of_le_of_lt (show (k : Int).natAbs ≤ 100 by omega) (by decide))]
      rfl)
theorem ats_1 {w : Str} (h : ats (.str w) = true) {a : PyData} (ha : ats a = true) : ats (.tuple [.str w, a]) = true := ats_w h _ (by
  show (ats a && true) = true
  rw [ha]
  rfl)
theorem ats_2 {w : Str} (h : ats (.str w) = true) {a b : PyData} (ha : ats a = true) (hb : ats b = true) : ats (.tuple [.str w, a, b]) = true := ats_w h _ (by
  show (ats a && (ats b && true)) = true
  rw [ha, hb]
  rfl)
theorem ats_tm {c : Nat} (hc : c ≤ 100) {t : Tm} (h : t.Ok c) : ats t.tr.dat = true := by
  cases t with
  | lf l => exact ats_lf hc h
  | nx l => exact ats_1 (by decide +kernel) (ats_lf hc h)
  | pl l m => exact ats_2 (by decide +kernel) (ats_lf hc h.1) (ats_lf hc h.2)
  | ti l m => exact ats_2 (by decide +kernel) (ats_lf hc h.1) (ats_lf hc h.2)
theorem ats_sy : ∀ {s : Sy} {c : Nat}, c + s.dp ≤ 100 → s.Ok c → ats s.tr.dat = true
  | .same a b, c, hc, h => by
    have hc : c + 1 ≤ 100 := hc
    exact ats_2 (by decide +kernel) (ats_tm (by omega) h.1) (ats_tm (by omega) h.2)
  | .no, c, hc, h => by decide +kernel
  | .and a b, c, hc, h => by
    have hc : c + (max a.dp b.dp + 1) ≤ 100 := hc
    exact ats_2 (by decide +kernel) (ats_sy (by omega) h.1) (ats_sy (by omega) h.2)
  | .cond a b, c, hc, h => by
    have hc : c + (max a.dp b.dp + 1) ≤ 100 := hc
    exact ats_2 (by decide +kernel) (ats_sy (by omega) h.2.1) (ats_sy (by omega) h.2.2)
  | .or a b, c, hc, h => by
    have hc : c + (max a.dp b.dp + 1) ≤ 100 := hc
    exact ats_2 (by decide +kernel) (ats_sy (by omega) h.1) (ats_sy (by omega) h.2)
  | .some a, c, hc, h => by
    have hc : c + (a.dp + 1) ≤ 100 := hc
    exact ats_1 (by decide +kernel) (ats_sy (s := a) (c := c + 1) (by omega) h)
theorem psz_dat : ∀ t : Tr, t.Ok → psz t.dat ≤ 3 * t.size
  | .leaf w x, ok => by
    rcases leaf_val ok with ⟨i, rfl⟩ | ⟨z, rfl⟩ <;> exact (by decide : 1 + (1 + (1 + 0)) ≤ 3 * 1)
  | .n0 w, _ => (by decide : 1 + (1 + 0) ≤ 3 * 1)
  | .n1 w a, ok => by
    have := psz_dat a ok.2
    show 1 + (1 + (psz a.dat + 0)) ≤ 3 * (a.size + 1)
    omega
  | .n2 w a b, ok => by
    have := psz_dat a ok.2.1
    have := psz_dat b ok.2.2
    show 1 + (1 + (psz a.dat + (psz b.dat + 0))) ≤ 3 * (a.size + b.size + 1)
    omega
/-- a saying and a thing can be written -/
theorem wr_both {s : Sy} {e : PyData} (ok : s.Ok 0) (dp : s.dp ≤ 8) (bt : Bt 3000 330 e) : (PyData.list [s.tr.dat, e]).showable = true ∧ (PyData.list [s.tr.dat, e]).hasDict = false ∧ (PyData.list [s.tr.dat, e]).depth ≤ 380 ∧ (PyData.list [s.tr.dat, e]).shown.length ≤ sizeLine := by
  have l := lk_of ok dp
  have a := ats_sy (c := 0) (by omega) ok
  have z := psz_dat s.tr (okt_sy s)
  have d1 := (lay_dat s.tr (okt_sy s) (lay_sy s)).2
  have l2 := l.sz
  have l3 := l.dp
  have b1 := bt.sz
  have b2 := bt.dp
  have at2 : ats (.list [s.tr.dat, e]) = true := by
    show (ats s.tr.dat && (ats e && true)) = true
    rw [a, bt.ats]
    rfl
  have f := fit _ at2
  have fl := f.len
  have pz : psz (.list [s.tr.dat, e]) = 1 + (psz s.tr.dat + (psz e + 0)) := rfl
  have de : (PyData.list [s.tr.dat, e]).depth = max s.tr.dat.depth (max e.depth 0) + 1 := rfl
  exact ⟨f.show_, f.dict, by omega, by rw [sizeLine_eq]; omega⟩
theorem ths_bn {n : Nat} {d : PyData} (h : Ths n d) : Bn d := ⟨h.ats, h.sml, h.prs⟩
theorem ths_bt {d : PyData} (h : Ths 8 d) : Bt 3000 330 d := ⟨h.ats, h.sml, by have := h.sz; have e : 4 * 2 ^ 8 = 1024 := by decide
                                                                               omega, by have := h.dp; omega⟩
theorem bt_bt {d e : PyData} (h : Ths 8 d) (b : Bt (2 * psz d + 400) (d.depth + 310) e) : Bt 3000 330 e := ⟨b.ats, b.sml, by
  have := h.sz
  have e : 4 * 2 ^ 8 = 1024 := by decide
  have := b.sz
  omega, by
  have := h.dp
  have := b.dp
  omega⟩
theorem same_seq {K : PySem.W.Frag} {a : Addr} {H H' : Hp} {xs : List V} (b : ExtN H H') (h : SqL K H a xs) : SqL K H' a xs := sqL_nt (ext_nt b) h
theorem ext_of {f : Addr} {H H0 H1 H2 : Hp} (a : ExtN H H0) (n : H0 f = none) (s : Same H0 H1) (b : But f H1 H2) : ExtN H H2 := fun c o e k => b c o (fun z => by
  have z2 := a c o e k
  rw [z, n] at z2
  cases z2) (s _ _ (a c o e k))
theorem tabs_but {T : List (Addr × Str)} {f : Addr} {X X' : Hp} (hF : FeedAt X f) (h : Tabs T X) (b : But f X X') : Tabs T X' := fun p hp => by
  obtain ⟨ps, h1, h2, h3⟩ := h p hp
  obtain ⟨x, y, e, _⟩ := hF
  refine ⟨ps, b _ _ (ne_of h1 e (by intro z; cases z)) h1, h2, fun pos cv hc => ?_⟩
  obtain ⟨c, e1, e2⟩ := h3 pos cv hc
  exact ⟨c, e1, b _ _ (ne_of e2 e (by intro z; unfold CodeO at z; cases z)) e2⟩
theorem but_own2 {f D : Addr} {H X : Hp} {o : HO} (b : But f H X) (n : ∀ o, H D = some o → False) : But f H (upd X D o) := fun c u k e => by
  rw [upd_ne (fun z => n u (by rw [← z]; exact e))]
  exact b _ _ k e
theorem feed_put {f D : Addr} {X : Hp} {o : HO} (h : FeedAt X f) (n : D ≠ f) : FeedAt (upd X D o) f := by
  obtain ⟨x, y, e, q⟩ := h
  exact ⟨x, y, by rw [upd_ne n.symm]; exact e, q⟩
theorem cut_to1 {xs : List V} : cutV xs none (some 1) = xs.take 1 := by
  unfold cutV
  rw [HT.sIx_none, show HT.sIx xs.length xs.length (some 1) = min 1 xs.length from HT.sIx_nat _ _ 1, List.drop_zero, Nat.sub_zero]
  rcases Nat.le_total 1 xs.length with h | h
  · rw [Nat.min_eq_left h]
  · rw [Nat.min_eq_right h, List.take_length, List.take_of_length_le h]
def spLaw (K : PySem.W.Frag) (T : List (Addr × Str)) : Sp := fun vs H Q _ => ∃ (a : Addr) (ns : List Int), vs = [.ref a] ∧ SqL K H a (ns.map V.int) ∧ ns.length ≤ 63 ∧ (∀ z ∈ ns, Builtin.Int.intBits z ≤ 1048576) ∧ Tabs T H ∧ ∀ H', Q (.bl true) H'
section
variable {P : Program} {w : World} {K : PySem.W.Frag} {mg : Str → Option Value} {base : Heap} {T0 : List (Addr × Str)}
structure Calls (P : Program) (w : World) (K : PySem.W.Frag) (mg : Str → Option Value) (base : Heap) (T0 : List (Addr × Str)) (ff fs fd fo fb fi fr fe : Addr) (df ds dd do_ db di dr de : FuncData) : Prop where
  Fd : FnOk P w K mg base CX0 1 ff df ["script", "k"] (spFeed K)
  bFd : L2.Binds K df ["script", "k"] []
  kFd : PySem.W.keepIn K (.ref ff) = true
  mFd : mg "_law_feed" = some (.ref ff)
  Se : FnOk P w K mg base CX0 12 fs ds ["feed", "deep", "around", "left"] (spSeen 5)
  bSe : L2.Binds K ds ["feed", "deep", "around", "left"] []
  kSe : PySem.W.keepIn K (.ref fs) = true
  mSe : mg "_law_seen" = some (.ref fs)
  Dw : FnOk P w K mg base CX0 18 fd dd ["feed", "saying"] (spDw K 8)
  bDw : L2.Binds K dd ["feed", "saying"] []
  kDw : PySem.W.keepIn K (.ref fd) = true
  mDw : mg "_law_drawn" = some (.ref fd)
  So : FnOk P w K mg base CX0 26 fo do_ ["saying", "bound"] (spSo K 8)
  bSo : L2.Binds K do_ ["saying", "bound"] []
  kSo : PySem.W.keepIn K (.ref fo) = true
  mSo : mg "_law_sought" = some (.ref fo)
  Bn : FnOk P w K mg base CX0 12 fb db ["feed", "thing"] (spBn K 10)
  bBn : L2.Binds K db ["feed", "thing"] []
  kBn : PySem.W.keepIn K (.ref fb) = true
  mBn : mg "_law_bent" = some (.ref fb)
  Fi : FnOk P w K mg base CX0 19 fi di ["saying", "thing"] (spFi K 8)
  bFi : L2.Binds K di ["saying", "thing"] []
  kFi : PySem.W.keepIn K (.ref fi) = true
  mFi : mg "_law_fits" = some (.ref fi)
  Bo : FnOk P w K mg base CX0 19 fr dr ["saying", "thing"] (spBo K 8)
  bBo : L2.Binds K dr ["saying", "thing"] []
  kBo : PySem.W.keepIn K (.ref fr) = true
  mBo : mg "_law_borne" = some (.ref fr)
  Be : FnOk P w K mg base CX0 6 fe de ["saying", "thing"] (spBe K T0)
  bBe : L2.Binds K de ["saying", "thing"] []
  kBe : PySem.W.keepIn K (.ref fe) = true
  mBe : mg "bears" = some (.ref fe)
  zRange : mg "range" = none
  zMax : mg "max" = none
  zMin : mg "min" = none
  zLen : mg "len" = none
  zRepr : mg "repr" = none
  zIsinstance : mg "isinstance" = none
  zBool : mg "bool" = none
theorem ok_law {f ff fs fd_ fo fb fi fr fe : Addr} {fd df ds dd do_ db di dr de : FuncData} (F : Fun K "law" "law" sLaw f fd) (C : Calls P w K mg base T0 ff fs fd_ fo fb fi fr fe df ds dd do_ db di dr de) : FnG P w K mg base 27 f fd ["script"] (spLaw K T0) := by
  refine okG F scLaw (fun vs H Q E h => ?_) (fun cdv A outer s0 H vs Q gu hr h => ?_)
  · obtain ⟨a, ns, rfl, _⟩ := h
    rfl
  obtain ⟨a, ns, rfl, hS, hlen, hb, hT0, q⟩ := h
  have h19 : Room 19 _ := hr.mono (by decide)
  have h18 : Room 18 _ := hr.mono (by decide)
  have h12 : Room 12 _ := hr.mono (by decide)
  have h6 : Room 6 _ := hr.mono (by decide)
  have h1 : Room 1 _ := hr.mono (by decide)
  have u4 : (A.deeper (envOfC "law" (defScope sLaw) s0.heap.objs.size f cdv)).units + 400 < cLine := by
    have := hr.un
    omega
  refine ⟨_, (pss_cons (ps_for PassesOwn.never rfl (pi_range1 (by rfl) C.zRange (pa_cons (pe_callB (call_max2 rfl) (by rfl) C.zMax (by decide +kernel) (pa_cons pe_int (pa_cons (pe_callB (call_min2 rfl) (by rfl) C.zMin (by decide +kernel) (pa_cons pe_int (pa_cons (pe_callB call_len_seq (by rfl) C.zLen PySem.boot_len (pa_cons (pv 0) pa_nil)) pa_nil))) pa_nil))) pa_nil)) (pg_name (i := 1) scLaw.nd rfl (.inl rfl)) (pss_cons (ps_set (i := 2) scLaw.nd rfl (.inr rfl) (pe_call C.Fd h1 (by rfl) C.mFd C.kFd C.bFd .nil pass0 (pa_cons (pv 0) (pa_cons (pv 1) pa_nil))))
    (pss_cons (ps_set (i := 3) scLaw.nd rfl (.inr rfl) (pe_call C.Se h12 (by rfl) C.mSe C.kSe C.bSe .nil pass0 (pa_cons (pv 2) (pa_cons pe_int (pa_cons pe_int (pa_cons pe_int pa_nil))))))
    (pss_cons (ps_set (i := 4) scLaw.nd rfl (.inl rfl) (pe_op op_cat (pe_lc (own := [("turn", 9)]) (g := gName 9) (tt := tYes) (by rfl) scLaw.nd (pi_range1 (by rfl) C.zRange (pa_cons pe_int pa_nil)) (blkOk_by (N := lawN) (sc := defScope sLaw) (by decide +kernel)) (fun _ _ _ _ _ => pg_name (i := 9) scLaw.nd rfl (Or.inl rfl)) (fun _ _ _ _ _ => pts_nil) (fun _ _ _ _ _ => (pe_call C.Dw h18 (by rfl) C.mDw C.kDw C.bDw .nil pass0 (pa_cons (pv 2) (pa_cons (pv 3) pa_nil))))) (pe_slice sl_list (pe_call C.So hr (by rfl) C.mSo C.kSo C.bSo .nil pass0 (pa_cons (pv 3) (pa_cons pe_int pa_nil))) po_none (po_some pe_int))))
    (pss_one (ps_for PassesOwn.never rfl (pi_list (pe_op op_cat (pv 4) (pe_lc (own := [("one", 10)]) (g := gName 10) (tt := tYes) (by rfl) scLaw.nd (pi_list (pe_op op_cat (pv 4) (pv 4))) (blkOk_by (N := lawN) (sc := defScope sLaw) (by decide +kernel)) (fun _ _ _ _ _ => pg_name (i := 10) scLaw.nd rfl (Or.inl rfl)) (fun _ _ _ _ _ => pts_nil) (fun _ _ _ _ _ => (pe_call C.Bn h12 (by rfl) C.mBn C.kBn C.bBn .nil pass0 (pa_cons (pv 2) (pa_cons (pv 10) pa_nil))))))) (pg_name (i := 5) scLaw.nd rfl (.inl rfl)) (pss_cons (ps_set (i := 6) scLaw.nd rfl (.inl rfl) (pe_callB (cr_reprF gu u4) (by rfl) C.zRepr (by decide +kernel) (pa_cons (pe_lst (pa_cons (pv 3) (pa_cons (pv 5) pa_nil))) pa_nil)))
    (pss_cons (ps_set (i := 7) scLaw.nd rfl (.inl rfl) (pe_and (pe_call C.Fi h19 (by rfl) C.mFi C.kFi C.bFi .nil pass0 (pa_cons (pv 3) (pa_cons (pv 5) pa_nil))) (pe_one (pe_call C.Bo h19 (by rfl) C.mBo C.kBo C.bBo .nil pass0 (pa_cons (pv 3) (pa_cons (pv 5) pa_nil))))))
    (pss_cons (ps_set (i := 8) scLaw.nd rfl (.inl rfl) (pe_call C.Be h6 (by rfl) C.mBe C.kBe C.bBe .nil pass0 (pa_cons (pv 3) (pa_cons (pv 5) pa_nil))))
    (pss_one (ps_if (PW.pt (pw_or (pt_not (pt_val (pe_callB call_isi (by rfl) C.zIsinstance (by decide +kernel) (pa_cons (pv 8) (pa_cons (pe_bltn (v := .ty "bool") (by rfl) C.zBool (by decide +kernel) rfl) pa_nil))))) (pw_or (pt_cmpR op_ne (pv 8) (pv 7) (nomark _)) (pw_or1 (pt_cmpR op_ne (pe_callB (cr_reprF gu u4) (by rfl) C.zRepr (by decide +kernel) (pa_cons (pe_lst (pa_cons (pv 3) (pa_cons (pv 5) pa_nil))) pa_nil)) (pv 6) (nomark _)))))) (pss_one (ps_ret pe_bl)) pss_nil)))))))))))
    (pss_one (ps_ret pe_bl))), ?_⟩
  have bounds : ∀ n : Int, 0 ≤ n → (2 : Int) ≤ (if (if n < 5 then n else 5) > 2 then (if n < 5 then n else 5) else 2) ∧ (if (if n < 5 then n else 5) > 2 then (if n < 5 then n else 5) else 2) ≤ 5 := fun n _ => by
    split
    · split <;> omega
    · omega
  obtain ⟨bn1, bn2⟩ := bounds ((ns.map V.int).length : Nat) (Int.natCast_nonneg _)
  refine ⟨_, rfl, a, _, rfl, .inl hS, _, _, rfl, _, _, rfl, _, rfl, lo62 (by omega), hi62 (by omega), ?_⟩
  generalize (if (if (((ns.map V.int).length : Nat) : Int) < 5 then (((ns.map V.int).length : Nat) : Int) else 5) > 2 then (if (((ns.map V.int).length : Nat) : Int) < 5 then (((ns.map V.int).length : Nat) : Int) else 5) else 2) = turns at bn1 bn2 ⊢
  refine for_range (lo := 0) (n := turns.toNat) (fun i σ H' => ∃ y1 y2 y3 y4 y5 y6 y7 y8 y9 y10 : Option V, σ = [some (.ref a), y1, y2, y3, y4, y5, y6, y7, y8, y9, y10] ∧ ExtN H H' ∧ Tabs T0 H')
    ⟨none, none, none, none, none, none, none, none, none, none, rfl, ExtN.refl _, hT0⟩ ?_ ?_
  · rintro i σ H0 hi ⟨y1, y2, y3, y4, y5, y6, y7, y8, y9, y10, rfl, e0, hT⟩
    refine ⟨_, rfl, _, rfl, a, ns, i, (by show [V.ref a, V.int (0 + (i : Int))] = _; rw [Int.zero_add]), same_seq e0 hS, hb, by omega, fun f1 H1 s1 nf1 hF1 => ?_⟩
    have hT1 := tabs_same hT s1
    -- the saying
    refine ⟨_, rfl, f1, 4, 0, 3, rfl, by decide, ⟨by decide, by decide⟩, hF1, fun t sv H2 mk hA b2 hF2 => ?_⟩
    obtain ⟨s, rfl, ok, dp6⟩ := mk
    have ok : s.Ok 0 := ok
    have hT2 := tabs_but hF1 hT1 b2
    -- drawn ones
    refine ⟨_, rfl, by decide, by decide, fun D nD => ?_⟩
    have sD := same_new (o := HO.lst []) nD
    have nDf := hF2.ne nD
    have nD1 : ∀ o, H1 D = some o → False := fun o e => by
      by_cases z : D = f1
      · exact nDf z
      · have z2 := b2 _ _ z e
        rw [nD] at z2
        cases z2
    refine lc_range (lo := 0) (n := 3) (fun j X => ∃ us ds, X D = some (.lst us) ∧ DtAll K X us ds ∧ (∀ d ∈ ds, Ths 8 d) ∧ ds.length = j ∧ But f1 H1 X ∧ FeedAt X f1 ∧ Tabs T0 X ∧ At X s.tr sv)
      ⟨[], [], upd_same, .nil, (fun _ h => nomatch h), rfl, b2.trans (but_same sD), hF2.same sD, tabs_same hT2 sD, hA.keep (tups_same sD)⟩ ?_ ?_
    · rintro j X hj ⟨us, ds, hD, al, ths, lj, bX, hFX, hTX, hAX⟩
      have lu := dps_len al
      refine ⟨rfl, _, rfl, _, rfl, f1, sv, s, 0, rfl, hAX, ok, by omega, by omega, by omega, hFX, fun u d X2 th hu b3 hF3 => ?_⟩
      have hD2 := b3 _ _ nDf hD
      have t2 := hFX.tups b3
      have hT3 := tabs_but hFX hTX b3
      refine ⟨_, hD2, few_of' (by omega), us ++ [u], ds ++ [d], upd_same, dta_app (DtAll.keep (DtAll.keep al t2) (tups_lst hD2)) (dta_one (Dt.keep hu (tups_lst hD2))), fun e he => ?_, by rw [List.length_append, lj]; rfl, but_own2 (bX.trans b3) nD1, feed_put hF3 nDf, tabs_own hT3 hD2, (hAX.keep t2).keep (tups_lst hD2)⟩
      rcases List.mem_append.mp he with he | he
      · exact ths e he
      · rw [List.mem_singleton.mp he]
        exact th
    rintro X ⟨us, ds, hD, al, ths, lj, bX, hFX, hTX, hAX⟩
    have lu := dps_len al
    have e256 : 2 ^ 8 = 256 := by decide
    -- what is sought
    refine ⟨_, rfl, sv, s, rfl, hAX, ok, by omega, by omega, by decide, fun ls us2 ds2 H3 s3 LS => ?_⟩
    have ll := LS.len
    have lu2 := dps_len LS.dt
    refine ⟨1, rfl, ls, _, rfl, .inl (.inl LS.at_), fun lc nlc => ?_⟩
    rw [cut_to1]
    have s4 := same_new (o := HO.lst (us2.take 1)) nlc
    have s34 := same_trans s3 s4
    have flc : upd H3 lc (.lst (us2.take 1)) lc = _ := upd_same
    have dt2' : DtAll K (upd H3 lc (.lst (us2.take 1))) (us2.take 1) (ds2.take 1) := dps_take 1 (LS.dt.keep (tups_same s4))
    generalize upd H3 lc (.lst (us2.take 1)) = H4 at s34 flc dt2' ⊢
    have l1 : (us2.take 1).length ≤ 1 := List.length_take_le _ _
    refine ⟨D, lc, _, _, rfl, rfl, s34 _ _ hD, flc, Nat.le_of_lt (few_of' (by omega)), fun lm nlm => ?_⟩
    have nlmf := (hFX.same s34).ne nlm
    have s5 := same_new (o := HO.lst (us ++ us2.take 1)) nlm
    have s35 := same_trans s34 s5
    have flm : upd H4 lm (.lst (us ++ us2.take 1)) lm = _ := upd_same
    obtain ⟨vs, dv, evs, alv, thv, lv⟩ : ∃ vs dv, us ++ us2.take 1 = vs ∧ DtAll K (upd H4 lm (.lst (us ++ us2.take 1))) vs dv ∧ (∀ d ∈ dv, Ths 8 d) ∧ vs.length ≤ 4 := ⟨_, ds ++ ds2.take 1, rfl, dta_app (al.keep (tups_same s35)) (DtAll.keep dt2' (tups_same s5)), fun d hd => by
      rcases List.mem_append.mp hd with hd | hd
      · exact ths d hd
      · exact LS.th d (List.mem_of_mem_take hd), by rw [List.length_append]; omega⟩
    rw [evs] at flm alv s5 s35 ⊢
    have hF5 := hFX.same s35
    have hT5 := tabs_same hTX s35
    have hA5 := hAX.keep (tups_same s35)
    have b5 := bX.trans (but_same (f := f1) s35)
    generalize upd H4 lm (.lst vs) = H5 at flm alv hF5 hT5 hA5 b5 ⊢
    clear s5 s35 s34 s3 s4 nlm nlc flc LS hD al ths lj bX hFX hTX hAX dt2'
    -- with what is bent
    refine ⟨_, rfl, _, rfl, _, rfl, lm, lm, _, _, rfl, rfl, flm, flm, Nat.le_of_lt (few_of' (by omega)), fun l2 nl2 => ?_⟩
    have s6 := same_new (o := HO.lst (vs ++ vs)) nl2
    have fl2 : upd H5 l2 (.lst (vs ++ vs)) l2 = _ := upd_same
    have flm := s6 _ _ flm
    have alv := alv.keep (tups_same s6)
    have hF6 := hF5.same s6
    have hT6 := tabs_same hT5 s6
    have hA6 := hA5.keep (tups_same s6)
    have b6 := b5.trans (but_same (f := f1) s6)
    have nl2f := hF5.ne nl2
    generalize upd H5 l2 (.lst (vs ++ vs)) = H6 at fl2 flm alv hF6 hT6 hA6 b6 ⊢
    refine ⟨l2, rfl, ⟨_, .inl (.inl fl2)⟩, fun E nE => ?_⟩
    have sE := same_new (o := HO.lst []) nE
    have nEf := hF6.ne nE
    have nE1 : ∀ o, H1 E = some o → False := fun o e => by
      by_cases z : E = f1
      · exact nEf z
      · have z2 := b6 _ _ z e
        rw [nE] at z2
        cases z2
    have nlm : lm ≠ E := ne_of_none flm nE
    have nl2E : l2 ≠ E := ne_of_none fl2 nE
    refine lc_list (K := K) (a := l2) (xs := vs ++ vs) (fun j X => ∃ ws es, X E = some (.lst ws) ∧ DfAll K [E, f1] X ws es ∧ (∀ e ∈ es, Bt 3000 330 e) ∧ es.length = j ∧ But f1 H1 X ∧ FeedAt X f1 ∧ Tabs T0 X ∧ At X s.tr sv ∧ X lm = some (.lst vs) ∧ X l2 = some (.lst (vs ++ vs)) ∧ DtAll K X vs dv)
      ⟨[], [], upd_same, .nil, (fun _ h => nomatch h), rfl, b6.trans (but_same sE), hF6.same sE, tabs_same hT6 sE, hA6.keep (tups_same sE), sE _ _ flm, sE _ _ fl2, alv.keep (tups_same sE)⟩
      (fun j X _ ⟨_, _, _, _, _, _, _, _, _, _, _, h2, _⟩ => .inl (.inl h2)) ?_ ?_
    · rintro j x X hx ⟨ws, es, hE, al, bts, lj, bX, hFX, hTX, hAX, hlm, hl2, alX⟩
      have jl : j < (vs ++ vs).length := (List.getElem?_eq_some_iff.mp hx).1
      rw [List.length_append] at jl
      obtain ⟨d1, hd1, dt1⟩ := dps_get (dta_app alX alX) hx
      have th1 : Ths 8 d1 := by
        rcases List.mem_append.mp (List.mem_of_getElem? hd1) with h | h <;> exact thv d1 h
      have hZ : LS X [E, f1] := fun c hc => by
        rcases List.mem_cons.mp hc with rfl | hc
        · exact ⟨_, hE⟩
        · exact lsf hFX c hc
      have lw := dps_len al
      refine ⟨rfl, _, rfl, _, rfl, [E, f1], f1, x, d1, rfl, by simp, hZ, ths_bn th1, by have := th1.dp; omega, dt1, hFX, fun u e X2 bt hu b3 hF3 => ?_⟩
      have hE2 := b3 _ _ nEf hE
      have hT3 := tabs_but hFX hTX b3
      have t2 := hFX.tups b3
      have bE : But E X2 (upd X2 E (.lst (ws ++ [u]))) := (But.refl E X2).own
      have m1 : E ∈ [E, f1] := List.mem_cons_self
      have m2 : f1 ∈ [E, f1] := List.mem_cons_of_mem _ (List.mem_singleton.mpr rfl)
      refine ⟨_, hE2, few_of' (by omega), ws ++ [u], es ++ [e], upd_same, dps_app (DfAll.but m1 bE (DfAll.but m2 b3 al)) (.cons (Df.but m1 bE hu) .nil), fun e' he => ?_, by rw [List.length_append, lj]; rfl, but_own2 (bX.trans b3) nE1, feed_put hF3 nEf, tabs_own hT3 hE2, (hAX.keep t2).keep (tups_lst hE2), ?_, ?_, DtAll.keep (DtAll.keep alX t2) (tups_lst hE2)⟩
      · rcases List.mem_append.mp he with he | he
        · exact bts e' he
        · rw [List.mem_singleton.mp he]
          exact bt_bt th1 bt
      · rw [upd_ne nlm]
        exact b3 _ _ nlmf hlm
      · rw [upd_ne nl2E]
        exact b3 _ _ nl2f hl2
    rintro X ⟨ws, es, hE, al, bts, lj, bX, hFX, hTX, hAX, hlm, hl2, alX⟩
    have lw := dps_len al
    rw [List.length_append] at lj
    refine ⟨lm, E, _, _, rfl, rfl, hlm, hE, Nat.le_of_lt (few_of' (by omega)), fun l3 nl3 => ?_⟩
    have s9 := same_new (o := HO.lst (vs ++ ws)) nl3
    have fl3 : upd X l3 (.lst (vs ++ ws)) l3 = _ := upd_same
    have hT9 := tabs_same hTX s9
    have hA9 := hAX.keep (tups_same s9)
    have b9 := bX.trans (but_same (f := f1) s9)
    have items : ∀ x ∈ vs ++ ws, ∃ e, Dp K (upd X l3 (.lst (vs ++ ws))) x e ∧ Bt 3000 330 e := fun x hx => by
      rcases List.mem_append.mp hx with hx | hx
      · obtain ⟨d, hd, hdt⟩ := dps_mem alX hx
        exact ⟨d, dp_up s9 _ _ (dp_up tups_in _ _ hdt), ths_bt (thv d hd)⟩
      · obtain ⟨d, hd, hdt⟩ := dps_mem al hx
        exact ⟨d, dp_up s9 _ _ (dp_up delS_same _ _ hdt), bts d hd⟩
    have e9 := ext_of e0 nf1 s1 b9
    generalize upd X l3 (.lst (vs ++ ws)) = X9 at fl3 hT9 hA9 items e9 ⊢
    clear s9 hE al bts bX hFX hTX hAX hlm hl2 alX sE nE flm fl2 alv hF6 hT6 hA6 b6 b9
    refine ⟨l3, rfl, ⟨_, .inl (.inl fl3)⟩, ?_⟩
    refine for_list (K := K) (a := l3) (xs := vs ++ ws) (fun j σ Y => ∃ y5 y6 y7 y8 y9 y10 : Option V, σ = [some (.ref a), some (.int (0 + (i : Int))), some (.ref f1), some sv, some (.ref lm), y5, y6, y7, y8, y9, y10] ∧ ExtN X9 Y ∧ Tabs T0 Y)
      ⟨_, _, _, _, _, _, rfl, ExtN.refl _, hT9⟩ (fun j σ Y _ ⟨_, _, _, _, _, _, _, eY, _⟩ => .inl (.inl (eY _ _ fl3 (fun ps z => by cases z)))) ?_ ?_
    · rintro j x σ Y hx ⟨y5, y6, y7, y8, y9, y10, rfl, eY, hTY⟩
      obtain ⟨e, he, bt⟩ := items x (List.mem_of_getElem? hx)
      have hA := hA9.keep (ext_tups eY)
      have he := dp_nt (ext_nt eY) _ _ he
      obtain ⟨w1, w2, w3, w4⟩ := wr_both ok (by omega) bt
      refine ⟨_, rfl, _, rfl, (by decide : 2 ≤ sizeLine), fun r1 nr1 => ⟨r1, .list [s.tr.dat, e], rfl, .lst (.inl (.inl upd_same)) (.cons ((hA.keep (tups_same (same_new nr1))).dp (okt_sy s)) (.cons (dp_up (same_new nr1) _ _ he) .nil)), w1, w2, w3, w4, ?_⟩⟩
      have s1' := same_new (o := HO.lst [sv, x]) nr1
      refine ⟨_, rfl, _, rfl, sv, x, s, e, 0, rfl, hA.keep (tups_same s1'), ok, by omega, by omega, by omega, dp_up s1' _ _ he, bt.ats, fun Y2 s2 => ?_⟩
      have s12 := same_trans s1' s2
      refine ⟨_, rfl, ?_⟩
      cases fit : fitsD s.kind e with
      | false =>
      have hb : (fitsD s.kind e && borne s e) = false := by rw [fit]; rfl
      refine condF rfl ?_
      refine ⟨_, rfl, _, rfl, sv, x, s, e, rfl, hA.keep (tups_same s12), ok, by omega, dp_up s12 _ _ he, bt.ats, bt.sml, tabs_same hTY s12, fun Y4 e4 t4 => ?_⟩
      rw [hb]
      refine ⟨_, rfl, _, _, _, _, isB (.bool _), rfl, .ty "bool", dp_ty (.bl _), kit_b _, _, rfl, condF rfl ?_⟩
      refine ⟨_, rfl, _, rfl, rfl, _, rfl, condF (by rw [decide_eq_true rfl]; rfl) ?_⟩
      have eY4 := (ext_same s12).trans e4
      have hA4 := hA.keep (ext_tups eY4)
      have he4 := dp_nt (ext_nt eY4) _ _ he
      refine ⟨_, rfl, _, rfl, (by decide : 2 ≤ sizeLine), fun r2 nr2 => ⟨r2, .list [s.tr.dat, e], rfl, .lst (.inl (.inl upd_same)) (.cons ((hA4.keep (tups_same (same_new nr2))).dp (okt_sy s)) (.cons (dp_up (same_new nr2) _ _ he4) .nil)), w1, w2, w3, w4, ?_⟩⟩
      refine ⟨_, rfl, rfl, _, rfl, condF (by rw [decide_eq_true rfl]; rfl) ?_⟩
      exact ⟨_, _, _, _, _, _, rfl, eY.trans (eY4.trans (ext_same (same_new nr2))), tabs_same t4 (same_new nr2)⟩
      | true =>
      refine condT rfl ⟨_, rfl, _, rfl, sv, x, s, e, rfl, hA.keep (tups_same s12), ⟨ok, by omega, fit, bt.sml, bt.ats⟩, by omega, dp_up s12 _ _ he, fun Y3 s3' => ?_⟩
      have s13 := same_trans s12 s3'
      have hb : (fitsD s.kind e && borne s e) = borne s e := by rw [fit]; rfl
      refine ⟨_, rfl, _, rfl, sv, x, s, e, rfl, hA.keep (tups_same s13), ok, by omega, dp_up s13 _ _ he, bt.ats, bt.sml, tabs_same hTY s13, fun Y4 e4 t4 => ?_⟩
      rw [hb]
      refine ⟨_, rfl, _, _, _, _, isB (.bool _), rfl, .ty "bool", dp_ty (.bl _), kit_b _, _, rfl, condF rfl ?_⟩
      refine ⟨_, rfl, _, rfl, rfl, _, rfl, condF (by rw [decide_eq_true rfl]; rfl) ?_⟩
      have eY4 := (ext_same s13).trans e4
      have hA4 := hA.keep (ext_tups eY4)
      have he4 := dp_nt (ext_nt eY4) _ _ he
      refine ⟨_, rfl, _, rfl, (by decide : 2 ≤ sizeLine), fun r2 nr2 => ⟨r2, .list [s.tr.dat, e], rfl, .lst (.inl (.inl upd_same)) (.cons ((hA4.keep (tups_same (same_new nr2))).dp (okt_sy s)) (.cons (dp_up (same_new nr2) _ _ he4) .nil)), w1, w2, w3, w4, ?_⟩⟩
      refine ⟨_, rfl, rfl, _, rfl, condF (by rw [decide_eq_true rfl]; rfl) ?_⟩
      exact ⟨_, _, _, _, _, _, rfl, eY.trans (eY4.trans (ext_same (same_new nr2))), tabs_same t4 (same_new nr2)⟩
    · rintro σ Y ⟨y5, y6, y7, y8, y9, y10, rfl, eY, hTY⟩
      exact ⟨_, _, _, _, _, _, _, _, _, _, rfl, e9.trans eY, hTY⟩
  · rintro σ X ⟨y1, y2, y3, y4, y5, y6, y7, y8, y9, y10, rfl, _, _⟩
    exact q X
end
end Kf
set_option Elab.async false
set_option linter.all false
set_option maxRecDepth 100000
/-! k42: fits and borne, at every rank. -/
namespace Kf
open PySem PySem.Spec PyProof.Rows L2 Sx LmY LamX NdefX Gd
section
variable {P : Program} {w : World} {K : PySem.W.Frag} {mg : Str → Option Value} {base : Heap} {f ff fs fn ft fa : Addr} {fd df ds dn dt da : FuncData}
theorem ok_fis (F : Fun K "_law_fits" "_law_fits" sFi f fd) (Z : ZA mg) (GF : FnOk P w K mg base CX0 10 ff df ["saying"] spLF) (bF : Binds K df ["saying"] []) (kF : PySem.W.keepIn K (.ref ff) = true) (mF : mg "_law_is_flat" = some (.ref ff))
    (GS : FnOk P w K mg base CX0 11 fs ds ["saying", "thing"] (spSd K)) (bS : Binds K ds ["saying", "thing"] []) (kS : PySem.W.keepIn K (.ref fs) = true) (mS : mg "_law_sides" = some (.ref fs))
    (GN : FnOk P w K mg base CX0 1 fn dn ["thing"] (spIN K)) (bN : Binds K dn ["thing"] []) (kN : PySem.W.keepIn K (.ref fn) = true) (mN : mg "_law_is_number" = some (.ref fn))
    (bFi : Binds K fd ["saying", "thing"] []) (mFi : mg "_law_fits" = some (.ref f)) : ∀ n : Nat, FnOk P w K mg base CX0 (11 + n) f fd ["saying", "thing"] (spFi K n)
  | 0 => no_calls fun vs H Q E h => by
    obtain ⟨_, _, s, _, _, _, _, _, _, _, n1, _⟩ := h
    cases s <;> simp [Sy.dp] at n1
  | n + 1 => ok_fi F Z GF bF kF mF GS bS kS mS GN bN kN mN (ok_fis F Z GF bF kF mF GS bS kS mS GN bN kN mN bFi mFi n) bFi mFi
theorem ok_bos (F : Fun K "_law_borne" "_law_borne" sBo f fd) (Z : ZA mg) (GF : FnOk P w K mg base CX0 10 ff df ["saying"] spLF) (bF : Binds K df ["saying"] []) (kF : PySem.W.keepIn K (.ref ff) = true) (mF : mg "_law_is_flat" = some (.ref ff))
    (GS : FnOk P w K mg base CX0 11 fs ds ["saying", "thing"] (spSd K)) (bS : Binds K ds ["saying", "thing"] []) (kS : PySem.W.keepIn K (.ref fs) = true) (mS : mg "_law_sides" = some (.ref fs))
    (GT : FnOk P w K mg base CX0 11 ft dt ["saying"] (spTr 8)) (bT : Binds K dt ["saying"] []) (kT : PySem.W.keepIn K (.ref ft) = true) (mT : mg "_law_true" = some (.ref ft))
    (GA : FnOk P w K mg base CX0 11 fa da ["thing", "number", "around"] (spAt 10)) (bA : Binds K da ["thing", "number", "around"] []) (kA : PySem.W.keepIn K (.ref fa) = true) (mA : mg "_law_at" = some (.ref fa))
    (bBo : Binds K fd ["saying", "thing"] []) (mBo : mg "_law_borne" = some (.ref f)) : ∀ n : Nat, FnOk P w K mg base CX0 (11 + n) f fd ["saying", "thing"] (spBo K n)
  | 0 => no_calls fun vs H Q E h => by
    obtain ⟨_, _, s, _, _, _, _, n1, _⟩ := h
    cases s <;> simp [Sy.dp] at n1
  | n + 1 => ok_bo F Z GF bF kF mF GS bS kS mS GT bT kT mT GA bA kA mA (ok_bos F Z GF bF kF mF GS bS kS mS GT bT kT mT GA bA kA mA bBo mBo n) bBo mBo
end
end Kf
set_option Elab.async false
set_option linter.all false
set_option maxRecDepth 100000
set_option maxHeartbeats 8000000
/-! The top, the end. -/
namespace Kf
open PySem PySem.Spec PyProof.Rows L2 Sx Gd
theorem all_mk {l : PySem.W.OpenLaw} {w : World} {K : PySem.W.Frag} {h : Heap} {mg : Str → Option Value} {fa f1 f2 f3 f4 f5 f6 f7 f8 f9 f10 f11 f12 f13 f14 f15 f16 f17 f18 f19 f20 f21 f22 f23 f24 f25 f26 f27 f28 f29 f30 f31 f32 f33 f34 f35 f36 f37 f38 cw1 PT1 : Addr} (X : K.In h) (G : h.Ns mainGlobals mg) (hfa : mg "law" = some (.ref fa)) (own : ∀ nm ∈ [Str.ofString "put_in"], ∀ fw, mg nm = some (.ref fw) → LamX.OwnTab K fw h)
    {od1 an1 od2 an2 od3 an3 od4 an4 od5 an5 od6 an6 od7 an7 od8 an8 od9 an9 od10 an10 od11 an11 od12 an12 od13 an13 od14 an14 od15 an15 od16 an16 od17 an17 od18 an18 od19 an19 od20 an20 od21 an21 od22 an22 od23 an23 od24 an24 od25 an25 od26 an26 od27 an27 od28 an28 od29 an29 od30 an30 od31 an31 od32 an32 od33 an33 od34 an34 od35 an35 od36 an36 od37 an37 od38 an38 : Option Addr} {sl1 sl2 sl3 sl4 sl5 sl6 sl7 sl8 sl9 sl10 sl11 sl12 sl13 sl14 sl15 sl16 sl17 sl18 sl19 sl20 sl21 sl22 sl23 sl24 sl25 sl26 sl27 sl28 sl29 sl30 sl31 sl32 sl33 sl34 sl35 sl36 sl37 sl38 : Array (Option Value)} {oc1 kV1 dc1 pm1 cd1 ct1 oc2 kV2 dc2 pm2 cd2 ct2 oc3 kV3 dc3 pm3 cd3 ct3 oc4 kV4 dc4 pm4 cd4 ct4 oc5 kV5 dc5 pm5 cd5 ct5 oc6 kV6 dc6 pm6 cd6 ct6 oc7 kV7 dc7 pm7 cd7 ct7 oc8 kV8 dc8 pm8 cd8 ct8 oc9 kV9 dc9 pm9 cd9 ct9 oc10 kV10 dc10 pm10 cd10 ct10 oc11 kV11 dc11 pm11 cd11 ct11 oc12 kV12 dc12 pm12 cd12 ct12 oc13 kV13 dc13 pm13 ct13 oc14 kV14 dc14 pm14 cd14 ct14 oc15 kV15 dc15 pm15 cd15 ct15 oc16 kV16 dc16 pm16 cd16 ct16 oc17 kV17 dc17 pm17 cd17 ct17 oc18 kV18 dc18 pm18 cd18 ct18 oc19 kV19 dc19 pm19 cd19 ct19 oc20 kV20 dc20 pm20 cd20 ct20 oc21 kV21 dc21 pm21 cd21 ct21 oc22 kV22 dc22 pm22 cd22 ct22 oc23 kV23 dc23 pm23 cd23 ct23 oc24 kV24 dc24 pm24 cd24 ct24 oc25 kV25 dc25 pm25 cd25 ct25 oc26 kV26 dc26 pm26 cd26 ct26 oc27 kV27 dc27 pm27 cd27 ct27 oc28 kV28 dc28 pm28 cd28 ct28 oc29 kV29 dc29 pm29 cd29 ct29 oc30 kV30 dc30 pm30 cd30 ct30 oc31 kV31 dc31 pm31 cd31 ct31 oc32 kV32 dc32 pm32 cd32 ct32 oc33 kV33 dc33 pm33 cd33 ct33 oc34 kV34 dc34 pm34 cd34 ct34 oc35 kV35 dc35 pm35 cd35 ct35 oc36 kV36 dc36 pm36 cd36 ct36 oc37 kV37 dc37 pm37 cd37 ct37 oc38 kV38 dc38 pm38 cd38 ct38 : Value}
    {ddC1 : Option Addr} {slC1 : Array (Option Value)} {tf1 tg1 tt1 : Tok} {vs1 : Array Value} {flags1 text1 : Int} {file1 : Str} {inF1 : Bool}
    (a1 : PySem.W.nsIn K mainGlobals "beneath" = some (some (.ref f1))) (l1 : K.lookup f1 = some ⟨oc1, od1, .func (PySem.W.fnOf "beneath" "beneath" (defArgs sBeneath) (defBody sBeneath) (defScope sBeneath) .none kV1 dc1 pm1 an1 cd1 ct1), sl1⟩) (c1 : PySem.W.codeIn K cd1 "beneath" = true) (k1 : PySem.W.keepIn K (.ref f1) = true)
    (a2 : PySem.W.nsIn K mainGlobals "pieces_of" = some (some (.ref f2))) (l2 : K.lookup f2 = some ⟨oc2, od2, .func (PySem.W.fnOf "pieces_of" "pieces_of" (defArgs sPieces) (defBody sPieces) (defScope sPieces) .none kV2 dc2 pm2 an2 cd2 ct2), sl2⟩) (c2 : PySem.W.codeIn K cd2 "pieces_of" = true) (k2 : PySem.W.keepIn K (.ref f2) = true)
    (a3 : PySem.W.nsIn K mainGlobals "changed" = some (some (.ref f3))) (l3 : K.lookup f3 = some ⟨oc3, od3, .func (PySem.W.fnOf "changed" "changed" (defArgs sChanged) (defBody sChanged) (defScope sChanged) .none kV3 dc3 pm3 an3 cd3 ct3), sl3⟩) (c3 : PySem.W.codeIn K cd3 "changed" = true) (k3 : PySem.W.keepIn K (.ref f3) = true)
    (a4 : PySem.W.nsIn K mainGlobals "paired" = some (some (.ref f4))) (l4 : K.lookup f4 = some ⟨oc4, od4, .func (PySem.W.fnOf "paired" "paired" (defArgs sPaired) (defBody sPaired) (defScope sPaired) .none kV4 dc4 pm4 an4 cd4 ct4), sl4⟩) (c4 : PySem.W.codeIn K cd4 "paired" = true) (k4 : PySem.W.keepIn K (.ref f4) = true)
    (a5 : PySem.W.nsIn K mainGlobals "given_from" = some (some (.ref f5))) (l5 : K.lookup f5 = some ⟨oc5, od5, .func (PySem.W.fnOf "given_from" "given_from" (defArgs sGiven) (defBody sGiven) (defScope sGiven) .none kV5 dc5 pm5 an5 cd5 ct5), sl5⟩) (c5 : PySem.W.codeIn K cd5 "given_from" = true) (k5 : PySem.W.keepIn K (.ref f5) = true)
    (a6 : PySem.W.nsIn K mainGlobals "joined" = some (some (.ref f6))) (l6 : K.lookup f6 = some ⟨oc6, od6, .func (PySem.W.fnOf "joined" "joined" (defArgs sJoined) (defBody sJoined) (defScope sJoined) .none kV6 dc6 pm6 an6 cd6 ct6), sl6⟩) (c6 : PySem.W.codeIn K cd6 "joined" = true) (k6 : PySem.W.keepIn K (.ref f6) = true)
    (a7 : PySem.W.nsIn K mainGlobals "sayings_of" = some (some (.ref f7))) (l7 : K.lookup f7 = some ⟨oc7, od7, .func (PySem.W.fnOf "sayings_of" "sayings_of" (defArgs sOf) (defBody sOf) (defScope sOf) .none kV7 dc7 pm7 an7 cd7 ct7), sl7⟩) (c7 : PySem.W.codeIn K cd7 "sayings_of" = true) (k7 : PySem.W.keepIn K (.ref f7) = true)
    (a8 : PySem.W.nsIn K mainGlobals "kind_of" = some (some (.ref f8))) (l8 : K.lookup f8 = some ⟨oc8, od8, .func (PySem.W.fnOf "kind_of" "kind_of" (defArgs sKindOf) (defBody sKindOf) (defScope sKindOf) .none kV8 dc8 pm8 an8 cd8 ct8), sl8⟩) (c8 : PySem.W.codeIn K cd8 "kind_of" = true) (k8 : PySem.W.keepIn K (.ref f8) = true)
    (a9 : PySem.W.nsIn K mainGlobals "is_whole" = some (some (.ref f9))) (l9 : K.lookup f9 = some ⟨oc9, od9, .func (PySem.W.fnOf "is_whole" "is_whole" (defArgs sWhole) (defBody sWhole) (defScope sWhole) .none kV9 dc9 pm9 an9 cd9 ct9), sl9⟩) (c9 : PySem.W.codeIn K cd9 "is_whole" = true) (k9 : PySem.W.keepIn K (.ref f9) = true)
    (a10 : PySem.W.nsIn K mainGlobals "worth" = some (some (.ref f10))) (l10 : K.lookup f10 = some ⟨oc10, od10, .func (PySem.W.fnOf "worth" "worth" (defArgs sWorth) (defBody sWorth) (defScope sWorth) .none kV10 dc10 pm10 an10 cd10 ct10), sl10⟩) (c10 : PySem.W.codeIn K cd10 "worth" = true) (k10 : PySem.W.keepIn K (.ref f10) = true)
    (a11 : PySem.W.nsIn K mainGlobals "is_two" = some (some (.ref f11))) (l11 : K.lookup f11 = some ⟨oc11, od11, .func (PySem.W.fnOf "is_two" "is_two" (defArgs sTwo) (defBody sTwo) (defScope sTwo) .none kV11 dc11 pm11 an11 cd11 ct11), sl11⟩) (c11 : PySem.W.codeIn K cd11 "is_two" = true) (k11 : PySem.W.keepIn K (.ref f11) = true)
    (a12 : PySem.W.nsIn K mainGlobals "is_worth" = some (some (.ref f12))) (l12 : K.lookup f12 = some ⟨oc12, od12, .func (PySem.W.fnOf "is_worth" "is_worth" (defArgs sIW) (defBody sIW) (defScope sIW) .none kV12 dc12 pm12 an12 cd12 ct12), sl12⟩) (c12 : PySem.W.codeIn K cd12 "is_worth" = true) (k12 : PySem.W.keepIn K (.ref f12) = true)
    (a13 : PySem.W.nsIn K mainGlobals "put_in" = some (some (.ref f13))) (l13 : K.lookup f13 = some ⟨oc13, od13, .func (PySem.W.fnOf "put_in" "put_in" (defArgs sPutIn) (defBody sPutIn) (defScope sPutIn) .none kV13 dc13 pm13 an13 (.ref cw1) ct13), sl13⟩) (c13 : PySem.W.codeIn K (.ref cw1) "put_in" = true) (k13 : PySem.W.keepIn K (.ref f13) = true)
    (a14 : PySem.W.nsIn K mainGlobals "is_flat" = some (some (.ref f14))) (l14 : K.lookup f14 = some ⟨oc14, od14, .func (PySem.W.fnOf "is_flat" "is_flat" (defArgs sFlatQ) (defBody sFlatQ) (defScope sFlatQ) .none kV14 dc14 pm14 an14 cd14 ct14), sl14⟩) (c14 : PySem.W.codeIn K cd14 "is_flat" = true) (k14 : PySem.W.keepIn K (.ref f14) = true)
    (a15 : PySem.W.nsIn K mainGlobals "is_true" = some (some (.ref f15))) (l15 : K.lookup f15 = some ⟨oc15, od15, .func (PySem.W.fnOf "is_true" "is_true" (defArgs sTrue) (defBody sTrue) (defScope sTrue) .none kV15 dc15 pm15 an15 cd15 ct15), sl15⟩) (c15 : PySem.W.codeIn K cd15 "is_true" = true) (k15 : PySem.W.keepIn K (.ref f15) = true)
    (a16 : PySem.W.nsIn K mainGlobals "worths_of_both" = some (some (.ref f16))) (l16 : K.lookup f16 = some ⟨oc16, od16, .func (PySem.W.fnOf "worths_of_both" "worths_of_both" (defArgs sWB) (defBody sWB) (defScope sWB) .none kV16 dc16 pm16 an16 cd16 ct16), sl16⟩) (c16 : PySem.W.codeIn K cd16 "worths_of_both" = true) (k16 : PySem.W.keepIn K (.ref f16) = true)
    (a17 : PySem.W.nsIn K mainGlobals "seen_in_some" = some (some (.ref f17))) (l17 : K.lookup f17 = some ⟨oc17, od17, .func (PySem.W.fnOf "seen_in_some" "seen_in_some" (defArgs sSS) (defBody sSS) (defScope sSS) .none kV17 dc17 pm17 an17 cd17 ct17), sl17⟩) (c17 : PySem.W.codeIn K cd17 "seen_in_some" = true) (k17 : PySem.W.keepIn K (.ref f17) = true)
    (a18 : PySem.W.nsIn K mainGlobals "bears" = some (some (.ref f18))) (l18 : K.lookup f18 = some ⟨oc18, od18, .func (PySem.W.fnOf "bears" "bears" (defArgs sBe) (defBody sBe) (defScope sBe) .none kV18 dc18 pm18 an18 cd18 ct18), sl18⟩) (c18 : PySem.W.codeIn K cd18 "bears" = true) (k18 : PySem.W.keepIn K (.ref f18) = true)
    (a19 : PySem.W.nsIn K mainGlobals "_law_feed" = some (some (.ref f19))) (l19 : K.lookup f19 = some ⟨oc19, od19, .func (PySem.W.fnOf "_law_feed" "_law_feed" (defArgs sFeed) (defBody sFeed) (defScope sFeed) .none kV19 dc19 pm19 an19 cd19 ct19), sl19⟩) (c19 : PySem.W.codeIn K cd19 "_law_feed" = true) (k19 : PySem.W.keepIn K (.ref f19) = true)
    (a20 : PySem.W.nsIn K mainGlobals "_law_take" = some (some (.ref f20))) (l20 : K.lookup f20 = some ⟨oc20, od20, .func (PySem.W.fnOf "_law_take" "_law_take" (defArgs sTake) (defBody sTake) (defScope sTake) .none kV20 dc20 pm20 an20 cd20 ct20), sl20⟩) (c20 : PySem.W.codeIn K cd20 "_law_take" = true) (k20 : PySem.W.keepIn K (.ref f20) = true)
    (a21 : PySem.W.nsIn K mainGlobals "_law_pick" = some (some (.ref f21))) (l21 : K.lookup f21 = some ⟨oc21, od21, .func (PySem.W.fnOf "_law_pick" "_law_pick" (defArgs sPick) (defBody sPick) (defScope sPick) .none kV21 dc21 pm21 an21 cd21 ct21), sl21⟩) (c21 : PySem.W.codeIn K cd21 "_law_pick" = true) (k21 : PySem.W.keepIn K (.ref f21) = true)
    (a22 : PySem.W.nsIn K mainGlobals "_law_flat" = some (some (.ref f22))) (l22 : K.lookup f22 = some ⟨oc22, od22, .func (PySem.W.fnOf "_law_flat" "_law_flat" (defArgs sFlat) (defBody sFlat) (defScope sFlat) .none kV22 dc22 pm22 an22 cd22 ct22), sl22⟩) (c22 : PySem.W.codeIn K cd22 "_law_flat" = true) (k22 : PySem.W.keepIn K (.ref f22) = true)
    (a23 : PySem.W.nsIn K mainGlobals "_law_small" = some (some (.ref f23))) (l23 : K.lookup f23 = some ⟨oc23, od23, .func (PySem.W.fnOf "_law_small" "_law_small" (defArgs sSmall) (defBody sSmall) (defScope sSmall) .none kV23 dc23 pm23 an23 cd23 ct23), sl23⟩) (c23 : PySem.W.codeIn K cd23 "_law_small" = true) (k23 : PySem.W.keepIn K (.ref f23) = true)
    (a24 : PySem.W.nsIn K mainGlobals "_law_seen" = some (some (.ref f24))) (l24 : K.lookup f24 = some ⟨oc24, od24, .func (PySem.W.fnOf "_law_seen" "_law_seen" (defArgs sSeen) (defBody sSeen) (defScope sSeen) .none kV24 dc24 pm24 an24 cd24 ct24), sl24⟩) (c24 : PySem.W.codeIn K cd24 "_law_seen" = true) (k24 : PySem.W.keepIn K (.ref f24) = true)
    (a25 : PySem.W.nsIn K mainGlobals "_law_number" = some (some (.ref f25))) (l25 : K.lookup f25 = some ⟨oc25, od25, .func (PySem.W.fnOf "_law_number" "_law_number" (defArgs sNm) (defBody sNm) (defScope sNm) .none kV25 dc25 pm25 an25 cd25 ct25), sl25⟩) (c25 : PySem.W.codeIn K cd25 "_law_number" = true) (k25 : PySem.W.keepIn K (.ref f25) = true)
    (a26 : PySem.W.nsIn K mainGlobals "_law_is_flat" = some (some (.ref f26))) (l26 : K.lookup f26 = some ⟨oc26, od26, .func (PySem.W.fnOf "_law_is_flat" "_law_is_flat" (defArgs sLF) (defBody sLF) (defScope sLF) .none kV26 dc26 pm26 an26 cd26 ct26), sl26⟩) (c26 : PySem.W.codeIn K cd26 "_law_is_flat" = true) (k26 : PySem.W.keepIn K (.ref f26) = true)
    (a27 : PySem.W.nsIn K mainGlobals "_law_true" = some (some (.ref f27))) (l27 : K.lookup f27 = some ⟨oc27, od27, .func (PySem.W.fnOf "_law_true" "_law_true" (defArgs sTr) (defBody sTr) (defScope sTr) .none kV27 dc27 pm27 an27 cd27 ct27), sl27⟩) (c27 : PySem.W.codeIn K cd27 "_law_true" = true) (k27 : PySem.W.keepIn K (.ref f27) = true)
    (a28 : PySem.W.nsIn K mainGlobals "_law_at" = some (some (.ref f28))) (l28 : K.lookup f28 = some ⟨oc28, od28, .func (PySem.W.fnOf "_law_at" "_law_at" (defArgs sAt) (defBody sAt) (defScope sAt) .none kV28 dc28 pm28 an28 cd28 ct28), sl28⟩) (c28 : PySem.W.codeIn K cd28 "_law_at" = true) (k28 : PySem.W.keepIn K (.ref f28) = true)
    (a29 : PySem.W.nsIn K mainGlobals "_law_sides" = some (some (.ref f29))) (l29 : K.lookup f29 = some ⟨oc29, od29, .func (PySem.W.fnOf "_law_sides" "_law_sides" (defArgs sSd) (defBody sSd) (defScope sSd) .none kV29 dc29 pm29 an29 cd29 ct29), sl29⟩) (c29 : PySem.W.codeIn K cd29 "_law_sides" = true) (k29 : PySem.W.keepIn K (.ref f29) = true)
    (a30 : PySem.W.nsIn K mainGlobals "_law_is_number" = some (some (.ref f30))) (l30 : K.lookup f30 = some ⟨oc30, od30, .func (PySem.W.fnOf "_law_is_number" "_law_is_number" (defArgs sIN) (defBody sIN) (defScope sIN) .none kV30 dc30 pm30 an30 cd30 ct30), sl30⟩) (c30 : PySem.W.codeIn K cd30 "_law_is_number" = true) (k30 : PySem.W.keepIn K (.ref f30) = true)
    (a31 : PySem.W.nsIn K mainGlobals "_law_fits" = some (some (.ref f31))) (l31 : K.lookup f31 = some ⟨oc31, od31, .func (PySem.W.fnOf "_law_fits" "_law_fits" (defArgs sFi) (defBody sFi) (defScope sFi) .none kV31 dc31 pm31 an31 cd31 ct31), sl31⟩) (c31 : PySem.W.codeIn K cd31 "_law_fits" = true) (k31 : PySem.W.keepIn K (.ref f31) = true)
    (a32 : PySem.W.nsIn K mainGlobals "_law_borne" = some (some (.ref f32))) (l32 : K.lookup f32 = some ⟨oc32, od32, .func (PySem.W.fnOf "_law_borne" "_law_borne" (defArgs sBo) (defBody sBo) (defScope sBo) .none kV32 dc32 pm32 an32 cd32 ct32), sl32⟩) (c32 : PySem.W.codeIn K cd32 "_law_borne" = true) (k32 : PySem.W.keepIn K (.ref f32) = true)
    (a33 : PySem.W.nsIn K mainGlobals "_law_drawn" = some (some (.ref f33))) (l33 : K.lookup f33 = some ⟨oc33, od33, .func (PySem.W.fnOf "_law_drawn" "_law_drawn" (defArgs sDw) (defBody sDw) (defScope sDw) .none kV33 dc33 pm33 an33 cd33 ct33), sl33⟩) (c33 : PySem.W.codeIn K cd33 "_law_drawn" = true) (k33 : PySem.W.keepIn K (.ref f33) = true)
    (a34 : PySem.W.nsIn K mainGlobals "_law_sought" = some (some (.ref f34))) (l34 : K.lookup f34 = some ⟨oc34, od34, .func (PySem.W.fnOf "_law_sought" "_law_sought" (defArgs sSo) (defBody sSo) (defScope sSo) .none kV34 dc34 pm34 an34 cd34 ct34), sl34⟩) (c34 : PySem.W.codeIn K cd34 "_law_sought" = true) (k34 : PySem.W.keepIn K (.ref f34) = true)
    (a35 : PySem.W.nsIn K mainGlobals "_law_least" = some (some (.ref f35))) (l35 : K.lookup f35 = some ⟨oc35, od35, .func (PySem.W.fnOf "_law_least" "_law_least" (defArgs sLe) (defBody sLe) (defScope sLe) .none kV35 dc35 pm35 an35 cd35 ct35), sl35⟩) (c35 : PySem.W.codeIn K cd35 "_law_least" = true) (k35 : PySem.W.keepIn K (.ref f35) = true)
    (a36 : PySem.W.nsIn K mainGlobals "_law_far" = some (some (.ref f36))) (l36 : K.lookup f36 = some ⟨oc36, od36, .func (PySem.W.fnOf "_law_far" "_law_far" (defArgs sFa) (defBody sFa) (defScope sFa) .none kV36 dc36 pm36 an36 cd36 ct36), sl36⟩) (c36 : PySem.W.codeIn K cd36 "_law_far" = true) (k36 : PySem.W.keepIn K (.ref f36) = true)
    (a37 : PySem.W.nsIn K mainGlobals "_law_bent" = some (some (.ref f37))) (l37 : K.lookup f37 = some ⟨oc37, od37, .func (PySem.W.fnOf "_law_bent" "_law_bent" (defArgs sBn) (defBody sBn) (defScope sBn) .none kV37 dc37 pm37 an37 cd37 ct37), sl37⟩) (c37 : PySem.W.codeIn K cd37 "_law_bent" = true) (k37 : PySem.W.keepIn K (.ref f37) = true)
    (a38 : PySem.W.nsIn K mainGlobals "law" = some (some (.ref f38))) (l38 : K.lookup f38 = some ⟨oc38, od38, .func (PySem.W.fnOf "law" "law" (defArgs sLaw) (defBody sLaw) (defScope sLaw) .none kV38 dc38 pm38 an38 cd38 ct38), sl38⟩) (c38 : PySem.W.codeIn K cd38 "law" = true) (k38 : PySem.W.keepIn K (.ref f38) = true)
    (zrange : PySem.W.nsIn K mainGlobals "range" = some none)
    (zmax : PySem.W.nsIn K mainGlobals "max" = some none)
    (zmin : PySem.W.nsIn K mainGlobals "min" = some none)
    (zlen : PySem.W.nsIn K mainGlobals "len" = some none)
    (zabs : PySem.W.nsIn K mainGlobals "abs" = some none)
    (zint : PySem.W.nsIn K mainGlobals "int" = some none)
    (zzip : PySem.W.nsIn K mainGlobals "zip" = some none)
    (zrepr : PySem.W.nsIn K mainGlobals "repr" = some none)
    (zisinstance : PySem.W.nsIn K mainGlobals "isinstance" = some none)
    (zbool : PySem.W.nsIn K mainGlobals "bool" = some none)
    (ztuple : PySem.W.nsIn K mainGlobals "tuple" = some none)
    (zstr : PySem.W.nsIn K mainGlobals "str" = some none)
    (zlist : PySem.W.nsIn K mainGlobals "list" = some none)
    (zreversed : PySem.W.nsIn K mainGlobals "reversed" = some none)
    {FV ga1 gb1 ga2 gb2 ga3 gb3 ga4 gb4 ga5 gb5 ga6 gb6 ga7 gb7 ga8 gb8 ga9 gb9 ga10 gb10 : Addr} {da1 db1 da2 db2 da3 db3 da4 db4 da5 db5 da6 db6 da7 db7 da8 db8 da9 db9 da10 db10 : Option Addr} {sa1 sb1 sa2 sb2 sa3 sb3 sa4 sb4 sa5 sb5 sa6 sb6 sa7 sb7 sa8 sb8 sa9 sb9 sa10 sb10 : Array (Option Value)} {nF na1 nb1 na2 nb2 na3 nb3 na4 nb4 na5 nb5 na6 nb6 na7 nb7 na8 nb8 na9 nb9 na10 nb10 : Nat} {ta1 tb1 ta2 tb2 tc2 ta3 tb3 tc3 ta4 tb4 tc4 ta5 ta6 tb6 tc6 ta7 tb7 tc7 ta8 tb8 tc8 ta9 tb9 ta10 tb10 : Tok} {es : Array DictEntry} (aF : PySem.W.nsIn K mainGlobals "FORMS" = some (some (.ref FV))) (oF : K.lookup FV = some ⟨.type "dict", none, .dict es nF, #[]⟩) (litF : PySem.W.KeysLit w.params es.toList) (lowF : (FV == sysModules) = false)
    (n1 : PySem.W.nsIn K FV "next" = some (some (.ref ga1))) (p1 : K.lookup ga1 = some ⟨.type "tuple", da1, .seq #[.str "term" ta1, .ref gb1] na1, sa1⟩) (q1 : K.lookup gb1 = some ⟨.type "tuple", db1, .seq #[.str "term" tb1] nb1, sb1⟩)
    (n2 : PySem.W.nsIn K FV "plus" = some (some (.ref ga2))) (p2 : K.lookup ga2 = some ⟨.type "tuple", da2, .seq #[.str "term" ta2, .ref gb2] na2, sa2⟩) (q2 : K.lookup gb2 = some ⟨.type "tuple", db2, .seq #[.str "term" tb2, .str "term" tc2] nb2, sb2⟩)
    (n3 : PySem.W.nsIn K FV "times" = some (some (.ref ga3))) (p3 : K.lookup ga3 = some ⟨.type "tuple", da3, .seq #[.str "term" ta3, .ref gb3] na3, sa3⟩) (q3 : K.lookup gb3 = some ⟨.type "tuple", db3, .seq #[.str "term" tb3, .str "term" tc3] nb3, sb3⟩)
    (n4 : PySem.W.nsIn K FV "same" = some (some (.ref ga4))) (p4 : K.lookup ga4 = some ⟨.type "tuple", da4, .seq #[.str "saying" ta4, .ref gb4] na4, sa4⟩) (q4 : K.lookup gb4 = some ⟨.type "tuple", db4, .seq #[.str "term" tb4, .str "term" tc4] nb4, sb4⟩)
    (n5 : PySem.W.nsIn K FV "no" = some (some (.ref ga5))) (p5 : K.lookup ga5 = some ⟨.type "tuple", da5, .seq #[.str "saying" ta5, .ref gb5] na5, sa5⟩) (q5 : K.lookup gb5 = some ⟨.type "tuple", db5, .seq #[] nb5, sb5⟩)
    (n6 : PySem.W.nsIn K FV "and" = some (some (.ref ga6))) (p6 : K.lookup ga6 = some ⟨.type "tuple", da6, .seq #[.str "saying" ta6, .ref gb6] na6, sa6⟩) (q6 : K.lookup gb6 = some ⟨.type "tuple", db6, .seq #[.str "saying" tb6, .str "saying" tc6] nb6, sb6⟩)
    (n7 : PySem.W.nsIn K FV "or" = some (some (.ref ga7))) (p7 : K.lookup ga7 = some ⟨.type "tuple", da7, .seq #[.str "saying" ta7, .ref gb7] na7, sa7⟩) (q7 : K.lookup gb7 = some ⟨.type "tuple", db7, .seq #[.str "saying" tb7, .str "saying" tc7] nb7, sb7⟩)
    (n8 : PySem.W.nsIn K FV "if" = some (some (.ref ga8))) (p8 : K.lookup ga8 = some ⟨.type "tuple", da8, .seq #[.str "saying" ta8, .ref gb8] na8, sa8⟩) (q8 : K.lookup gb8 = some ⟨.type "tuple", db8, .seq #[.str "saying" tb8, .str "saying" tc8] nb8, sb8⟩)
    (n9 : PySem.W.nsIn K FV "all" = some (some (.ref ga9))) (p9 : K.lookup ga9 = some ⟨.type "tuple", da9, .seq #[.str "saying" ta9, .ref gb9] na9, sa9⟩) (q9 : K.lookup gb9 = some ⟨.type "tuple", db9, .seq #[.str "saying" tb9] nb9, sb9⟩)
    (n10 : PySem.W.nsIn K FV "some" = some (some (.ref ga10))) (p10 : K.lookup ga10 = some ⟨.type "tuple", da10, .seq #[.str "saying" ta10, .ref gb10] na10, sa10⟩) (q10 : K.lookup gb10 = some ⟨.type "tuple", db10, .seq #[.str "saying" tb10] nb10, sb10⟩)
    {LV BV : Addr} {ddL ddB : Option Addr} {slL slB : Array (Option Value)} {nL nB : Nat} {t1 t2 t3 t4 t5 : Tok} (aL : PySem.W.nsIn K mainGlobals "LEAVES" = some (some (.ref LV))) (oL : K.lookup LV = some ⟨.type "tuple", ddL, .seq #[.str "num" t1, .str "name" t2, .str "bound" t3] nL, slL⟩) (aB : PySem.W.nsIn K mainGlobals "BINDERS" = some (some (.ref BV))) (oB : K.lookup BV = some ⟨.type "tuple", ddB, .seq #[.str "all" t4, .str "some" t5] nB, slB⟩)
    {FL : Addr} {ddF : Option Addr} {slF : Array (Option Value)} {nFl : Nat} {tk1 tk2 tk3 tk4 : Tok} (aFl : PySem.W.nsIn K mainGlobals "FLAT" = some (some (.ref FL))) (oFl : K.lookup FL = some ⟨.type "tuple", ddF, .seq #[.str "same" tk1, .str "no" tk2, .str "and" tk3, .str "if" tk4] nFl, slF⟩)
    {NO : Addr} {dNO : Option Addr} {sNO : Array (Option Value)} {nNO : Nat} {tNO0 : Tok} (aNO : PySem.W.nsIn K mainGlobals "NONE" = some (some (.ref NO))) (pNO : K.lookup NO = some ⟨.type "tuple", dNO, .seq #[.str "none" tNO0] nNO, sNO⟩)
    {NU : Addr} {dNU : Option Addr} {sNU : Array (Option Value)} {nNU : Nat} {tNU0 : Tok} (aNU : PySem.W.nsIn K mainGlobals "NUMBER" = some (some (.ref NU))) (pNU : K.lookup NU = some ⟨.type "tuple", dNU, .seq #[.str "number" tNU0] nNU, sNU⟩)
    {TM : Addr} {tG : Tok} {gN : Int} (aTM : PySem.W.nsIn K mainGlobals "TooMany" = some (some (.ref TM))) (kTM : PySem.W.keepIn K (.ref TM) = true) (xTM : PySem.W.excIn K TM [.type "ValueError", .type "Exception", .type "BaseException", .type "object"] "ValueError.__new__" = true) (sTM : PySem.W.subIn K (.ref TM) (.type "BaseException") = some true) (yTM : PySem.W.typeIn K (.ref TM) = some (.type "type")) (oTM : PySem.W.exmOne K (.ref TM) (.ref TM) = some true) (aTG : PySem.W.nsIn K mainGlobals "TOO_GREAT" = some (some (.int gN tG))) (eTG : gN = 10 ^ 60)
    (lC1 : K.lookup cw1 = some ⟨.type "code", ddC1, .fields vs1, slC1⟩) (v111 : vs1[11]? = some (.ref PT1)) (g111 : vs1.getD 11 .none = .ref PT1) (g181 : vs1.getD 18 .none = .str file1 tf1) (g71 : vs1.getD 7 .none = .int flags1 tg1) (g91 : vs1.getD 9 .none = .bool inF1) (g101 : vs1.getD 10 .none = .int text1 tt1) (ncp1 : cw1 ≠ PT1) (nPT1 : K.lookup PT1 = none) :
    LawG l w K 27 63 "script" mg fa h := by
  have e := hfa.symm.trans (PySem.W.mg_of X G a38)
  cases e
  have F1 := fun_mk (st := sBeneath) l1 c1 k1
  have b1 := F1.binds (ps := ["piece", "around"]) fun _ _ _ _ _ _ us hl => match us, hl with | [_, _], _ => rfl
  have m1 := PySem.W.mg_of X G a1
  have F2 := fun_mk (st := sPieces) l2 c2 k2
  have b2 := F2.binds (ps := ["thing"]) fun _ _ _ _ _ _ us hl => match us, hl with | [_], _ => rfl
  have m2 := PySem.W.mg_of X G a2
  have F3 := fun_mk (st := sChanged) l3 c3 k3
  have b3 := F3.binds (ps := ["thing", "leaf"]) fun _ _ _ _ _ _ us hl => match us, hl with | [_, _], _ => rfl
  have m3 := PySem.W.mg_of X G a3
  have F4 := fun_mk (st := sPaired) l4 c4 k4
  have b4 := F4.binds (ps := ["left", "right"]) fun _ _ _ _ _ _ us hl => match us, hl with | [_, _], _ => rfl
  have m4 := PySem.W.mg_of X G a4
  have F5 := fun_mk (st := sGiven) l5 c5 k5
  have b5 := F5.binds (ps := ["left", "right"]) fun _ _ _ _ _ _ us hl => match us, hl with | [_, _], _ => rfl
  have m5 := PySem.W.mg_of X G a5
  have F6 := fun_mk (st := sJoined) l6 c6 k6
  have b6 := F6.binds (ps := ["word", "parts"]) fun _ _ _ _ _ _ us hl => match us, hl with | [_, _], _ => rfl
  have m6 := PySem.W.mg_of X G a6
  have F7 := fun_mk (st := sOf) l7 c7 k7
  have b7 := F7.binds (ps := ["saying"]) fun _ _ _ _ _ _ us hl => match us, hl with | [_], _ => rfl
  have m7 := PySem.W.mg_of X G a7
  have F8 := fun_mk (st := sKindOf) l8 c8 k8
  have b8 := F8.binds (ps := ["saying"]) fun _ _ _ _ _ _ us hl => match us, hl with | [_], _ => rfl
  have m8 := PySem.W.mg_of X G a8
  have F9 := fun_mk (st := sWhole) l9 c9 k9
  have b9 := F9.binds (ps := ["thing"]) fun _ _ _ _ _ _ us hl => match us, hl with | [_], _ => rfl
  have m9 := PySem.W.mg_of X G a9
  have F10 := fun_mk (st := sWorth) l10 c10 k10
  have b10 := F10.binds (ps := ["term", "numbers"]) fun _ _ _ _ _ _ us hl => match us, hl with | [_, _], _ => rfl
  have m10 := PySem.W.mg_of X G a10
  have F11 := fun_mk (st := sTwo) l11 c11 k11
  have b11 := F11.binds (ps := ["thing"]) fun _ _ _ _ _ _ us hl => match us, hl with | [_], _ => rfl
  have m11 := PySem.W.mg_of X G a11
  have F12 := fun_mk (st := sIW) l12 c12 k12
  have b12 := F12.binds (ps := ["kind", "thing"]) fun _ _ _ _ _ _ us hl => match us, hl with | [_, _], _ => rfl
  have m12 := PySem.W.mg_of X G a12
  have F13 := fun_mk (st := sPutIn) l13 c13 k13
  have b13 := F13.binds (ps := ["body", "term"]) fun _ _ _ _ _ _ us hl => match us, hl with | [_, _], _ => rfl
  have m13 := PySem.W.mg_of X G a13
  have F14 := fun_mk (st := sFlatQ) l14 c14 k14
  have b14 := F14.binds (ps := ["saying"]) fun _ _ _ _ _ _ us hl => match us, hl with | [_], _ => rfl
  have m14 := PySem.W.mg_of X G a14
  have F15 := fun_mk (st := sTrue) l15 c15 k15
  have b15 := F15.binds (ps := ["saying"]) fun _ _ _ _ _ _ us hl => match us, hl with | [_], _ => rfl
  have m15 := PySem.W.mg_of X G a15
  have F16 := fun_mk (st := sWB) l16 c16 k16
  have b16 := F16.binds (ps := ["saying", "told"]) fun _ _ _ _ _ _ us hl => match us, hl with | [_, _], _ => rfl
  have m16 := PySem.W.mg_of X G a16
  have F17 := fun_mk (st := sSS) l17 c17 k17
  have b17 := F17.binds (ps := ["saying", "told"]) fun _ _ _ _ _ _ us hl => match us, hl with | [_, _], _ => rfl
  have m17 := PySem.W.mg_of X G a17
  have F18 := fun_mk (st := sBe) l18 c18 k18
  have b18 := F18.binds (ps := ["saying", "thing"]) fun _ _ _ _ _ _ us hl => match us, hl with | [_, _], _ => rfl
  have m18 := PySem.W.mg_of X G a18
  have F19 := fun_mk (st := sFeed) l19 c19 k19
  have b19 := F19.binds (ps := ["script", "k"]) fun _ _ _ _ _ _ us hl => match us, hl with | [_, _], _ => rfl
  have m19 := PySem.W.mg_of X G a19
  have F20 := fun_mk (st := sTake) l20 c20 k20
  have b20 := F20.binds (ps := ["feed", "many"]) fun _ _ _ _ _ _ us hl => match us, hl with | [_, _], _ => rfl
  have m20 := PySem.W.mg_of X G a20
  have F21 := fun_mk (st := sPick) l21 c21 k21
  have b21 := F21.binds (ps := ["feed", "some"]) fun _ _ _ _ _ _ us hl => match us, hl with | [_, _], _ => rfl
  have m21 := PySem.W.mg_of X G a21
  have F22 := fun_mk (st := sFlat) l22 c22 k22
  have b22 := F22.binds (ps := ["feed", "deep", "names", "around"]) fun _ _ _ _ _ _ us hl => match us, hl with | [_, _, _, _], _ => rfl
  have m22 := PySem.W.mg_of X G a22
  have F23 := fun_mk (st := sSmall) l23 c23 k23
  have b23 := F23.binds (ps := ["feed", "deep", "names", "around"]) fun _ _ _ _ _ _ us hl => match us, hl with | [_, _, _, _], _ => rfl
  have m23 := PySem.W.mg_of X G a23
  have F24 := fun_mk (st := sSeen) l24 c24 k24
  have b24 := F24.binds (ps := ["feed", "deep", "around", "left"]) fun _ _ _ _ _ _ us hl => match us, hl with | [_, _, _, _], _ => rfl
  have m24 := PySem.W.mg_of X G a24
  have F25 := fun_mk (st := sNm) l25 c25 k25
  have b25 := F25.binds (ps := ["term"]) fun _ _ _ _ _ _ us hl => match us, hl with | [_], _ => rfl
  have m25 := PySem.W.mg_of X G a25
  have F26 := fun_mk (st := sLF) l26 c26 k26
  have b26 := F26.binds (ps := ["saying"]) fun _ _ _ _ _ _ us hl => match us, hl with | [_], _ => rfl
  have m26 := PySem.W.mg_of X G a26
  have F27 := fun_mk (st := sTr) l27 c27 k27
  have b27 := F27.binds (ps := ["saying"]) fun _ _ _ _ _ _ us hl => match us, hl with | [_], _ => rfl
  have m27 := PySem.W.mg_of X G a27
  have F28 := fun_mk (st := sAt) l28 c28 k28
  have b28 := F28.binds (ps := ["thing", "number", "around"]) fun _ _ _ _ _ _ us hl => match us, hl with | [_, _, _], _ => rfl
  have m28 := PySem.W.mg_of X G a28
  have F29 := fun_mk (st := sSd) l29 c29 k29
  have b29 := F29.binds (ps := ["saying", "thing"]) fun _ _ _ _ _ _ us hl => match us, hl with | [_, _], _ => rfl
  have m29 := PySem.W.mg_of X G a29
  have F30 := fun_mk (st := sIN) l30 c30 k30
  have b30 := F30.binds (ps := ["thing"]) fun _ _ _ _ _ _ us hl => match us, hl with | [_], _ => rfl
  have m30 := PySem.W.mg_of X G a30
  have F31 := fun_mk (st := sFi) l31 c31 k31
  have b31 := F31.binds (ps := ["saying", "thing"]) fun _ _ _ _ _ _ us hl => match us, hl with | [_, _], _ => rfl
  have m31 := PySem.W.mg_of X G a31
  have F32 := fun_mk (st := sBo) l32 c32 k32
  have b32 := F32.binds (ps := ["saying", "thing"]) fun _ _ _ _ _ _ us hl => match us, hl with | [_, _], _ => rfl
  have m32 := PySem.W.mg_of X G a32
  have F33 := fun_mk (st := sDw) l33 c33 k33
  have b33 := F33.binds (ps := ["feed", "saying"]) fun _ _ _ _ _ _ us hl => match us, hl with | [_, _], _ => rfl
  have m33 := PySem.W.mg_of X G a33
  have F34 := fun_mk (st := sSo) l34 c34 k34
  have b34 := F34.binds (ps := ["saying", "bound"]) fun _ _ _ _ _ _ us hl => match us, hl with | [_, _], _ => rfl
  have m34 := PySem.W.mg_of X G a34
  have F35 := fun_mk (st := sLe) l35 c35 k35
  have b35 := F35.binds (ps := ["saying"]) fun _ _ _ _ _ _ us hl => match us, hl with | [_], _ => rfl
  have m35 := PySem.W.mg_of X G a35
  have F36 := fun_mk (st := sFa) l36 c36 k36
  have b36 := F36.binds (ps := []) fun _ _ _ _ _ _ us hl => match us, hl with | [], _ => rfl
  have m36 := PySem.W.mg_of X G a36
  have F37 := fun_mk (st := sBn) l37 c37 k37
  have b37 := F37.binds (ps := ["feed", "thing"]) fun _ _ _ _ _ _ us hl => match us, hl with | [_, _], _ => rfl
  have m37 := PySem.W.mg_of X G a37
  have F38 := fun_mk (st := sLaw) l38 c38 k38
  have m38 := PySem.W.mg_of X G a38
  have grange := PySem.W.mg_none_of X G zrange
  have gmax := PySem.W.mg_none_of X G zmax
  have gmin := PySem.W.mg_none_of X G zmin
  have glen := PySem.W.mg_none_of X G zlen
  have gabs := PySem.W.mg_none_of X G zabs
  have gint := PySem.W.mg_none_of X G zint
  have gzip := PySem.W.mg_none_of X G zzip
  have grepr := PySem.W.mg_none_of X G zrepr
  have gisinstance := PySem.W.mg_none_of X G zisinstance
  have gbool := PySem.W.mg_none_of X G zbool
  have gtuple := PySem.W.mg_none_of X G ztuple
  have gstr := PySem.W.mg_none_of X G zstr
  have glist := PySem.W.mg_none_of X G zlist
  have greversed := PySem.W.mg_none_of X G zreversed
  have empty1 : h.get? PT1 = some { cls := .none, data := .fields #[] } := own _ List.mem_cons_self f13 m13 cw1 PT1 _ _ _ _ _ _ l13 rfl rfl lC1 v111
  have hE : ∀ p ∈ ([(cw1, PT1)] : List (Addr × Addr)), h.get? p.2 = some { cls := .none, data := .fields #[] } := by
    intro p hp
    · cases List.mem_singleton.mp hp
      exact empty1
  have hN : ∀ p ∈ ([(cw1, PT1)] : List (Addr × Addr)), K.lookup p.2 = none := by
    intro p hp
    · cases List.mem_singleton.mp hp
      exact nPT1
  have hC : ∀ p ∈ ([(cw1, PT1)] : List (Addr × Addr)), PySem.W.CodeHd h p.1 p.2 := by
    intro p hp
    · cases List.mem_singleton.mp hp
      exact ⟨_, vs1, file1, tf1, flags1, tg1, inF1, text1, tt1, X _ _ lC1, rfl, rfl, v111, g111, g181, g71, g91, g101, ncp1⟩
  have hT : ∀ H : Hp, (∀ p ∈ ([(cw1, PT1)] : List (Addr × Addr)), H p.2 = some (.tbl #[])) → LamX.Tabs ([(PT1, lq "put_in")] : List (Addr × Str)) H := by
    intro H ht p hp
    · cases List.mem_singleton.mp hp
      exact LamX.TabS.nil (ht (cw1, PT1) List.mem_cons_self)
  have hu1 : ∀ p ∈ ([(PT1, lq "put_in")] : List (Addr × Str)), p.1 = PT1 → p.2 = lq "put_in" := by
    intro p hp e1
    · cases List.mem_singleton.mp hp
      exact rfl
  refine ⟨PySem.W.fnOf "law" "law" (defArgs sLaw) (defBody sLaw) (defScope sLaw) .none kV38 dc38 pm38 an38 cd38 ct38, [(cw1, PT1)], spLaw K [(PT1, lq "put_in")], hE, hN, hC, fun s v => .of_eq rfl,
    fun H a ns hl hb ht hS => ⟨a, ns, rfl, hS, hl, hb, hT H ht, fun _ => rfl⟩, fun base _ _ tabs => ?_⟩
  have tab1 : LamX.TabB base mg cw1 PT1 := tabs (cw1, PT1) List.mem_cons_self
  have form : ∀ wd k ks, (wd, k, ks) ∈ table → ∃ fa fb, PySem.W.nsIn K FV wd = some (some (.ref fa)) ∧ (∀ H, SqT K H fa [.str k, .ref fb]) ∧ ∀ H, SqT K H fb (ks.map V.str) := by
    intro wd k ks hm
    rcases List.mem_cons.mp hm with e | hm
    · cases e
      exact ⟨_, _, n1, fun H => .inr ⟨_, _, _, p1, rfl, rfl, (by show 2 ≤ sizeLine; decide), .cons ⟨_, rfl⟩ (.cons rfl .nil)⟩, fun H => .inr ⟨_, _, _, q1, rfl, rfl, (by show 1 ≤ sizeLine; decide), .cons ⟨_, rfl⟩ (.nil)⟩⟩
    rcases List.mem_cons.mp hm with e | hm
    · cases e
      exact ⟨_, _, n2, fun H => .inr ⟨_, _, _, p2, rfl, rfl, (by show 2 ≤ sizeLine; decide), .cons ⟨_, rfl⟩ (.cons rfl .nil)⟩, fun H => .inr ⟨_, _, _, q2, rfl, rfl, (by show 2 ≤ sizeLine; decide), .cons ⟨_, rfl⟩ (.cons ⟨_, rfl⟩ (.nil))⟩⟩
    rcases List.mem_cons.mp hm with e | hm
    · cases e
      exact ⟨_, _, n3, fun H => .inr ⟨_, _, _, p3, rfl, rfl, (by show 2 ≤ sizeLine; decide), .cons ⟨_, rfl⟩ (.cons rfl .nil)⟩, fun H => .inr ⟨_, _, _, q3, rfl, rfl, (by show 2 ≤ sizeLine; decide), .cons ⟨_, rfl⟩ (.cons ⟨_, rfl⟩ (.nil))⟩⟩
    rcases List.mem_cons.mp hm with e | hm
    · cases e
      exact ⟨_, _, n4, fun H => .inr ⟨_, _, _, p4, rfl, rfl, (by show 2 ≤ sizeLine; decide), .cons ⟨_, rfl⟩ (.cons rfl .nil)⟩, fun H => .inr ⟨_, _, _, q4, rfl, rfl, (by show 2 ≤ sizeLine; decide), .cons ⟨_, rfl⟩ (.cons ⟨_, rfl⟩ (.nil))⟩⟩
    rcases List.mem_cons.mp hm with e | hm
    · cases e
      exact ⟨_, _, n5, fun H => .inr ⟨_, _, _, p5, rfl, rfl, (by show 2 ≤ sizeLine; decide), .cons ⟨_, rfl⟩ (.cons rfl .nil)⟩, fun H => .inr ⟨_, _, _, q5, rfl, rfl, (by show 0 ≤ sizeLine; decide), .nil⟩⟩
    rcases List.mem_cons.mp hm with e | hm
    · cases e
      exact ⟨_, _, n6, fun H => .inr ⟨_, _, _, p6, rfl, rfl, (by show 2 ≤ sizeLine; decide), .cons ⟨_, rfl⟩ (.cons rfl .nil)⟩, fun H => .inr ⟨_, _, _, q6, rfl, rfl, (by show 2 ≤ sizeLine; decide), .cons ⟨_, rfl⟩ (.cons ⟨_, rfl⟩ (.nil))⟩⟩
    rcases List.mem_cons.mp hm with e | hm
    · cases e
      exact ⟨_, _, n7, fun H => .inr ⟨_, _, _, p7, rfl, rfl, (by show 2 ≤ sizeLine; decide), .cons ⟨_, rfl⟩ (.cons rfl .nil)⟩, fun H => .inr ⟨_, _, _, q7, rfl, rfl, (by show 2 ≤ sizeLine; decide), .cons ⟨_, rfl⟩ (.cons ⟨_, rfl⟩ (.nil))⟩⟩
    rcases List.mem_cons.mp hm with e | hm
    · cases e
      exact ⟨_, _, n8, fun H => .inr ⟨_, _, _, p8, rfl, rfl, (by show 2 ≤ sizeLine; decide), .cons ⟨_, rfl⟩ (.cons rfl .nil)⟩, fun H => .inr ⟨_, _, _, q8, rfl, rfl, (by show 2 ≤ sizeLine; decide), .cons ⟨_, rfl⟩ (.cons ⟨_, rfl⟩ (.nil))⟩⟩
    rcases List.mem_cons.mp hm with e | hm
    · cases e
      exact ⟨_, _, n9, fun H => .inr ⟨_, _, _, p9, rfl, rfl, (by show 2 ≤ sizeLine; decide), .cons ⟨_, rfl⟩ (.cons rfl .nil)⟩, fun H => .inr ⟨_, _, _, q9, rfl, rfl, (by show 1 ≤ sizeLine; decide), .cons ⟨_, rfl⟩ (.nil)⟩⟩
    · cases List.mem_singleton.mp hm
      exact ⟨_, _, n10, fun H => .inr ⟨_, _, _, p10, rfl, rfl, (by show 2 ≤ sizeLine; decide), .cons ⟨_, rfl⟩ (.cons rfl .nil)⟩, fun H => .inr ⟨_, _, _, q10, rfl, rfl, (by show 1 ≤ sizeLine; decide), .cons ⟨_, rfl⟩ (.nil)⟩⟩
  have T : Txt K mg LV BV := ⟨PySem.W.mg_of X G aL, PySem.W.mg_of X G aB, fun H => .inr ⟨_, _, _, oL, rfl, rfl, (by show 3 ≤ sizeLine; decide), .cons ⟨_, rfl⟩ (.cons ⟨_, rfl⟩ (.cons ⟨_, rfl⟩ .nil))⟩, fun H => .inr ⟨_, _, _, oB, rfl, rfl, (by show 2 ≤ sizeLine; decide), .cons ⟨_, rfl⟩ (.cons ⟨_, rfl⟩ .nil)⟩⟩
  have TS : TxS K w mg FV FL := ⟨PySem.W.mg_of X G aF, PySem.W.mg_of X G aFl, fun H => .inr ⟨_, _, _, oFl, rfl, rfl, (by show 4 ≤ sizeLine; decide), .cons ⟨_, rfl⟩ (.cons ⟨_, rfl⟩ (.cons ⟨_, rfl⟩ (.cons ⟨_, rfl⟩ .nil)))⟩, ⟨_, _, oF, litF, lowF⟩, form, gzip⟩
  have X1 : Tx K mg NO NU NU := ⟨PySem.W.mg_of X G aNO, PySem.W.mg_of X G aNU, fun H => .inr ⟨_, _, _, pNO, rfl, rfl, (by show 1 ≤ sizeLine; decide), (.cons ⟨_, rfl⟩ .nil)⟩, fun H => .inr ⟨_, _, _, pNU, rfl, rfl, (by show 1 ≤ sizeLine; decide), (.cons ⟨_, rfl⟩ .nil)⟩, glen⟩
  have gTake := ok_take (P := l.prog) (w := w) (base := base) (mg := mg) (j := 0) F20
  have D : Draw l.prog w K mg base f20 f21 _ _ := ⟨gTake, b20, k20, m20, ok_pick F21 gTake b20 k20 m20 glen, b21, k21, m21⟩
  have gFeed := ok_feed (P := l.prog) (w := w) (base := base) (j := 0) F19 glen gabs
  have gBen := ok_beneath (P := l.prog) (w := w) (base := base) (j := 0) F1 T
  have gPie := ok_pieces F2 T gBen b1 k1 m1
  have W : Put l.prog w K mg base [(PT1, lq "put_in")] f3 f2 LV _ _ := ⟨F3, b3, m3, gPie, b2, k2, m2, T.mL, T.leaf, glen⟩
  have gPut := ok_putin l13 c13 tab1 List.mem_cons_self hu1 W
  have mTG : mg "TOO_GREAT" = some (.int (10 ^ 60) tG) := by
    rw [← eTG]
    exact PySem.W.mg_of X G aTG
  have M : Many K mg TM := ⟨⟨_, _, _, xTM, PySem.F.excBase_ValueError⟩, PySem.W.mg_of X G aTM, kTM, sTM, yTM, oTM⟩
  have gWo := ok_worth F10 gPie b2 k2 m2 M mTG
  have gTrue := true_calm (ok_true F15 gPie b2 k2 m2 gWo b10 k10 m10)
  have gOf := ok_of (P := l.prog) (w := w) (base := base) (j := 0) F7 TS
  have gFlq := ok_flatQ F14 TS gOf b7 k7 m7
  have gPai := ok_paired (P := l.prog) (w := w) (base := base) (j := 0) F4 X1
  have gGiv := ok_given (P := l.prog) (w := w) (base := base) (j := 0) F5 X1
  have gJoi := ok_joined F6 X1 gPai b4 k4 m4 gGiv b5 k5 m5
  have gKo := ok_kindof F8 X1 gOf b7 k7 m7 gJoi b6 k6 m6 greversed
  have gWhole := ok_whole (P := l.prog) (w := w) (base := base) (j := 0) F9 ⟨gisinstance, gint, gbool⟩
  have gTwo := ok_two (P := l.prog) (w := w) (base := base) F11 ⟨glen, gisinstance, gtuple⟩
  have gIW := ok_iwx F12 mTG gTwo b11 k11 m11 gWhole b9 k9 m9
  have gWB := ok_wb F16 X1 gKo b8 k8 m8
  have gSS := ok_ss F17 X1 gKo b8 k8 m8 gPut b13 k13 m13
  have gBe := ok_be F18 gIW b12 k12 m12 gKo b8 k8 m8 gFlq b14 k14 m14 gTrue b15 k15 m15 gWB b16 k16 m16 gSS b17 k17 m17
  have gSm := ok_smalls F23 D b23 m23
  have gFl := ok_flats F22 D (gSm 2) b23 k23 m23 b22 m22
  have gSe := ok_seens F24 D (gFl 2) b22 k22 m22 b24 m24
  have gLF := lf_calm (ok_LFs (P := l.prog) (w := w) (base := base) F26 b26 m26 10)
  have gNm := ok_nms (P := l.prog) (w := w) (base := base) F25 b25 m25
  have gTr := ok_trs F27 (gNm 2) b25 k25 m25 b27 m27
  have Z : ZA mg := ⟨gint, gtuple, gisinstance, gbool, glen, gstr⟩
  have gAt := ok_ats (P := l.prog) (w := w) (base := base) F28 Z b28 m28
  have gIN := ok_in (P := l.prog) (w := w) (base := base) F30 Z
  have gSd := ok_sd F29 Z gLF b26 k26 m26
  have gFi := ok_fis F31 Z gLF b26 k26 m26 gSd b29 k29 m29 gIN b30 k30 m30 b31 m31
  have gBo := ok_bos F32 Z gLF b26 k26 m26 gSd b29 k29 m29 (gTr 8) b27 k27 m27 (gAt 10) b28 k28 m28 b32 m32
  have gDw := ok_dws F33 D gLF b26 k26 m26 b33 m33
  have gLe := ok_les F35 gLF b26 k26 m26 b35 m35
  have gSo := ok_sos F34 grange gLF b26 k26 m26 (gTr 8) b27 k27 m27 (gLe 8) b35 k35 m35 (gAt 10) b28 k28 m28 b34 m34
  have gFa := ok_fa (P := l.prog) (w := w) (base := base) F36 grange
  have gBn := ok_bns F37 Z glist D gFa b36 k36 m36 b37 m37
  exact ok_law F38 ⟨gFeed, b19, k19, m19, gSe 5, b24, k24, m24, gDw 8, b33, k33, m33, gSo 8, b34, k34, m34, gBn 10, b37, k37, m37, gFi 8, b31, k31, m31, gBo 8, b32, k32, m32, gBe, b18, k18, m18, grange, gmax, gmin, glen, grepr, gisinstance, gbool⟩
theorem walk {l : PySem.W.OpenLaw} {q : Program} {loose : List Str} {XP : (Str → Option Value) → Heap → Prop} {YP : World → Heap → Prop} {d : DefRec} {K : Params → PySem.W.Frag} (hn : l.most = some 63) (hdf : d.params.defaults = []) (recs : ∀ nm ∈ [Str.ofString "put_in"], ((recsOf q).any fun e => e.name == nm) = true)
    (hY : ∀ (w : World) (h : Heap), YP w h → (K w.params).In h)
    (F : ∀ (w : World) (mg : Str → Option Value) (fa : Addr) (h : Heap), (K w.params).In h → h.Ns mainGlobals mg → mg d.name = some (.ref fa) → (∀ nm ∈ [Str.ofString "put_in"], ∀ fw, mg nm = some (.ref fw) → LamX.OwnTab (K w.params) fw h) → LawG l w (K w.params) 27 63 "script" mg fa h) :
    PySem.W.WalkO q loose XP YP l.row.toRowW d [] (fun f vs => PySem.call f vs) :=
  walk_guard [Str.ofString "put_in"] hn (by decide) hdf ⟨rfl, by decide, by decide⟩ recs hY (fun w mg fa h _ KX G hm t => F w mg fa h KX G hm t)
end Kf
open PySem PySem.W PyProof.Rows in
set_option maxRecDepth 100000 in
set_option maxHeartbeats 0 in
theorem PySem.Challenge.cw_prooffruit_k42_what_bears_a_saying_holds : PySem.Challenge.rw_prooffruit_k42_what_bears_a_saying.Holds := by
  w_on; o_law; k_head; (case hw => w_witness2)
  k_fill
  refine Kf.walk (l := PySem.Challenge.rw_prooffruit_k42_what_bears_a_saying) rfl rfl (by decide +kernel) (fun w h Y => PySem.W.km_in_of Y) ?F
  case F =>
    intro w mg fa h KX G hmg own
    refine' Kf.all_mk KX G hmg own ?a1 ?l1 ?c1 ?k1 ?a2 ?l2 ?c2 ?k2 ?a3 ?l3 ?c3 ?k3 ?a4 ?l4 ?c4 ?k4 ?a5 ?l5 ?c5 ?k5 ?a6 ?l6 ?c6 ?k6 ?a7 ?l7 ?c7 ?k7 ?a8 ?l8 ?c8 ?k8 ?a9 ?l9 ?c9 ?k9 ?a10 ?l10 ?c10 ?k10 ?a11 ?l11 ?c11 ?k11 ?a12 ?l12 ?c12 ?k12 ?a13 ?l13 ?c13 ?k13 ?a14 ?l14 ?c14 ?k14 ?a15 ?l15 ?c15 ?k15 ?a16 ?l16 ?c16 ?k16 ?a17 ?l17 ?c17 ?k17 ?a18 ?l18 ?c18 ?k18 ?a19 ?l19 ?c19 ?k19 ?a20 ?l20 ?c20 ?k20 ?a21 ?l21 ?c21 ?k21 ?a22 ?l22 ?c22 ?k22 ?a23 ?l23 ?c23 ?k23 ?a24 ?l24 ?c24 ?k24 ?a25 ?l25 ?c25 ?k25 ?a26 ?l26 ?c26 ?k26 ?a27 ?l27 ?c27 ?k27 ?a28 ?l28 ?c28 ?k28 ?a29 ?l29 ?c29 ?k29 ?a30 ?l30 ?c30 ?k30 ?a31 ?l31 ?c31 ?k31 ?a32 ?l32 ?c32 ?k32 ?a33 ?l33 ?c33 ?k33 ?a34 ?l34 ?c34 ?k34 ?a35 ?l35 ?c35 ?k35 ?a36 ?l36 ?c36 ?k36 ?a37 ?l37 ?c37 ?k37 ?a38 ?l38 ?c38 ?k38 ?zrange ?zmax ?zmin ?zlen ?zabs ?zint ?zzip ?zrepr ?zisinstance ?zbool ?ztuple ?zstr ?zlist ?zreversed ?aF ?oF ?litF ?lowF ?n1 ?p1 ?q1 ?n2 ?p2 ?q2 ?n3 ?p3 ?q3 ?n4 ?p4 ?q4 ?n5 ?p5 ?q5 ?n6 ?p6 ?q6 ?n7 ?p7 ?q7 ?n8 ?p8 ?q8 ?n9 ?p9 ?q9 ?n10 ?p10 ?q10 ?aL ?oL ?aB ?oB ?aFl ?oFl ?aNO ?pNO ?aNU ?pNU ?aTM ?kTM ?xTM ?sTM ?yTM ?oTM ?aTG ?eTG ?lC1 ?v111 ?g111 ?g181 ?g71 ?g91 ?g101 ?ncp1 ?nPT1
    (case a1 => first | k_is | rfl)
    (case l1 => first | k_is | rfl)
    (case c1 => first | k_is | rfl)
    (case k1 => first | k_is | rfl)
    (case a2 => first | k_is | rfl)
    (case l2 => first | k_is | rfl)
    (case c2 => first | k_is | rfl)
    (case k2 => first | k_is | rfl)
    (case a3 => first | k_is | rfl)
    (case l3 => first | k_is | rfl)
    (case c3 => first | k_is | rfl)
    (case k3 => first | k_is | rfl)
    (case a4 => first | k_is | rfl)
    (case l4 => first | k_is | rfl)
    (case c4 => first | k_is | rfl)
    (case k4 => first | k_is | rfl)
    (case a5 => first | k_is | rfl)
    (case l5 => first | k_is | rfl)
    (case c5 => first | k_is | rfl)
    (case k5 => first | k_is | rfl)
    (case a6 => first | k_is | rfl)
    (case l6 => first | k_is | rfl)
    (case c6 => first | k_is | rfl)
    (case k6 => first | k_is | rfl)
    (case a7 => first | k_is | rfl)
    (case l7 => first | k_is | rfl)
    (case c7 => first | k_is | rfl)
    (case k7 => first | k_is | rfl)
    (case a8 => first | k_is | rfl)
    (case l8 => first | k_is | rfl)
    (case c8 => first | k_is | rfl)
    (case k8 => first | k_is | rfl)
    (case a9 => first | k_is | rfl)
    (case l9 => first | k_is | rfl)
    (case c9 => first | k_is | rfl)
    (case k9 => first | k_is | rfl)
    (case a10 => first | k_is | rfl)
    (case l10 => first | k_is | rfl)
    (case c10 => first | k_is | rfl)
    (case k10 => first | k_is | rfl)
    (case a11 => first | k_is | rfl)
    (case l11 => first | k_is | rfl)
    (case c11 => first | k_is | rfl)
    (case k11 => first | k_is | rfl)
    (case a12 => first | k_is | rfl)
    (case l12 => first | k_is | rfl)
    (case c12 => first | k_is | rfl)
    (case k12 => first | k_is | rfl)
    (case a13 => first | k_is | rfl)
    (case l13 => first | k_is | rfl)
    (case c13 => first | k_is | rfl)
    (case k13 => first | k_is | rfl)
    (case a14 => first | k_is | rfl)
    (case l14 => first | k_is | rfl)
    (case c14 => first | k_is | rfl)
    (case k14 => first | k_is | rfl)
    (case a15 => first | k_is | rfl)
    (case l15 => first | k_is | rfl)
    (case c15 => first | k_is | rfl)
    (case k15 => first | k_is | rfl)
    (case a16 => first | k_is | rfl)
    (case l16 => first | k_is | rfl)
    (case c16 => first | k_is | rfl)
    (case k16 => first | k_is | rfl)
    (case a17 => first | k_is | rfl)
    (case l17 => first | k_is | rfl)
    (case c17 => first | k_is | rfl)
    (case k17 => first | k_is | rfl)
    (case a18 => first | k_is | rfl)
    (case l18 => first | k_is | rfl)
    (case c18 => first | k_is | rfl)
    (case k18 => first | k_is | rfl)
    (case a19 => first | k_is | rfl)
    (case l19 => first | k_is | rfl)
    (case c19 => first | k_is | rfl)
    (case k19 => first | k_is | rfl)
    (case a20 => first | k_is | rfl)
    (case l20 => first | k_is | rfl)
    (case c20 => first | k_is | rfl)
    (case k20 => first | k_is | rfl)
    (case a21 => first | k_is | rfl)
    (case l21 => first | k_is | rfl)
    (case c21 => first | k_is | rfl)
    (case k21 => first | k_is | rfl)
    (case a22 => first | k_is | rfl)
    (case l22 => first | k_is | rfl)
    (case c22 => first | k_is | rfl)
    (case k22 => first | k_is | rfl)
    (case a23 => first | k_is | rfl)
    (case l23 => first | k_is | rfl)
    (case c23 => first | k_is | rfl)
    (case k23 => first | k_is | rfl)
    (case a24 => first | k_is | rfl)
    (case l24 => first | k_is | rfl)
    (case c24 => first | k_is | rfl)
    (case k24 => first | k_is | rfl)
    (case a25 => first | k_is | rfl)
    (case l25 => first | k_is | rfl)
    (case c25 => first | k_is | rfl)
    (case k25 => first | k_is | rfl)
    (case a26 => first | k_is | rfl)
    (case l26 => first | k_is | rfl)
    (case c26 => first | k_is | rfl)
    (case k26 => first | k_is | rfl)
    (case a27 => first | k_is | rfl)
    (case l27 => first | k_is | rfl)
    (case c27 => first | k_is | rfl)
    (case k27 => first | k_is | rfl)
    (case a28 => first | k_is | rfl)
    (case l28 => first | k_is | rfl)
    (case c28 => first | k_is | rfl)
    (case k28 => first | k_is | rfl)
    (case a29 => first | k_is | rfl)
    (case l29 => first | k_is | rfl)
    (case c29 => first | k_is | rfl)
    (case k29 => first | k_is | rfl)
    (case a30 => first | k_is | rfl)
    (case l30 => first | k_is | rfl)
    (case c30 => first | k_is | rfl)
    (case k30 => first | k_is | rfl)
    (case a31 => first | k_is | rfl)
    (case l31 => first | k_is | rfl)
    (case c31 => first | k_is | rfl)
    (case k31 => first | k_is | rfl)
    (case a32 => first | k_is | rfl)
    (case l32 => first | k_is | rfl)
    (case c32 => first | k_is | rfl)
    (case k32 => first | k_is | rfl)
    (case a33 => first | k_is | rfl)
    (case l33 => first | k_is | rfl)
    (case c33 => first | k_is | rfl)
    (case k33 => first | k_is | rfl)
    (case a34 => first | k_is | rfl)
    (case l34 => first | k_is | rfl)
    (case c34 => first | k_is | rfl)
    (case k34 => first | k_is | rfl)
    (case a35 => first | k_is | rfl)
    (case l35 => first | k_is | rfl)
    (case c35 => first | k_is | rfl)
    (case k35 => first | k_is | rfl)
    (case a36 => first | k_is | rfl)
    (case l36 => first | k_is | rfl)
    (case c36 => first | k_is | rfl)
    (case k36 => first | k_is | rfl)
    (case a37 => first | k_is | rfl)
    (case l37 => first | k_is | rfl)
    (case c37 => first | k_is | rfl)
    (case k37 => first | k_is | rfl)
    (case a38 => first | k_is | rfl)
    (case l38 => first | k_is | rfl)
    (case c38 => first | k_is | rfl)
    (case k38 => first | k_is | rfl)
    (case zrange => first | k_is | rfl)
    (case zmax => first | k_is | rfl)
    (case zmin => first | k_is | rfl)
    (case zlen => first | k_is | rfl)
    (case zabs => first | k_is | rfl)
    (case zint => first | k_is | rfl)
    (case zzip => first | k_is | rfl)
    (case zrepr => first | k_is | rfl)
    (case zisinstance => first | k_is | rfl)
    (case zbool => first | k_is | rfl)
    (case ztuple => first | k_is | rfl)
    (case zstr => first | k_is | rfl)
    (case zlist => first | k_is | rfl)
    (case zreversed => first | k_is | rfl)
    (case aF => first | k_is | rfl)
    (case oF => first | k_is | rfl)
    (case litF => first | k_is | exact ⟨⟨_, _, rfl, rfl⟩, ⟨_, _, rfl, rfl⟩, ⟨_, _, rfl, rfl⟩, ⟨_, _, rfl, rfl⟩, ⟨_, _, rfl, rfl⟩, ⟨_, _, rfl, rfl⟩, ⟨_, _, rfl, rfl⟩, ⟨_, _, rfl, rfl⟩, ⟨_, _, rfl, rfl⟩, ⟨_, _, rfl, rfl⟩, trivial⟩)
    (case lowF => first | k_is | rfl)
    (case n1 => first | k_is | rfl)
    (case p1 => first | k_is | rfl)
    (case q1 => first | k_is | rfl)
    (case n2 => first | k_is | rfl)
    (case p2 => first | k_is | rfl)
    (case q2 => first | k_is | rfl)
    (case n3 => first | k_is | rfl)
    (case p3 => first | k_is | rfl)
    (case q3 => first | k_is | rfl)
    (case n4 => first | k_is | rfl)
    (case p4 => first | k_is | rfl)
    (case q4 => first | k_is | rfl)
    (case n5 => first | k_is | rfl)
    (case p5 => first | k_is | rfl)
    (case q5 => first | k_is | rfl)
    (case n6 => first | k_is | rfl)
    (case p6 => first | k_is | rfl)
    (case q6 => first | k_is | rfl)
    (case n7 => first | k_is | rfl)
    (case p7 => first | k_is | rfl)
    (case q7 => first | k_is | rfl)
    (case n8 => first | k_is | rfl)
    (case p8 => first | k_is | rfl)
    (case q8 => first | k_is | rfl)
    (case n9 => first | k_is | rfl)
    (case p9 => first | k_is | rfl)
    (case q9 => first | k_is | rfl)
    (case n10 => first | k_is | rfl)
    (case p10 => first | k_is | rfl)
    (case q10 => first | k_is | rfl)
    (case aL => first | k_is | rfl)
    (case oL => first | k_is | rfl)
    (case aB => first | k_is | rfl)
    (case oB => first | k_is | rfl)
    (case aFl => first | k_is | rfl)
    (case oFl => first | k_is | rfl)
    (case aNO => first | k_is | rfl)
    (case pNO => first | k_is | rfl)
    (case aNU => first | k_is | rfl)
    (case pNU => first | k_is | rfl)
    (case aTM => first | k_is | rfl)
    (case kTM => first | k_is | rfl | decide +kernel)
    (case xTM => k_exc)
    (case sTM => first | k_is | rfl | decide +kernel)
    (case yTM => first | k_is | rfl | decide +kernel)
    (case oTM => first | k_is | rfl | decide +kernel)
    (case aTG => first | k_is | rfl)
    (case eTG => first | rfl | decide +kernel)
    (case lC1 => first | k_is | rfl)
    (case v111 => first | k_is | rfl)
    (case g111 => first | k_is | rfl)
    (case g181 => first | k_is | rfl)
    (case g71 => first | k_is | rfl)
    (case g91 => first | k_is | rfl)
    (case g101 => first | k_is | rfl)
    (case ncp1 => first | decide | decide +kernel)
    (case nPT1 => first | k_is | rfl)
