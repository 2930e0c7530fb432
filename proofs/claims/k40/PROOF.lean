import PyProof.Rows.All
import Wide.All
import OpenK.AllK
import Wide.FinOn
import HandS.ForMost
import HandS.SetKeys
import HandS.SetFor
import HandS.Strs
import HandS.More
import HandS.Wide
import HandS.IsInst
import HandS.TupAny
import HandS.EndBits
import HandS.WideBits
import HandS.Zip
import HandS.Comp
import HandS.Style
import HandS.Lambda
import HandS.Nested
import HandS.Star
import HandS.Flow
import HandS.EndTab
import PyProof.ReprRoads
import HandS.EndOwn
import PyProof.ReprLen
import PySem.Challenge.RW_prooffruit_k40_flat_and_seen
set_option Elab.async false
set_option linter.all false
set_option maxRecDepth 100000
set_option maxHeartbeats 4000000
/-! Sets of texts, whatever the world's order of them is: set(), set(a list), add, sorted. -/
namespace Sx
open PySem PySem.Spec PyProof.Rows L2
/-- the text of an entry -/
def tx (e : Int × Value) : Str := match e.2 with
  | .str k _ => k
  | _ => Str.empty
def Ent (w : World) (e : Int × Value) : Prop := ∃ k tk, e = (hashStr w k, Value.str k tk)
/-- one text more -/
def ins (k : Str) (ks : List Str) : List Str := if k ∈ ks then ks else k :: ks
theorem ins_mem {k j : Str} {ks : List Str} : j ∈ ins k ks ↔ j = k ∨ j ∈ ks := by
  unfold ins
  split
  · rename_i h
    exact ⟨.inr, fun q => q.elim (fun e => e ▸ h) (fun q => q)⟩
  · exact List.mem_cons
theorem ins_nodup {k : Str} {ks : List Str} (h : ks.Nodup) : (ins k ks).Nodup := by
  unfold ins
  split
  · exact h
  · rename_i q
    exact List.nodup_cons.mpr ⟨q, h⟩
theorem ins_len {k : Str} {ks : List Str} : (ins k ks).length ≤ ks.length + 1 := by
  unfold ins
  split
  · omega
  · exact Nat.le_refl _
/-- the set's table: its rows are the texts ks, it can be walked -/
structure Rows (w : World) (es : Array (Int × Value)) (t : SetTable) (ks : List Str) : Prop where
  ent : ∀ e ∈ es.toList, Ent w e
  perm : (es.toList.map tx).Perm ks
  nd : ks.Nodup
  few : es.size < scanBound
  fit : t.fits es.size = true
  ris : Ris t.place.toList
  led : w.params.followText "set-order" = true ∨ t.led = true
def SetS (w : World) (h : Heap) (a : Addr) (ks : List Str) : Prop := ∃ o es ep t, h.get? a = some o ∧ o.ExactSet ∧ o.data = .set es ep t ∧ Rows w es t ks
section
variable {P : Program} {w : World} {h h' : Heap} {a : Addr} {ks : List Str} {es : Array (Int × Value)} {t : SetTable}
theorem SetS.stay (R : SetS w h a ks) (k : ∀ o, h.get? a = some o → h'.get? a = some o) : SetS w h' a ks := by
  obtain ⟨o, es, ep, t, ho, z⟩ := R
  exact ⟨o, es, ep, t, k o ho, z⟩
theorem Rows.size (r : Rows w es t ks) : es.size = ks.length := by
  have q := r.perm.length_eq
  rw [List.length_map, Array.length_toList] at q
  exact q
theorem ent_is {e : Int × Value} (g : Ent w e) (k : Str) : (PySem.strKind P w).is k e.2 = true ↔ tx e = k := by
  obtain ⟨j, tk, rfl⟩ := g
  show (j == k) = true ↔ j = k
  exact beq_iff_eq
theorem Rows.elems (r : Rows w es t ks) : ElemsOf (PySem.strKind P w) es.toList := by
  intro e he
  obtain ⟨k, tk, rfl⟩ := r.ent e he
  exact ⟨⟨k, strKind_is P w k tk, rfl⟩, rfl⟩
theorem Rows.mem (r : Rows w es t ks) (k : Str) : k ∈ ks ↔ ∃ e ∈ es.toList, (PySem.strKind P w).is k e.2 = true := by
  rw [← r.perm.mem_iff, List.mem_map]
  exact ⟨fun ⟨e, he, q⟩ => ⟨e, he, (ent_is (r.ent e he) k).2 q⟩, fun ⟨e, he, q⟩ => ⟨e, he, (ent_is (r.ent e he) k).1 q⟩⟩
theorem SetS.of (R : SetS w h a ks) : h.SetOf (PySem.strKind P w) a (fun k => decide (k ∈ ks)) ks.length := by
  obtain ⟨o, es, ep, t, ho, hx, hd, r⟩ := R
  exact ⟨o, es, ep, t, ho, hx, hd, r.elems, fun k => by rw [decide_eq_true_iff]; exact r.mem k, r.few, r.fit, r.size⟩
theorem rows_new (w : World) : Rows w #[] (.fresh 0 0 (!w.params.followText "set-order")) [] where
  ent := fun e he => by simp at he
  perm := List.Perm.refl _
  nd := List.nodup_nil
  few := by decide
  fit := rfl
  ris := List.Pairwise.nil
  led := by
    show _ ∨ (!w.params.followText "set-order") = true
    cases w.params.followText "set-order" with
    | true => exact .inl rfl
    | false => exact .inr rfl
end
section
variable {P : Program} {w : World} {A : Around} {E : Value → Shared → Prop} {s : Shared} {a : Addr} {ks : List Str}
/-- the table is stored, and laid anew where it is too full -/
theorem stored {gave : Bool → Sem Unit} (hg : ∀ (b : Bool) (z : Shared) (Y : Unit → Shared → Prop), Y () z → wpAny (model P w) A (gave b) Y E z)
    {o : Obj} {es0 es : Array (Int × Value)} {ep : Nat} {t0 t : SetTable} (ho : s.heap.get? a = some o) (hx : o.ExactSet) (hd : o.data = .set es0 ep t0) (r : Rows w es t ks) {dummy : Bool} {Z : Option Bool → Shared → Prop}
    (hZ : ∀ h', Heap.SameBut a s.heap h' → SetS w h' a ks → Z (some true) { s with heap := h' }) :
    wpAny (model P w) A (do
        storeSet a es t
        if (!dummy && t.tooFull) = true then do
            gave (relayAll t es (SetTable.grown es.size)).2.2
            storeSet a (relayAll t es (SetTable.grown es.size)).1 (relayAll t es (SetTable.grown es.size)).2.1
            pure (some true)
          else pure (some true)) Z E s := by
  have first := Heap.SameBut.update s.heap a (Obj.putSet es t)
  have o1 := store_at (es' := es) (t' := t) ho hd
  refine wpAny_bind (wpAny_storeSet_of ho hd ?_ (fits_of_scanBound r.few))
  by_cases full : (!dummy && t.tooFull) = true
  · rw [if_pos full]
    have r2 : Rows w (relayAll t es (SetTable.grown es.size)).1 (relayAll t es (SetTable.grown es.size)).2.1 ks := by
      have pm := relayAll_perm t es (SetTable.grown es.size)
      have sz : (relayAll t es (SetTable.grown es.size)).1.size = es.size := by
        have q := pm.length_eq
        rw [Array.length_toList, Array.length_toList] at q
        exact q
      exact ⟨fun e he => r.ent e (pm.mem_iff.mp he), (pm.map tx).trans r.perm, r.nd, Nat.lt_of_le_of_lt (Nat.le_of_eq sz) r.few, relayAll_fits _ _ _, relayAll_ris _ _ _, r.led.imp (fun z => z) fun z => (relayAll_led _ _ _).trans z⟩
    refine wpAny_bind (hg _ _ _ (wpAny_bind (wpAny_storeSet_of o1 rfl ?_ (fits_of_scanBound r2.few))))
    exact wpAny_pure (hZ _ (first.trans (Heap.SameBut.update _ a _)) ⟨_, _, _, _, store_at o1 rfl, hx, rfl, r2⟩)
  · rw [if_neg full]
    exact wpAny_pure (hZ _ first ⟨_, _, _, _, o1, hx, rfl, r⟩)
theorem plain_off {w : World} {es : Array (Int × Value)} {t : SetTable} {ks : List Str} (r : Rows w es t ks) : Rows w es { t with plain := false } ks :=
  ⟨r.ent, r.perm, r.nd, r.few, SetTable.fits_plain_off r.fit, r.ris, r.led⟩
/-- a text whose hash is known is added -/
theorem add_at {k : Str} {tk : Tok} {Z : Bool → Shared → Prop} (R : SetS w s.heap a ks) (room : ks.length + 1 < scanBound)
    (hZ : ∀ b h', Heap.SameBut a s.heap h' → SetS w h' a (ins k ks) → Z b { s with heap := h' }) : wpAny (model P w) A (setAddHashed a (.str k tk) (hashStr w k)) Z E s := by
  obtain ⟨o, es, ep, t, ho, hx, hd, r⟩ := R
  have hel : ElemsOf (PySem.strKind P w) es.toList := r.elems
  have hscan : byScan (Value.str k tk) es = true := byScan_of rfl r.few hel
  unfold setAddHashed setAddHashedIn
  refine wpAny_holding (wpAny_bind (wpAny_setState_of ho hd r.fit ?_))
  dsimp only
  rw [hscan]
  simp only [↓reduceIte]
  unfold setAddByScan
  refine wpAny_bind (wpAny_bind (wpAny_rule (wpAny_bind (wpAny_setScan_of (knd := PySem.strKind P w) (k := k) (strKind_is P w k tk) ho hd r.fit hel ?_))))
  cases found : List.findIdx? (fun e => (PySem.strKind P w).is k e.2) es.toList with
  | some j =>
    obtain ⟨lt, hit, _⟩ := List.findIdx?_eq_some_iff_getElem.mp found
    have there : k ∈ ks := (r.mem (P := P) k).2 ⟨_, List.getElem_mem lt, hit⟩
    refine wpAny_pure (wpAny_pure (hZ _ s.heap (Heap.SameBut.refl a s.heap) ⟨o, es, ep, t, ho, hx, hd, ?_⟩))
    unfold ins
    rw [if_pos there]
    exact r
  | none =>
    have away : k ∉ ks := fun z => by
      obtain ⟨e, he, hit⟩ := (r.mem (P := P) k).1 z
      have no := List.findIdx?_eq_none_iff.mp found e he
      rw [hit] at no
      cases no
    have pm0 := layNew_perm t es (hashStr w k) (.str k tk)
    rw [Array.toList_push] at pm0
    have pm := pm0.trans (List.perm_append_singleton (hashStr w k, Value.str k tk) es.toList)
    have r1 : Rows w (layNew t es (hashStr w k) (.str k tk)).1 (layNew t es (hashStr w k) (.str k tk)).2.1 (ins k ks) := by
      have sz : (layNew t es (hashStr w k) (.str k tk)).1.size = ks.length + 1 := by
        have q := pm.length_eq
        rw [Array.length_toList, List.length_cons, Array.length_toList, r.size] at q
        exact q
      refine ⟨fun e he => ?_, ?_, ins_nodup r.nd, Nat.lt_of_le_of_lt (Nat.le_of_eq sz) room, layNew_fits _ _ _ _, layNew_ris _ _ _ _ r.ris, r.led.imp (fun z => z) fun z => (layNew_led _ _ _ _).trans z⟩
      · rcases List.mem_cons.mp (pm.mem_iff.mp he) with z | z
        · exact ⟨k, tk, z⟩
        · exact r.ent e z
      · unfold ins
        rw [if_neg away]
        exact (pm.map tx).trans (List.Perm.cons k r.perm)
    have gw : ∀ (b : Bool) (z : Shared) (Y : Unit → Shared → Prop), Y () z → wpAny (model P w) A (match b with | true => rule "set.scan.the-table-gave-way" | false => pure ()) Y E z := by
      intro b z Y q
      cases b with
      | true => exact wpAny_rule q
      | false => exact wpAny_pure q
    have goal2 : ∀ h', Heap.SameBut a s.heap h' → SetS w h' a (ins k ks) → Z true { s with heap := h' } := fun h' sb r' => hZ true h' sb r'
    dsimp only
    change wpAny _ _ _ _ _ _
    generalize layNew t es (hashStr w k) (.str k tk) = L at r1 ⊢
    obtain ⟨es1, t1, dummy, gave⟩ := L
    dsimp only at r1 ⊢
    refine wpAny_bind (gw _ _ _ ?_)
    by_cases pl : t1.plain = true
    · rw [if_pos pl]
      refine wpAny_bind ?_
      rw [hashByValue_scannable 8 (show (Value.str k tk).scannable = true from rfl)]
      refine wpAny_pure ?_
      refine stored gw ho hx hd (ks := ins k ks) ?_ fun h' sb r' => wpAny_pure (goal2 h' sb r')
      split
      · exact r1
      · exact plain_off r1
    · rw [if_neg pl]
      refine wpAny_bind (wpAny_pure ?_)
      simp only [↓reduceIte]
      exact stored gw ho hx hd (ks := ins k ks) r1 fun h' sb r' => wpAny_pure (goal2 h' sb r')
end
/-- the texts of the first i are put in, one by one -/
def insAll (ks : List Str) : List Str → List Str
  | [] => ks
  | x :: r => insAll (ins x ks) r
theorem insAll_mem {j : Str} : ∀ (xs ks : List Str), j ∈ insAll ks xs ↔ j ∈ xs ∨ j ∈ ks
  | [], ks => by simp [insAll]
  | x :: r, ks => by
    rw [insAll, insAll_mem r, ins_mem, List.mem_cons]
    constructor
    · rintro (h | h | h)
      · exact .inl (.inr h)
      · exact .inl (.inl h)
      · exact .inr h
    · rintro ((h | h) | h)
      · exact .inr (.inl h)
      · exact .inl h
      · exact .inr (.inr h)
theorem insAll_len : ∀ (xs ks : List Str), (insAll ks xs).length ≤ ks.length + xs.length
  | [], ks => Nat.le_refl _
  | x :: r, ks => by
    have h1 := insAll_len r (ins x ks)
    have h2 := ins_len (k := x) (ks := ks)
    rw [insAll, List.length_cons]
    omega
section
variable {P : Program} {w : World} {A : Around} {E : Value → Shared → Prop} {s : Shared}
/-- set.update's own loop over a walk that yields texts -/
theorem feed_loop {I : Addr} {fp wr : List Addr} {G : Array GenState → Array GenState → Prop} {n : Nat} {Y : Nat → Value → Prop} {St : Nat → Shared → Prop} {Z : Result → Shared → Prop}
    (W : WalksS P w A.in1 I fp wr G n Y St) (S : Addr) (out : S ∉ fp) (texts : List Str) (hn : texts.length = n) (hb : n + 1 < scanBound) (hY : ∀ i v, Y i v → ∃ k tk, texts[i]? = some k ∧ v = .str k tk) :
    ∀ (left : Nat) (i : Nat) (ks : List Str) (s : Shared), i + left = n → St i s → SetS w s.heap S ks → ks.length ≤ i →
      (∀ s', Moved (S :: wr) G s s' → SetS w s'.heap S (insAll ks (texts.drop i)) → Z (.ok (.ret .none)) s') → codeAny (model P w) A (.builtin "set.update.loop" ⟨[.ref S, .ref I], []⟩) Z s := by
  have quietS : S ∉ wr := fun z => out (W.sub _ z)
  have more : ∀ b ∈ wr, b ∈ S :: wr := fun b hb => List.mem_cons_of_mem _ hb
  intro left
  induction left with
  | zero =>
    intro i ks s hi hst hS _ hZ
    have e0 : texts.drop i = [] := List.drop_eq_nil_of_le (by omega)
    rw [e0] at hZ
    have e1 : i = n := by omega
    rw [e1] at hst
    refine codeAny_builtin F.entry_set_update_loop ?_
    rw [Around.under_plainId F.plain_set_update_loop _]
    show wpAny _ A.in1 (pyNext (.ref I) >>= _) _ _ s
    refine wpAny_bind (W.done s _ _ hst fun s' mv => wpAny_pure (hZ s' (mv.mono more) (hS.stay fun o e => mv.heap S o quietS e)))
  | succ left ih =>
    intro i ks s hi hst hS hk hZ
    have lt : i < n := by omega
    refine codeAny_builtin F.entry_set_update_loop ?_
    rw [Around.under_plainId F.plain_set_update_loop _]
    show wpAny _ A.in1 (pyNext (.ref I) >>= _) _ _ s
    refine wpAny_bind (W.item i s _ _ lt hst fun v s1 hv hst1 mv => ?_)
    obtain ⟨k, tk, hk1, rfl⟩ := hY i v hv
    have hS1 : SetS w s1.heap S ks := hS.stay fun o e => mv.heap S o quietS e
    have ed : texts.drop i = k :: texts.drop (i + 1) := by
      obtain ⟨lt2, e2⟩ := List.getElem?_eq_some_iff.mp hk1
      rw [← e2]
      exact List.drop_eq_getElem_cons lt2
    rw [ed] at hZ
    show wpAny _ A.in1 (holding [Value.str k tk] (setAdd S (.str k tk)) >>= _) _ _ s1
    unfold setAdd
    refine wpAny_bind (wpAny_holding (wpAny_holding (wpAny_bind ((PySem.strKind P w).pyHash (k := k) (strKind_is P w k tk) ?_))))
    refine add_at (s := { s1 with toks := s1.toks + 1 }) hS1 (by omega) fun b h' sb hS2 => ?_
    refine wpAny_pure ⟨plainId_quiet F.plain_set_update_loop _, ih (i + 1) (ins k ks) _ (by omega) (W.frame _ s1 _ _ hst1 (Nat.le_succ _) fun c hc o e => ?_) hS2 ?_ fun s2 mv2 hS3 => ?_⟩
    · have away : c ≠ S := fun z => out (z ▸ hc)
      rw [sb.2 c away]
      exact e
    · have := ins_len (k := k) (ks := ks)
      omega
    · refine hZ s2 (Moved.trans W.gtrans ((mv.mono more).then_heap (Nat.le_succ _) fun c o hc e => ?_) mv2) hS3
      have away : c ≠ S := fun z => hc (z ▸ List.mem_cons_self)
      rw [sb.2 c away]
      exact e
/-- the empty set, as it is made -/
abbrev bare (w : World) : Obj := { cls := .type "set", dict := none, data := .set #[] 0 (.fresh 0 0 (!w.params.followText "set-order")) }
theorem bare_holds {h : Heap} {a : Addr} (ho : h.get? a = some (bare w)) : SetS w h a [] := ⟨_, _, _, _, ho, ⟨rfl, rfl, rfl⟩, rfl, rows_new w⟩
set_option maxHeartbeats 8000000 in
theorem set_of_list {l : Addr} {items : Array Value} (texts : List Str) {Z : Value → Shared → Prop} (hh : A.handled = none) (hl : s.heap.IsList l items) (ht : StrsAre items.toList texts) (hb : texts.length + 1 < scanBound)
    (hZ : ∀ (h' : Heap) (tk : Nat), SetS w h' s.heap.objs.size (insAll [] texts) → (∀ b o, s.heap.get? b = some o → h'.get? b = some o) → Z (.ref s.heap.objs.size) { s with heap := h', toks := tk }) :
    wpAny (model P w) A (call (.type "set") [.ref l]) Z E s := by
  have count : texts.length = items.size := by
    have q := StrsAre.len_eq ht
    rw [Array.length_toList] at q
    exact q.symm
  obtain ⟨c, tl, hmro⟩ := F.called_set.mro
  have made := F.called_set.made
  have sub := F.called_set.sub
  have noType := F.called_set.notType
  have can := F.called_set.canCreate
  have tcall := F.typeCall_set_1 (.ref l)
  refine wpAny_call (codeAny_of_tree ?_)
  show wpAny _ _ (callAny (.type "set") _) _ _ _
  refine wpAny_pure ⟨Code.quiet_builtin _ (by decide +kernel), codeAny_builtin F.entry_type_call ?_⟩
  rw [Around.under_plain (weight_type_call_type "set" [.ref l] []) rfl]
  repeat (any_goals (first | assumption | wp_step))
  refine codeAny_mono (code_set_led1 (.ref l) (E := E) (Q₁ := fun v z => v = .ref s.heap.objs.size ∧ z = { s with heap := s.heap.push (bare w) }) ⟨rfl, rfl⟩) fun r z hr => ?_
  match r, hr with
  | .error _, hr => exact hr
  | .ok .next, hr => exact hr.elim
  | .ok .brk, hr => exact hr.elim
  | .ok .cont, hr => exact hr.elim
  | .ok (.ret _), hr =>
    obtain ⟨rfl, rfl⟩ := hr
    have hS : (s.heap.push (bare w)).get? s.heap.objs.size = some (bare w) := Heap.get?_push_size _ rfl
    have isSet : Shared.TypeIs { s with heap := s.heap.push (bare w) } (.ref s.heap.objs.size) "set" := ⟨_, hS, rfl⟩
    have initL := F.called_set.init.lookup
    have initB := F.called_set.init.bind (.ref s.heap.objs.size)
    repeat (any_goals (first | assumption | wp_step))
    refine codeAny_mono (codeAny_call_builtin (R := wants (fun v z => v = .none ∧ ∃ h' tk, z = { s with heap := h', toks := tk } ∧ SetS w h' s.heap.objs.size (insAll [] texts) ∧ ∀ b o, s.heap.get? b = some o → h'.get? b = some o) E)
      F.called_set.init.plain F.entry_set_init (check_set_init_1 isSet ?_)) fun r z hr => ?_
    · have hl1 : (s.heap.push (bare w)).IsList l items := hl.push _
      obtain ⟨⟨_, dd, _, sl⟩, hol, rfl, nl, rfl⟩ := id hl
      have hol1 : (s.heap.push (bare w)).get? l = some ⟨.type "list", dd, .seq items nl, sl⟩ := Heap.get?_push_of_some _ hol
      have sub1 := F.sub_list_set
      have sub2 := F.sub_list_frozenset
      have unlike : (Value.type "list" == Value.type "dict") = false := by decide
      unfold Builtin.«set.__init__» noKeywords Builtin.Frozenset.updateFrom
      generalize hPI : pyIter = PI
      wp_walk
      subst hPI
      refine wpAny_pyIter_list hl1 (wpAny_bind (wpAny_runValue ?_))
      have old : l < s.heap.objs.size := Heap.lt_size hol
      have sz1 : (s.heap.push (bare w)).objs.size = s.heap.objs.size + 1 := Heap.size_push ..
      have apart : l ≠ (s.heap.push (bare w)).objs.size := by
        rw [sz1]
        exact Nat.ne_of_lt (Nat.lt_succ_of_lt old)
      have out : s.heap.objs.size ∉ [(s.heap.push (bare w)).objs.size, l] := by
        intro z
        rcases List.mem_cons.mp z with z | z
        · rw [sz1] at z
          omega
        · exact absurd old (by rw [← List.mem_singleton.mp z]; exact Nat.lt_irrefl _)
      have texty : ∀ (i : Nat) (v : Value), items[i]? = some v → ∃ k tk, texts[i]? = some k ∧ v = .str k tk := fun i v hv => by
        have hi : i < texts.length := by
          rw [count]
          exact (Array.getElem?_eq_some_iff.mp hv).1
        obtain ⟨tk, e⟩ := SS.strs_at ht i v (by rw [Array.getElem?_toList]; exact hv)
        refine ⟨texts[i], tk, List.getElem?_eq_getElem hi, ?_⟩
        rw [e, List.getD_eq_getElem?_getD, List.getElem?_eq_getElem hi]
        rfl
      have hh3 : A.in1.in1.in1.handled = none := by simp [hh]
      refine feed_loop ((Walks.list hh3 _ l apart items).toS) s.heap.objs.size out texts count (by rw [← count]; exact hb) texty items.size 0 [] _ (Nat.zero_add _) ⟨⟨_, Heap.get?_push_size _ rfl, rfl, rfl⟩, hl1.push _⟩
        (bare_holds (Heap.get?_push_of_some _ hS)) (Nat.le_refl _) fun s' mv hS' => ?_
      obtain ⟨h', g', d', tk', os'⟩ := s'
      have eg : g' = s.gens := mv.gens
      have ed : d' = s.drawn := mv.drawn
      have eo : os' = s.os := mv.os
      subst eg ed eo
      show wpAny _ _ _ _ _ _
      refine wpAny_pure ?_
      show wpAny _ _ (ret Value.none) _ _ _
      refine wpAny_pure ⟨rfl, h', tk', rfl, hS', fun b o e => ?_⟩
      have lt := Heap.lt_size e
      refine mv.heap b o (fun z => ?_) (Heap.get?_push_of_some _ (Heap.get?_push_of_some _ e))
      rcases List.mem_cons.mp z with z | z
      · rw [z] at lt
        exact Nat.lt_irrefl _ lt
      · have z2 := List.mem_singleton.mp z
        have lt2 : b < (s.heap.push (bare w)).objs.size := by
          rw [sz1]
          exact Nat.lt_succ_of_lt lt
        rw [z2] at lt2
        exact Nat.lt_irrefl _ lt2
    · match r, hr with
      | .error _, hr => exact hr
      | .ok .next, hr => exact hr.elim
      | .ok .brk, hr => exact hr.elim
      | .ok .cont, hr => exact hr.elim
      | .ok (.ret _), hr =>
        obtain ⟨rfl, h', tk, rfl, hS', keep⟩ := hr
        repeat (any_goals (first | assumption | wp_step))
        exact hZ _ _ hS' keep
/-- the texts of values that are texts -/
theorem texts_of : ∀ (vs : List Value), (∀ v ∈ vs, ∃ k tk, v = Value.str k tk) → ∃ ks, StrsAre vs ks ∧ ks = vs.map fun v => tx (0, v)
  | [], _ => ⟨[], .nil, rfl⟩
  | v :: vs, h => by
    obtain ⟨k, tk, rfl⟩ := h v List.mem_cons_self
    obtain ⟨ks, h1, h2⟩ := texts_of vs fun u hu => h u (List.mem_cons_of_mem _ hu)
    exact ⟨k :: ks, .cons k tk h1, by rw [h2]; rfl⟩
theorem sorted_of_set {a : Addr} {ks : List Str} {Z : Value → Shared → Prop} (R : SetS w s.heap a ks) (hh : A.handled = none) (few : ks.length < 64)
    (hZ : ∀ s' p (out : Array Value) (c : Nat) (ys : List Str), (∀ b o, s.heap.get? b = some o → s'.heap.get? b = some o) → s'.gens = s.gens → s'.os = s.os → s.heap.objs.size ≤ p →
      s'.heap.get? p = some (seqObj "list" out c) → StrsAre out.toList ys → ys.Perm ks → sortedS ys = true → Z (.ref p) s') :
    wpAny (model P w) A (call (.builtin "sorted") [.ref a]) Z E s := by
  obtain ⟨o, es, ep, t, ho, hx, hd, r⟩ := R
  refine Calls.call_function_entry kind_sorted plain_sorted entry_sorted (args_sorted1 _) ?_
  unfold Builtin.«sorted»
  refine wpAny_bind (m := checkCount "sorted" 1 1 _) (wpAny_pure ?_)
  refine wpAny_bind (collect_set (A := A.in1) hh ⟨o, ho, hx.1, hd⟩ r.fit r.few r.ris r.led fun s1 vs keep more g1 o1 pm => ?_)
  obtain ⟨texts, isT, eT⟩ := texts_of vs fun v hv => by
    obtain ⟨e, he, q⟩ := List.mem_map.mp (pm.mem_iff.mp hv)
    obtain ⟨k, tk, ee⟩ := r.ent e he
    exact ⟨k, tk, by rw [← q, ee]⟩
  have pT : texts.Perm ks := by
    refine List.Perm.trans ?_ r.perm
    rw [eT]
    have q := pm.map fun v => tx (0, v)
    rw [List.map_map] at q
    exact q
  have len : vs.length = ks.length := by
    rw [StrsAre.len_eq isT]
    exact pT.length_eq
  have line : vs.length ≤ sizeLine := by
    rw [len, sizeLine_eq]
    omega
  have hL : (s1.heap.push (seqObj "list" vs.toArray 0)).get? s1.heap.objs.size = some (seqObj "list" vs.toArray 0) := Heap.get?_push_size _ rfl
  refine wpAny_bind (wpAny_newList ?_ line)
  refine wpAny_bind (wpAny_holding (wpAny_call_entry slot_list_sort ⟨_, hL, rfl⟩ entry_list_sort (list_sort_treeK strKind_oneLt hL isT.keysOf (fun v₁ v₂ rest e => keyKind_strs (by rw [← e]; exact isT)) (by rw [len]; exact few) fun st hp hs => ?_) (args_list_sort _)))
  obtain ⟨ys, y1, y2, y3⟩ := sorted_out_str isT hp hs
  obtain ⟨c, hc⟩ := sortedHeap_at (vs := vs) (out := (arrOf st).map (·.2)) hL
  refine ⟨_, rfl, wpAny_pure ⟨_, rfl, hZ _ s1.heap.objs.size _ c ys (fun b u e => ?_) g1 o1 more hc y1 (y2.trans pT) y3⟩⟩
  have q := keep b u e
  have lt := Heap.lt_size q
  show (sortedHeap (s1.heap.push (seqObj "list" vs.toArray 0)) s1.heap.objs.size vs _).get? b = some u
  rw [sortedHeap_old (Nat.ne_of_lt lt) (by rw [Heap.size_push]; exact Nat.lt_succ_of_lt lt)]
  exact Heap.get?_push_of_some _ q
end
end Sx
set_option Elab.async false
set_option linter.all false
set_option maxRecDepth 100000
set_option maxHeartbeats 4000000
/-! The rules over sets of texts. -/
namespace Sx
open PySem PySem.Spec PyProof.Rows L2
/-- a set of the texts ks stands at a -/
def SetX (w : World) (a : Addr) (ks : List Str) : HO := .ext fun h => SetS w h a ks
section
variable {X : Cx}
theorem setX_new {w : World} {P : Program} {H : Hp} {h : Heap} {a : Addr} {ks : List Str} (R : SetS w h a ks) : ObjOk P w H h a (SetX w a ks) := by
  have ⟨o, _, _, _, ho, _⟩ := R
  exact ⟨R, ⟨o, ho⟩, fun _ _ r k => SetS.stay r k⟩
theorem setX_get {pins : List (Addr × Obj)} {σ : L2.St} {H : Hp} {s : Shared} {a : Addr} {ks : List Str} (I : Inv X pins σ H s) (e : H a = some (SetX X.w a ks)) : SetS X.w s.heap a ks := (I.hok a _ e).1
/-- set() -/
def rNewX (w : World) : List V → Hp → VK → Prop := fun xs H Q => xs = [] ∧ ∀ p, H p = none → Q (.ref p) (upd H p (SetX w p []))
theorem cr_newX : CallR X (.type "set") (rNewX X.w) := by
  intro pins s σ H xs us Q I r ⟨e, q⟩
  subst e
  cases r
  refine setR_new fun _ => ⟨.ref _, upd H s.heap.objs.size (SetX X.w s.heap.objs.size []), ?_, rfl, q _ (I.hok.fresh (Nat.le_refl _))⟩
  exact I.laid (t' := s.toks) (fun b u e => Heap.get?_push_of_some _ e) (Nat.le_refl _) (setX_new (bare_holds (Heap.get?_push_size _ rfl)))
/-- set(a list of texts) -/
def rOfX (K : PySem.W.Frag) (w : World) : List V → Hp → VK → Prop := fun xs H Q => ∃ (l : Addr) (texts : List Str), xs = [.ref l] ∧ SqL K H l (texts.map V.str) ∧ texts.length + 1 < scanBound ∧
  ∀ p, H p = none → Q (.ref p) (upd H p (SetX w p (insAll [] texts)))
theorem cr_ofX (hc : X.calm = true) : CallR X (.type "set") (rOfX X.K X.w) := by
  intro pins s σ H xs us Q I r ⟨l, texts, e, hq, few, q⟩
  subst e
  rw [Vals.ref1 r]
  obtain ⟨its, rv, pl, _⟩ := I.list hq
  refine set_of_list texts (I.ok.hd hc) pl.isList (by simpa using strsAre_of rv) few fun h' tk hS keep => ?_
  exact ⟨.ref _, upd H s.heap.objs.size (SetX X.w s.heap.objs.size (insAll [] texts)), I.laid (t' := tk) keep (Nat.le_refl _) (setX_new hS), rfl, q _ (I.hok.fresh (Nat.le_refl _))⟩
/-- found.add(text) -/
def rAddX (w : World) : V → List V → Hp → VK → Prop := fun x xs H Q => ∃ (a : Addr) (k : Str) (ks : List Str), x = V.ref a ∧ xs = [V.str k] ∧ H a = some (SetX w a ks) ∧ ks.length + 1 < scanBound ∧ Q .non (upd H a (SetX w a (ins k ks)))
theorem mt_addX : MtR X "set.add" (rAddX X.w) := by
  intro pins s σ H x xs v us Q I rx rxs ⟨a, k, ks, e1, e2, ha, room, q⟩
  subst e1 e2
  cases rx
  obtain ⟨u, rfl, tk, rfl⟩ := vals1 rxs
  have R := setX_get I ha
  refine wpAny_call_entry F.slot_set_add (R.of (P := X.prog)).typeIs F.entry_set_add ?_ (F.args_set_add_2 _ _)
  unfold Builtin.«set.add» Builtin.Frozenset.oneOther
  simp only [List.isEmpty_nil, bind_assoc]
  unfold Builtin.Frozenset.addrOf setAdd
  refine wpAny_bind (wpAny_pure ?_)
  try dsimp only
  refine wpAny_bind (wpAny_pure ?_)
  try dsimp only
  refine wpAny_bind (wpAny_holding (wpAny_bind ((PySem.strKind X.prog X.w).pyHash (strKind_is X.prog X.w k tk) ?_)))
  refine add_at (s := { s with toks := s.toks + 1 }) R room fun b h' sb new => ?_
  show wpAny _ _ (ret Value.none) _ _ _
  have there : ∃ u, h'.get? a = some u := by
    obtain ⟨o, _, _, _, ho, _⟩ := new
    exact ⟨o, ho⟩
  exact wpAny_pure ⟨_, rfl, .non, upd H a (SetX X.w a (ins k ks)), I.write (e := a) (t' := s.toks + 1) (by rw [ha]; trivial) (.inl rfl) (fun c u hc hu => (sb.2 c hc).trans hu) there (setX_new new), rfl, q⟩
def tAddX (w : World) (to : TE) (t : TA) : TE := fun σ H Q => to σ H fun x H1 => (∃ a ks, x = V.ref a ∧ H1 a = some (SetX w a ks)) ∧ t σ H1 fun xs H2 => rAddX w x xs H2 Q
theorem pe_addX {o e : Expr} {to : TE} {t : TA} {apos cpos : Pos} (ho : PE X o to) (ha : PA X [e] t)
    (h1 : attributeBase o "add" X.env (eval o X.env) = eval o X.env := by rfl)
    (h2 : ((backTo cpos (starEach [e] X.env)).all (fun x => !x.1) && (backToKw cpos (keywordEach [] X.env)).all (fun x => x.1.isSome) && decide ([e].length + ([] : List Keyword).length + (if ([] : List Keyword).isEmpty then 0 else 1) < 30)) = true := by rfl)
    (h3 : (apos.endLine == cpos.line) = true := by rfl) (h4 : starEach [e] X.env = (false, eval e X.env) :: starEach [] X.env := by rfl) (h5 : (backTo cpos (starEach [] X.env)).any (·.1) = false := by rfl) :
    PE X (.Call (.Attribute o "add" apos) [e] [] cpos) (tAddX X.w to t) := by
  refine ⟨fun pins s σ H Q I h => wpAny_Call_method_late h1 h2 h3 rfl (thn (ho.run pins s σ H _ I h) fun v s1 ⟨x, H1, I1, r1, ⟨a, ks, ex, hka⟩, q1⟩ => ?_)⟩
  subst ex
  cases r1
  have R := (setX_get I1 hka).of (P := X.prog)
  have run := ha.run cpos pins s1 σ H1 _ I1 q1
  refine ⟨"set", "set.add", F.plainAttrs_set, F.slot_set_add, F.type_set_add, R.typeIs, R.noDict, ?_⟩
  rw [h4] at run ⊢
  refine Calls.callWith_builtin (by show (false || (backTo cpos (starEach [] X.env)).any (·.1)) = false; rw [h5]; rfl) (Calls.evalArgs_plain (thn run fun us s2 ⟨vs, H2, I2, r2, q2⟩ => ?_))
  exact mt_addX pins s2 σ H2 (.ref a) vs (.ref a) us Q I2 rfl r2 q2
/-- sorted(a set of texts) -/
def rSortX (w : World) : List V → Hp → VK → Prop := fun vs H Q => ∃ (a : Addr) (ks : List Str), vs = [V.ref a] ∧ H a = some (SetX w a ks) ∧ ks.length < 64 ∧
  ∀ (ys : List Str) (p : Addr), ys.Perm ks → ys.Nodup → sortedS ys = true → H p = none → Q (.ref p) (upd H p (.lst (ys.map V.str)))
theorem cr_sortX (hc : X.calm = true) : CallR X (.builtin "sorted") (rSortX X.w) := by
  intro pins s σ H vs us Q I r ⟨a, ks, e, ha, few, q⟩
  subst e
  rw [Vals.ref1 r]
  have R := setX_get I ha
  have nd : ks.Nodup := by
    obtain ⟨_, _, _, _, _, _, _, rows⟩ := R
    exact rows.nd
  refine sorted_of_set R (I.ok.hd hc) few fun s' p out c ys keep g1 o1 old hp y1 y2 y3 => ?_
  have line : (ys.map V.str).length ≤ sizeLine := by
    rw [List.length_map, y2.length_eq]
    exact small64 few
  have free : H p = none := I.hok.fresh old
  have J : Inv X pins σ (upd H p (.lst (ys.map V.str))) { s with heap := s'.heap, gens := s'.gens, drawn := s'.drawn, toks := s'.toks } :=
    I.call (ch := []) (Un.laid keep old free) (I.hok.laid keep old ⟨line, out.toList, c, vals_of_strs y1, hp⟩) (by rw [g1]; exact I.bare) (fun _ z => nomatch z)
  have back : s' = { s with heap := s'.heap, gens := s'.gens, drawn := s'.drawn, toks := s'.toks } := by
    cases s'
    cases s
    cases o1
    rfl
  rw [back]
  exact ⟨.ref p, _, J, rfl, q ys p y2 (y2.nodup_iff.mpr nd) y3 free⟩
end
end Sx
set_option Elab.async false
set_option linter.all false
set_option maxRecDepth 100000
set_option maxHeartbeats 4000000
/-! Trees, heaps: what the defs of these laws share. -/
namespace Kf
open PySem PySem.Spec PyProof.Rows L2 Sx
/-! ### lists, pair by pair -/
inductive All2 {α β : Type} (F : α → β → Prop) : List α → List β → Prop
  | nil : All2 F [] []
  | cons {a : α} {b : β} {l : List α} {m : List β} : F a b → All2 F l m → All2 F (a :: l) (b :: m)
section
variable {α β : Type} {F G : α → β → Prop}
theorem All2.len : ∀ {l : List α} {m : List β}, All2 F l m → l.length = m.length
  | _, _, .nil => rfl
  | _, _, .cons _ t => congrArg Nat.succ t.len
theorem All2.app : ∀ {l l2 : List α} {m m2 : List β}, All2 F l m → All2 F l2 m2 → All2 F (l ++ l2) (m ++ m2)
  | _, _, _, _, .nil, h => h
  | _, _, _, _, .cons r t, h => .cons r (t.app h)
theorem All2.mono (f : ∀ a b, F a b → G a b) : ∀ {l : List α} {m : List β}, All2 F l m → All2 G l m
  | _, _, .nil => .nil
  | _, _, .cons r t => .cons (f _ _ r) (t.mono f)
theorem All2.one {a : α} {b : β} (h : F a b) : All2 F [a] [b] := .cons h .nil
theorem All2.rev : ∀ {l : List α} {m : List β}, All2 F l m → All2 F l.reverse m.reverse
  | _, _, .nil => .nil
  | _, _, .cons r t => by
    rw [List.reverse_cons, List.reverse_cons]
    exact t.rev.app (.one r)
theorem All2.last {l : List α} {m : List β} {y : β} (h : All2 F l (m ++ [y])) : ∃ k x, l = k ++ [x] ∧ All2 F k m ∧ F x y := by
  have q := h.rev
  rw [List.reverse_append, List.reverse_singleton, List.singleton_append] at q
  generalize hr : l.reverse = r at q
  cases q with
  | @cons x _ k _ r t =>
    have t2 := t.rev
    rw [List.reverse_reverse] at t2
    refine ⟨k.reverse, x, ?_, t2, r⟩
    have e := congrArg List.reverse hr
    rw [List.reverse_reverse, List.reverse_cons] at e
    exact e
theorem All2.get : ∀ {l : List α} {m : List β} {i : Nat} {y : β}, All2 F l m → m[i]? = some y → ∃ x, l[i]? = some x ∧ F x y
  | _, _, _, _, .nil, h => by simp at h
  | _, _, 0, _, .cons r _, h => ⟨_, rfl, (Option.some.inj h) ▸ r⟩
  | _, _, i + 1, _, .cons _ t, h => t.get (i := i) (by simpa using h)
end
/-! ### heaps -/
/-- all but what stands at f is as it was -/
def But (f : Addr) (H H' : Hp) : Prop := ∀ b o, b ≠ f → H b = some o → H' b = some o
/-- all tuples stand -/
def Tups (H H' : Hp) : Prop := ∀ b xs, H b = some (.tup xs) → H' b = some (.tup xs)
section
variable {f : Addr} {H H1 H2 : Hp} {p : Addr} {o : HO}
theorem But.refl (f : Addr) (H : Hp) : But f H H := fun _ _ _ e => e
theorem But.trans (a : But f H H1) (b : But f H1 H2) : But f H H2 := fun c u n e => b c u n (a c u n e)
theorem but_same (a : Same H H1) : But f H H1 := fun c u _ e => a c u e
theorem But.new (a : But f H H1) (h : H1 p = none) : But f H (upd H1 p o) := fun c u n e => by
  have q := a c u n e
  rw [upd_ne (ne_of_none q h)]
  exact q
theorem But.own (a : But f H H1) : But f H (upd H1 f o) := fun c u n e => by
  rw [upd_ne n]
  exact a c u n e
theorem same_new (h : H p = none) : Same H (upd H p o) := fun b u q => by
  rw [upd_ne (ne_of_none q h)]
  exact q
theorem same_put (s : Same H H1) (h : H1 p = none) : Same H (upd H1 p o) := fun b u q => by
  rw [upd_ne (ne_of_none (s b u q) h)]
  exact s b u q
theorem Tups.refl (H : Hp) : Tups H H := fun _ _ e => e
theorem Tups.trans (a : Tups H H1) (b : Tups H1 H2) : Tups H H2 := fun c u e => b c u (a c u e)
theorem tups_same (a : Same H H1) : Tups H H1 := fun c u e => a c _ e
theorem But.tups {xs : List V} (a : But f H H1) (h : H f = some (.lst xs)) : Tups H H1 := fun c u e => a c _ (fun z => by
  rw [z, h] at e
  cases e) e
theorem tups_put (h : ∀ xs, H p ≠ some (.tup xs)) : Tups H (upd H p o) := fun c u e => by
  rw [upd_ne (fun z => h u (by rw [← z]; exact e))]
  exact e
end
/-! ### trees -/
inductive Tr where
  | leaf (w : Str) (x : V)
  | n0 (w : Str)
  | n1 (w : Str) (a : Tr)
  | n2 (w : Str) (a b : Tr)
abbrev leafVs : List V := [.str "num", .str "name", .str "bound"]
abbrev bindVs : List V := [.str "all", .str "some"]
def leafy (w : Str) : Bool := inV (.str w) leafVs
def binds (w : Str) : Bool := inV (.str w) bindVs
/-- how many stand around the parts -/
def inner (w : Str) (r : Nat) : Nat := if binds w = true then r + 1 else r
def Tr.word : Tr → Str
  | .leaf w _ => w
  | .n0 w => w
  | .n1 w _ => w
  | .n2 w _ _ => w
def Tr.kids : Tr → List Tr
  | .leaf _ _ => []
  | .n0 _ => []
  | .n1 _ a => [a]
  | .n2 _ a b => [a, b]
/-- the tree t is the value v -/
def At (H : Hp) : Tr → V → Prop
  | .leaf w x, v => ∃ p, v = .ref p ∧ H p = some (.tup [.str w, x])
  | .n0 w, v => ∃ p, v = .ref p ∧ H p = some (.tup [.str w])
  | .n1 w a, v => ∃ p y, v = .ref p ∧ H p = some (.tup [.str w, y]) ∧ At H a y
  | .n2 w a b, v => ∃ p y z, v = .ref p ∧ H p = some (.tup [.str w, y, z]) ∧ At H a y ∧ At H b z
theorem At.keep {H H' : Hp} (k : Tups H H') : ∀ {t : Tr} {v : V}, At H t v → At H' t v
  | .leaf _ _, _, ⟨p, e, h⟩ => ⟨p, e, k _ _ h⟩
  | .n0 _, _, ⟨p, e, h⟩ => ⟨p, e, k _ _ h⟩
  | .n1 _ _, _, ⟨p, y, e, h, a⟩ => ⟨p, y, e, k _ _ h, a.keep k⟩
  | .n2 _ _ _, _, ⟨p, y, z, e, h, a, b⟩ => ⟨p, y, z, e, k _ _ h, a.keep k, b.keep k⟩
/-- leaves by their words -/
def Tr.Ok : Tr → Prop
  | .leaf w x => leafy w = true ∧ ((∃ i, x = .int i) ∧ w ≠ "name" ∨ (∃ z, x = .str z) ∧ w = "name")
  | .n0 w => leafy w = false
  | .n1 w a => leafy w = false ∧ a.Ok
  | .n2 w a b => leafy w = false ∧ a.Ok ∧ b.Ok
/-- how far within one another -/
def Tr.deep : Tr → Nat
  | .leaf _ _ => 1
  | .n0 _ => 1
  | .n1 _ a => a.deep + 1
  | .n2 _ a b => max a.deep b.deep + 1
def Tr.size : Tr → Nat
  | .leaf _ _ => 1
  | .n0 _ => 1
  | .n1 _ a => a.size + 1
  | .n2 _ a b => a.size + b.size + 1
theorem size_deep : ∀ t : Tr, t.size + 1 ≤ 2 ^ t.deep
  | .leaf _ _ => Nat.le_refl _
  | .n0 _ => Nat.le_refl _
  | .n1 _ a => by
    have h := size_deep a
    have p : 2 ^ (a.deep + 1) = 2 ^ a.deep * 2 := Nat.pow_succ _ _
    show a.size + 1 + 1 ≤ 2 ^ (a.deep + 1)
    omega
  | .n2 _ a b => by
    have h := size_deep a
    have h2 := size_deep b
    have p : 2 ^ (max a.deep b.deep + 1) = 2 ^ (max a.deep b.deep) * 2 := Nat.pow_succ _ _
    have q1 : 2 ^ a.deep ≤ 2 ^ (max a.deep b.deep) := Nat.pow_le_pow_right (by decide) (Nat.le_max_left _ _)
    have q2 : 2 ^ b.deep ≤ 2 ^ (max a.deep b.deep) := Nat.pow_le_pow_right (by decide) (Nat.le_max_right _ _)
    show a.size + b.size + 1 + 1 ≤ 2 ^ (max a.deep b.deep + 1)
    omega
def Tr.names : Tr → List Str
  | .leaf w x => if w = "name" then (match x with | .str z => [z] | _ => []) else []
  | .n0 _ => []
  | .n1 _ a => a.names
  | .n2 _ a b => a.names ++ b.names
theorem names_size : ∀ t : Tr, t.names.length ≤ t.size
  | .leaf w x => by
    show (if w = "name" then (match x with | .str z => [z] | _ => []) else ([] : List Str)).length ≤ 1
    split
    · cases x <;> simp
    · simp
  | .n0 _ => Nat.zero_le _
  | .n1 _ a => Nat.le_succ_of_le (names_size a)
  | .n2 _ a b => by
    have h1 := names_size a
    have h2 := names_size b
    show (a.names ++ b.names).length ≤ a.size + b.size + 1
    rw [List.length_append]
    omega
/-! ### the pieces, parts ahead of the whole, from the left; each with how many all and some stand around it -/
def Tr.post : Tr → Nat → List (Tr × Nat)
  | .leaf w x, r => [(.leaf w x, r)]
  | .n0 w, r => [(.n0 w, r)]
  | .n1 w a, r => a.post (inner w r) ++ [(.n1 w a, r)]
  | .n2 w a b, r => a.post (inner w r) ++ b.post (inner w r) ++ [(.n2 w a b, r)]
theorem post_len : ∀ (t : Tr) (r : Nat), (t.post r).length = t.size
  | .leaf _ _, _ => rfl
  | .n0 _, _ => rfl
  | .n1 w a, r => by
    show (a.post _ ++ [_]).length = a.size + 1
    rw [List.length_append, post_len a]
    rfl
  | .n2 w a b, r => by
    show (a.post _ ++ b.post _ ++ [_]).length = a.size + b.size + 1
    rw [List.length_append, List.length_append, post_len a, post_len b]
    rfl
theorem post_kids (t : Tr) (r : Nat) : t.post r = (t.kids.flatMap fun a => a.post (inner t.word r)) ++ [(t, r)] := by
  cases t with
  | leaf w x => rfl
  | n0 w => rfl
  | n1 w a => simp [Tr.post, Tr.kids, Tr.word]
  | n2 w a b => simp [Tr.post, Tr.kids, Tr.word]
/-- what a whole list of pieces has for names -/
def leafName : Tr → List Str
  | .leaf w x => Tr.names (.leaf w x)
  | _ => []
theorem post_names : ∀ (t : Tr) (r : Nat), ((t.post r).flatMap fun (e : Tr × Nat) => leafName e.1) = t.names
  | .leaf w x, r => by simp [Tr.post, leafName]
  | .n0 w, r => by simp [Tr.post, leafName, Tr.names]
  | .n1 w a, r => by
    show ((a.post _ ++ [_]).flatMap fun (e : Tr × Nat) => leafName e.1) = a.names
    rw [List.flatMap_append, post_names a]
    simp [leafName]
  | .n2 w a b, r => by
    show ((a.post _ ++ b.post _ ++ [_]).flatMap fun (e : Tr × Nat) => leafName e.1) = a.names ++ b.names
    rw [List.flatMap_append, List.flatMap_append, post_names a, post_names b]
    simp [leafName]
theorem post_ok : ∀ (t : Tr) (r : Nat), t.Ok → ∀ e ∈ t.post r, e.1.Ok
  | .leaf w x, r, h, e, he => by
    rw [List.mem_singleton.mp he]
    exact h
  | .n0 w, r, h, e, he => by
    rw [List.mem_singleton.mp he]
    exact h
  | .n1 w a, r, h, e, he => by
    rcases List.mem_append.mp he with z | z
    · exact post_ok a _ h.2 e z
    · rw [List.mem_singleton.mp z]
      exact h
  | .n2 w a b, r, h, e, he => by
    rcases List.mem_append.mp he with z | z
    · rcases List.mem_append.mp z with z | z
      · exact post_ok a _ h.2.1 e z
      · exact post_ok b _ h.2.2 e z
    · rw [List.mem_singleton.mp z]
      exact h
theorem no_leaf {w : Str} (h : leafy w = false) (z : leafy w = true) : False := by
  rw [h] at z
  cases z
/-- a tree's own tuple -/
theorem At.view {H : Hp} {t : Tr} {v : V} (h : At H t v) (ok : t.Ok) : ∃ p vs, v = .ref p ∧ H p = some (.tup (.str t.word :: vs)) ∧ vs.length ≤ 2 ∧ (leafy t.word = false → All2 (At H) t.kids vs) ∧ (leafy t.word = true → ∃ x, t = .leaf t.word x ∧ vs = [x]) := by
  cases t with
  | leaf w x =>
    obtain ⟨p, e, h⟩ := h
    exact ⟨p, [x], e, h, Nat.le_succ 1, fun z => (no_leaf z ok.1).elim, fun _ => ⟨x, rfl, rfl⟩⟩
  | n0 w =>
    obtain ⟨p, e, h⟩ := h
    exact ⟨p, [], e, h, Nat.zero_le 2, fun _ => .nil, fun z => (no_leaf ok z).elim⟩
  | n1 w a =>
    obtain ⟨p, y, e, h, ha⟩ := h
    exact ⟨p, [y], e, h, Nat.le_succ 1, fun _ => .one ha, fun z => (no_leaf ok.1 z).elim⟩
  | n2 w a b =>
    obtain ⟨p, y, z, e, h, ha, hb⟩ := h
    exact ⟨p, [y, z], e, h, Nat.le_refl 2, fun _ => .cons ha (.one hb), fun q => (no_leaf ok.1 q).elim⟩
theorem kids_ok {t : Tr} (ok : t.Ok) : ∀ a ∈ t.kids, a.Ok := by
  cases t with
  | leaf w x => intro a h; cases h
  | n0 w => intro a h; cases h
  | n1 w a =>
    intro c h
    rw [List.mem_singleton.mp h]
    exact ok.2
  | n2 w a b =>
    intro c h
    rcases List.mem_cons.mp h with z | z
    · rw [z]
      exact ok.2.1
    · rw [List.mem_singleton.mp z]
      exact ok.2.2
/-! ### sorted lists of texts -/
theorem nodup_le : ∀ (ks ms : List Str), ks.Nodup → (∀ k ∈ ks, k ∈ ms) → ks.length ≤ ms.length
  | [], _, _, _ => Nat.zero_le _
  | k :: r, ms, nd, h => by
    obtain ⟨n1, n2⟩ := List.nodup_cons.mp nd
    have hk : k ∈ ms := h k List.mem_cons_self
    have q := nodup_le r (ms.erase k) n2 fun j hj => (List.mem_erase_of_ne (fun z : j = k => n1 (z ▸ hj))).mpr (h j (List.mem_cons_of_mem _ hj))
    rw [List.length_erase_of_mem hk] at q
    have pos : 0 < ms.length := List.length_pos_of_mem hk
    rw [List.length_cons]
    omega
def Le (a b : Str) : Prop := ltCps b.cps.toList a.cps.toList = false
theorem rising_pairs : ∀ (p : Str) (l : List Str), risingS p l = true → (∀ (a b c : Str), Le a b → Le b c → Le a c) → (p :: l).Pairwise Le
  | p, [], _, _ => List.pairwise_singleton _ _
  | p, x :: r, h, tr => by
    have h' : (!ltCps x.cps.toList p.cps.toList && risingS x r) = true := h
    rw [Bool.and_eq_true] at h'
    have q := rising_pairs x r h'.2 tr
    have px : Le p x := by
      unfold Le
      simpa using h'.1
    refine List.pairwise_cons.mpr ⟨fun y hy => ?_, q⟩
    rcases List.mem_cons.mp hy with z | z
    · rw [z]
      exact px
    · exact tr _ _ _ px (List.rel_of_pairwise_cons q z)
theorem le_iff (a b : Str) : Le a b ↔ a.cps.toList ≤ b.cps.toList := by
  unfold Le
  rw [ltCps_eq]
  simp
theorem le_trans3 (a b c : Str) (h1 : Le a b) (h2 : Le b c) : Le a c := by
  rw [le_iff] at *
  exact List.le_trans h1 h2
theorem le_anti (a b : Str) (h1 : Le a b) (h2 : Le b a) : a = b := by
  rw [le_iff] at *
  have q := List.le_antisymm h1 h2
  cases a with
  | mk x =>
    cases b with
    | mk y =>
      have q' : x.toList = y.toList := q
      rw [Array.toList_inj.mp q']
theorem one_order : ∀ (l m : List Str), l.Pairwise Le → m.Pairwise Le → l.Nodup → m.Nodup → (∀ x, x ∈ l ↔ x ∈ m) → l = m
  | [], [], _, _, _, _, _ => rfl
  | [], y :: m, _, _, _, _, h => by
    have := (h y).2 List.mem_cons_self
    cases this
  | x :: l, [], _, _, _, _, h => by
    have := (h x).1 List.mem_cons_self
    cases this
  | x :: l, y :: m, pl, pm, nl, nm, h => by
    obtain ⟨l1, l2⟩ := List.pairwise_cons.mp pl
    obtain ⟨m1, m2⟩ := List.pairwise_cons.mp pm
    obtain ⟨k1, k2⟩ := List.nodup_cons.mp nl
    obtain ⟨j1, j2⟩ := List.nodup_cons.mp nm
    have exy : x = y := by
      rcases List.mem_cons.mp ((h x).1 List.mem_cons_self) with z | z
      · exact z
      · rcases List.mem_cons.mp ((h y).2 List.mem_cons_self) with q | q
        · exact q.symm
        · exact le_anti _ _ (l1 y q) (m1 x z)
    subst exy
    rw [one_order l m l2 m2 k2 j2 fun z => ?_]
    constructor
    · intro hz
      rcases List.mem_cons.mp ((h z).1 (List.mem_cons_of_mem _ hz)) with e | e
      · exact absurd (e ▸ hz) k1
      · exact e
    · intro hz
      rcases List.mem_cons.mp ((h z).2 (List.mem_cons_of_mem _ hz)) with e | e
      · exact absurd (e ▸ hz) j1
      · exact e
theorem sorted_pairs : ∀ l : List Str, sortedS l = true → l.Pairwise Le
  | [], _ => List.Pairwise.nil
  | x :: r, h => rising_pairs x r h le_trans3
end Kf
set_option Elab.async false
set_option linter.all false
set_option maxRecDepth 100000
set_option maxHeartbeats 4000000
/-! The defs by which the law makes its inputs. -/
namespace Kf
open PySem PySem.Spec PyProof.Rows L2 Sx
def top (i : Nat) : Stmt := PySem.Challenge.pw_prooffruit_k40_flat_and_seen.main.body.getD i (.Pass ⟨0, 0, 0, 0⟩)
abbrev sFeed : Stmt := top 8
abbrev sTake : Stmt := top 9
abbrev sPick : Stmt := top 10
abbrev sLeaf : Stmt := top 11
theorem scFeed : FnScope ["script", "k", "seed", "digits"] ["script", "k"] (defScope sFeed) := ⟨rfl, rfl, rfl, by decide +kernel, rfl, by decide +kernel, by decide +kernel⟩
theorem scTake : FnScope ["feed", "many", "found"] ["feed", "many"] (defScope sTake) := ⟨rfl, rfl, rfl, by decide +kernel, rfl, by decide +kernel, by decide +kernel⟩
theorem scPick : FnScope ["feed", "some"] ["feed", "some"] (defScope sPick) := ⟨rfl, rfl, rfl, by decide +kernel, rfl, by decide +kernel, by decide +kernel⟩
theorem scLeaf : FnScope ["feed", "names", "around", "way"] ["feed", "names", "around"] (defScope sLeaf) := ⟨rfl, rfl, rfl, by decide +kernel, rfl, by decide +kernel, by decide +kernel⟩
/-- the feed at f: two numbers, the second below 2 ^ 61 - 1 -/
def FeedAt (H : Hp) (f : Addr) : Prop := ∃ a b : Int, H f = some (.lst [.int a, .int b]) ∧ 0 ≤ b ∧ b < 2305843009213693951
theorem FeedAt.keep {H H' : Hp} {f g : Addr} (h : FeedAt H f) (n : f ≠ g) (b : But g H H') : FeedAt H' f := by
  obtain ⟨x, y, e, q⟩ := h
  exact ⟨x, y, b _ _ n e, q⟩
theorem FeedAt.same {H H' : Hp} {f : Addr} (h : FeedAt H f) (b : Same H H') : FeedAt H' f := by
  obtain ⟨x, y, e, q⟩ := h
  exact ⟨x, y, b _ _ e, q⟩
theorem FeedAt.tups {H H' : Hp} {f : Addr} (h : FeedAt H f) (b : But f H H') : Tups H H' := by
  obtain ⟨x, y, e, q⟩ := h
  exact b.tups e
/-- a list of the call's own -/
theorem FeedAt.ne {H : Hp} {f p : Addr} (h : FeedAt H f) (e : H p = none) : p ≠ f := fun z => by
  obtain ⟨x, y, e2, q⟩ := h
  rw [z, e2] at e
  cases e
section
variable {P : Program} {w : World} {K : PySem.W.Frag} {mg : Str → Option Value} {base : Heap}
/-! ### _law_feed -/
def spFeed (K : PySem.W.Frag) : Sp := fun vs H Q _ => ∃ (a : Addr) (ns : List Int) (k : Nat), vs = [.ref a, .int (k : Int)] ∧ SqL K H a (ns.map V.int) ∧ (∀ z ∈ ns, Builtin.Int.intBits z ≤ 1048576) ∧ k ≤ 100 ∧
  ∀ p H', Same H H' → H p = none → FeedAt H' p → Q (.ref p) H'
theorem notM : (2305843009213693951 : Int) ≠ 0 := by decide
theorem modM (i : Int) : 0 ≤ i.fmod 2305843009213693951 ∧ i.fmod 2305843009213693951 < 2305843009213693951 := by
  rw [Int.fmod_eq_emod_of_nonneg _ (by decide)]
  exact ⟨Int.emod_nonneg _ (by decide), Int.emod_lt_of_pos _ (by decide)⟩
theorem seed_ok {z : Int} (h : Builtin.Int.intBits z ≤ 1048576) : CMulX z 6364136223846793005 := by
  unfold CMulX
  have e : Builtin.Int.intBits 6364136223846793005 = 63 := by decide +kernel
  rw [e]
  omega
theorem ok_feed {f : Addr} {fd : FuncData} {j : Nat} (F : Fun K "_law_feed" "_law_feed" sFeed f fd) (ml : mg "len" = none) (ma : mg "abs" = none) : FnOk P w K mg base CX0 (j + 1) f fd ["script", "k"] (spFeed K) := by
  refine F.ok scFeed (fun vs H Q E h => ?_) (fun cdv A outer s H vs Q E hr h => ?_)
  · obtain ⟨a, ns, k, rfl, _⟩ := h
    rfl
  obtain ⟨a, ns, k, rfl, hS, hb, hk, q⟩ := h
  refine ⟨_, pss_cons (ps_set (i := 2) scFeed.nd rfl (.inl rfl) (pe_op op_add (pe_op op_mul pe_int (pv 1)) pe_int))
    (pss_cons (ps_if (pt_cmpR op_lt (pv 1) (pe_callB call_len_seq (by rfl) ml PySem.boot_len (pa_cons (pv 0) pa_nil)) (nomark _)) (pss_one (ps_set (i := 2) scFeed.nd rfl (.inl rfl) (pe_ix ix_list (pv 0) (pv 1) (fun _ _ => rfl)))) pss_nil)
    (pss_cons (ps_set (i := 3) scFeed.nd rfl (.inl rfl) pe_int)
    (pss_cons (ps_if (pt_cmpR op_ge (pe_callB call_abs (by rfl) ma (by decide +kernel) (pa_cons (pv 2) pa_nil)) (pe_op op_pow pe_int pe_int) (nomark _)) (pss_one (ps_set (i := 3) scFeed.nd rfl (.inl rfl) (pe_op op_sub (pe_callB call_abs (by rfl) ma (by decide +kernel) (pa_cons (pv 2) pa_nil)) (pe_op op_pow pe_int pe_int)))) pss_nil)
    (pss_one (ps_ret (pe_lst (pa_cons (pv 3) (pa_cons (pe_op op_modN (pe_op op_add (pe_op op_add (pe_op op_mulX (pv 2) pe_int) (pe_op op_mul pe_int (pv 1))) pe_int) pe_int) pa_nil)))))))), ?_⟩
  refine ⟨_, rfl, _, _, rfl, rfl, .inl ⟨by decide, by decide⟩, _, _, rfl, rfl, ?_⟩
  refine ⟨_, rfl, _, rfl, a, _, rfl, .inl hS, _, _, rfl, rfl, _, rfl, ?_⟩
  have fin : ∀ (z d : Int), Builtin.Int.intBits z ≤ 1048576 → ∀ p, H p = none → Q (.ref p) (upd H p (.lst [.int d, .int ((z * 6364136223846793005 + 7919 * (k : Int) + 1442695040888963407).fmod 2305843009213693951)])) := fun z d _ p hp => by
    refine q p _ (same_new hp) hp ⟨_, _, upd_same, (modM _).1, (modM _).2⟩
  have two : ∀ (z : Int), Builtin.Int.intBits z ≤ 1048576 → CMulX z 6364136223846793005 ∧ CMul 7919 (k : Int) := fun z hz => ⟨seed_ok hz, .inl ⟨by decide, by decide⟩⟩
  refine ite2 (fun c => ?_) (fun c => ?_)
  · have c' : (k : Int) < (((ns.map V.int).length : Nat) : Int) := of_decide_eq_true c
    have lt : k < ns.length := by
      rw [List.length_map] at c'
      omega
    have item : atI (ns.map V.int) (k : Int) = some (.int ns[k]) := atI_nat (by rw [List.getElem?_map, List.getElem?_eq_getElem lt]; rfl)
    have hz := hb ns[k] (List.getElem_mem lt)
    refine ⟨_, rfl, _, rfl, a, _, _, _, rfl, rfl, hS, item, ?_⟩
    refine ⟨_, rfl, _, rfl, _, _, rfl, rfl, ⟨by decide, by decide, by decide⟩, _, _, rfl, rfl, _, rfl, ?_⟩
    refine ite2 (fun _ => ?_) (fun _ => ?_)
    · refine ⟨_, rfl, _, rfl, _, _, rfl, rfl, ⟨by decide, by decide, by decide⟩, _, _, rfl, rfl, ?_⟩
      exact ⟨_, rfl, _, rfl, _, _, rfl, rfl, (two _ hz).1, _, rfl, _, _, rfl, rfl, (two _ hz).2, _, _, rfl, rfl, _, _, rfl, rfl, _, _, rfl, rfl, notM, (by show 2 ≤ sizeLine; decide), fin _ _ hz⟩
    · exact ⟨_, rfl, _, rfl, _, _, rfl, rfl, (two _ hz).1, _, rfl, _, _, rfl, rfl, (two _ hz).2, _, _, rfl, rfl, _, _, rfl, rfl, _, _, rfl, rfl, notM, (by show 2 ≤ sizeLine; decide), fin _ _ hz⟩
  · have hz : Builtin.Int.intBits (67 * (k : Int) + 19) ≤ 1048576 := by
      refine Nat.le_trans (PyProof.Rows.intBits_le (k := 20) ?_) (by decide)
      have : (67 * (k : Int) + 19).natAbs ≤ 6719 := by omega
      exact Nat.lt_of_le_of_lt this (by decide)
    refine ⟨_, rfl, _, rfl, _, _, rfl, rfl, ⟨by decide, by decide, by decide⟩, _, _, rfl, rfl, _, rfl, ?_⟩
    refine ite2 (fun _ => ?_) (fun _ => ?_)
    · refine ⟨_, rfl, _, rfl, _, _, rfl, rfl, ⟨by decide, by decide, by decide⟩, _, _, rfl, rfl, ?_⟩
      exact ⟨_, rfl, _, rfl, _, _, rfl, rfl, (two _ hz).1, _, rfl, _, _, rfl, rfl, (two _ hz).2, _, _, rfl, rfl, _, _, rfl, rfl, _, _, rfl, rfl, notM, (by show 2 ≤ sizeLine; decide), fin _ _ hz⟩
    · exact ⟨_, rfl, _, rfl, _, _, rfl, rfl, (two _ hz).1, _, rfl, _, _, rfl, rfl, (two _ hz).2, _, _, rfl, rfl, _, _, rfl, rfl, _, _, rfl, rfl, notM, (by show 2 ≤ sizeLine; decide), fin _ _ hz⟩
/-! ### _law_take -/
def spTake : Sp := fun vs H Q _ => ∃ (f : Addr) (many : Int), vs = [.ref f, .int many] ∧ 0 < many ∧ many.natAbs < 2 ^ 200 ∧ FeedAt H f ∧
  ∀ (r : Int) H', 0 ≤ r → r < many → But f H H' → FeedAt H' f → Q (.int r) H'
theorem mod_in {i m : Int} (h : 0 < m) : 0 ≤ i.fmod m ∧ i.fmod m < m := by
  rw [Int.fmod_eq_emod_of_nonneg _ (Int.le_of_lt h)]
  exact ⟨Int.emod_nonneg _ (Int.ne_of_gt h), Int.emod_lt_of_pos _ h⟩
theorem ok_take {f : Addr} {fd : FuncData} {j : Nat} (F : Fun K "_law_take" "_law_take" sTake f fd) : FnOk P w K mg base CX0 (j + 1) f fd ["feed", "many"] spTake := by
  refine F.ok scTake (fun vs H Q E h => ?_) (fun cdv A outer s H vs Q E hr h => ?_)
  · obtain ⟨a, m, rfl, _⟩ := h
    rfl
  obtain ⟨f, m, rfl, pos, small, ⟨x, y, hf, y0, y1⟩, q⟩ := h
  refine ⟨_, pss_cons (ps_if (pt_cmpR op_gt (pe_ix ix_list (pv 0) pe_int (fun _ _ => rfl)) pe_int (nomark _))
      (pss_cons (ps_set (i := 2) scTake.nd rfl (.inl rfl) (pe_op op_modN (pe_ix ix_list (pv 0) pe_int (fun _ _ => rfl)) (pv 1)))
      (pss_cons (ps_asg (pe_op op_fdivW (pe_ix ix_list (pv 0) pe_int (fun _ _ => rfl)) (pv 1)) (pg_sub (pv 0) pe_int set_list)) (pss_one (ps_ret (pv 2))))) pss_nil)
    (pss_cons (ps_asg (pe_op op_modN (pe_op op_add (pe_op op_mul (pe_ix ix_list (pv 0) pe_int (fun _ _ => rfl)) pe_int) pe_int) pe_int) (pg_sub (pv 0) pe_int set_list))
    (pss_one (ps_ret (pe_op op_modN (pe_op op_fdiv (pe_ix ix_list (pv 0) pe_int (fun _ _ => rfl)) pe_int) (pv 1))))), ?_⟩
  have s0 : SqL K H f [.int x, .int y] := .inl (.inl hf)
  refine ⟨_, rfl, f, _, 0, .int x, rfl, rfl, s0, rfl, _, _, rfl, rfl, _, rfl, ?_⟩
  refine ite2 (fun c => ?_) (fun c => ?_)
  · refine ⟨_, rfl, f, _, 0, .int x, rfl, rfl, s0, rfl, _, rfl, _, _, rfl, rfl, Int.ne_of_gt pos, ?_⟩
    refine ⟨_, rfl, f, _, 0, .int x, rfl, rfl, s0, rfl, _, rfl, _, _, rfl, rfl, wide_div pos small (by decide) (by decide), ?_⟩
    refine ⟨_, rfl, f, _, 0, 0, rfl, rfl, hf, rfl, _, rfl, ?_⟩
    exact q _ _ (mod_in pos).1 (mod_in pos).2 ((But.refl f H).own) ⟨_, _, upd_same, y0, y1⟩
  · refine ⟨_, rfl, f, _, 1, .int y, rfl, rfl, s0, rfl, _, _, rfl, rfl, .inr ⟨by decide, by decide⟩, _, _, rfl, rfl, _, _, rfl, rfl, notM, ?_⟩
    refine ⟨_, rfl, f, _, 1, 1, rfl, rfl, hf, rfl, ?_⟩
    refine ⟨_, rfl, f, _, 1, _, rfl, rfl, .inl (.inl upd_same), rfl, _, _, rfl, rfl, ⟨by decide, by decide⟩, _, rfl, _, _, rfl, rfl, Int.ne_of_gt pos, ?_⟩
    exact q _ _ (mod_in pos).1 (mod_in pos).2 ((But.refl f H).own) ⟨_, _, upd_same, (modM _).1, (modM _).2⟩
/-! ### _law_pick -/
theorem atI_in {α : Type} {xs : List α} {r : Int} (h0 : 0 ≤ r) (h1 : r < (xs.length : Int)) : ∃ x ∈ xs, atI xs r = some x := by
  have lt : r.toNat < xs.length := by omega
  have er : ((r.toNat : Nat) : Int) = r := by omega
  have q : atI xs ((r.toNat : Nat) : Int) = some xs[r.toNat] := atI_nat (List.getElem?_eq_getElem lt)
  rw [er] at q
  exact ⟨_, List.getElem_mem lt, q⟩
/-- from a list -/
def spPick (K : PySem.W.Frag) : Sp := fun vs H Q _ => ∃ (f l : Addr) (xs : List V), vs = [.ref f, .ref l] ∧ l ≠ f ∧ SqL K H l xs ∧ 0 < xs.length ∧ xs.length ≤ 1000 ∧ FeedAt H f ∧
  ∀ x ∈ xs, ∀ H', But f H H' → FeedAt H' f → Q x H'
theorem seq_but {K : PySem.W.Frag} {f l : Addr} {H H' : Hp} {xs : List V} (n : l ≠ f) (b : But f H H') (h : SqL K H l xs) : SqL K H' l xs := by
  rcases h with (h | ⟨o, h⟩) | h
  · exact .inl (.inl (b _ _ n h))
  · exact .inl (.inr ⟨o, b _ _ n h⟩)
  · exact .inr h
theorem len200 {n : Nat} (h : n ≤ 1000) : ((n : Nat) : Int).natAbs < 2 ^ 200 := Nat.lt_of_le_of_lt (by rw [Int.natAbs_natCast]; exact h) (by decide)
theorem ok_pick {f g : Addr} {fd gd : FuncData} {j : Nat} (F : Fun K "_law_pick" "_law_pick" sPick f fd) (G : FnOk P w K mg base CX0 (j + 1) g gd ["feed", "many"] spTake) (bG : Binds K gd ["feed", "many"] []) (kG : PySem.W.keepIn K (.ref g) = true) (mG : mg "_law_take" = some (.ref g)) (ml : mg "len" = none) :
    FnOk P w K mg base CX0 (j + 2) f fd ["feed", "some"] (spPick K) := by
  refine F.ok scPick (fun vs H Q E h => ?_) (fun cdv A outer s H vs Q E hr h => ?_)
  · obtain ⟨a, l, xs, rfl, _⟩ := h
    rfl
  obtain ⟨f, l, xs, rfl, apart, hS, pos, few, hF, q⟩ := h
  refine ⟨_, pss_one (ps_ret (pe_ix ix_list (pv 1) (pe_call G hr (by rfl) mG kG bG .nil pass0 (pa_cons (pv 0) (pa_cons (pe_callB call_len_seq (by rfl) ml PySem.boot_len (pa_cons (pv 1) pa_nil)) pa_nil))) (fun _ _ => rfl))), ?_⟩
  refine ⟨_, rfl, _, rfl, _, rfl, l, xs, rfl, .inl hS, f, _, rfl, (by omega), len200 few, hF, fun r H' r0 r1 b hF' => ?_⟩
  obtain ⟨x, hx, item⟩ := atI_in r0 r1
  exact ⟨l, xs, r, _, rfl, rfl, seq_but apart b hS, item, q _ hx H' b hF'⟩
/-- from a text -/
def spPickS : Sp := fun vs H Q _ => ∃ (f : Addr) (z : Str), vs = [.ref f, .str z] ∧ 0 < z.length ∧ z.length ≤ 1000 ∧ FeedAt H f ∧ ∀ c ∈ z.cps.toList, ∀ H', But f H H' → FeedAt H' f → Q (.str ⟨#[c]⟩) H'
theorem ok_pickS {f g : Addr} {fd gd : FuncData} {j : Nat} (F : Fun K "_law_pick" "_law_pick" sPick f fd) (G : FnOk P w K mg base CX0 (j + 1) g gd ["feed", "many"] spTake) (bG : Binds K gd ["feed", "many"] []) (kG : PySem.W.keepIn K (.ref g) = true) (mG : mg "_law_take" = some (.ref g)) (ml : mg "len" = none) :
    FnOk P w K mg base CX0 (j + 2) f fd ["feed", "some"] spPickS := by
  refine F.ok scPick (fun vs H Q E h => ?_) (fun cdv A outer s H vs Q E hr h => ?_)
  · obtain ⟨a, z, rfl, _⟩ := h
    rfl
  obtain ⟨f, z, rfl, pos, few, hF, q⟩ := h
  refine ⟨_, pss_one (ps_ret (pe_ix ix_str (pv 1) (pe_call G hr (by rfl) mG kG bG .nil pass0 (pa_cons (pv 0) (pa_cons (pe_callB call_len_str (by rfl) ml PySem.boot_len (pa_cons (pv 1) pa_nil)) pa_nil))) (fun _ _ => rfl))), ?_⟩
  have line : z.length ≤ sizeLine := Nat.le_trans few (by decide)
  refine ⟨_, rfl, _, rfl, _, rfl, z, rfl, line, f, _, rfl, (by omega), len200 few, hF, fun r H' r0 r1 b hF' => ?_⟩
  have ln : z.cps.toList.length = z.length := Array.length_toList
  obtain ⟨x, hx, item⟩ := atI_in (xs := z.cps.toList) r0 (by omega)
  exact ⟨z, r, _, rfl, rfl, line, item, q _ hx H' b hF'⟩
end
end Kf
set_option Elab.async false
set_option linter.all false
set_option maxRecDepth 100000
set_option maxHeartbeats 4000000
set_option pp.maxSteps 400
/-! k40: the terms and sayings that the law makes, by their kinds. -/
namespace Kf
open PySem PySem.Spec PyProof.Rows L2 Sx
abbrev sTerm : Stmt := top 12
abbrev sSaying : Stmt := top 13
abbrev sFlat : Stmt := top 14
abbrev sSmall : Stmt := top 15
abbrev sSeen : Stmt := top 16
theorem scTerm : FnScope ["feed", "deep", "names", "around", "word", "one"] ["feed", "deep", "names", "around"] (defScope sTerm) := ⟨rfl, rfl, rfl, by decide +kernel, rfl, by decide +kernel, by decide +kernel⟩
theorem scSaying : FnScope ["feed", "deep", "names", "around", "way", "word"] ["feed", "deep", "names", "around"] (defScope sSaying) := ⟨rfl, rfl, rfl, by decide +kernel, rfl, by decide +kernel, by decide +kernel⟩
theorem scFlat : FnScope ["feed", "deep", "names", "around", "way", "one", "word"] ["feed", "deep", "names", "around"] (defScope sFlat) := ⟨rfl, rfl, rfl, by decide +kernel, rfl, by decide +kernel, by decide +kernel⟩
theorem scSmall : FnScope ["feed", "deep", "names", "around", "way", "word", "one"] ["feed", "deep", "names", "around"] (defScope sSmall) := ⟨rfl, rfl, rfl, by decide +kernel, rfl, by decide +kernel, by decide +kernel⟩
theorem scSeen : FnScope ["feed", "deep", "around", "left", "way", "word"] ["feed", "deep", "around", "left"] (defScope sSeen) := ⟨rfl, rfl, rfl, by decide +kernel, rfl, by decide +kernel, by decide +kernel⟩
/-! ### lists of texts as data -/
abbrev NmOk (z : Str) : Prop := z.cps.all (· < 0x110000) = true
theorem dp_strs {K : PySem.W.Frag} {H : Hp} {a : Addr} {ns : List Str} (h : SqL K H a (ns.map V.str)) : Dp K H (.ref a) (.list (ns.map PyData.str)) := by
  refine .lst h ?_
  clear h
  induction ns with
  | nil => exact .nil
  | cons x r ih => exact .cons (.str x) ih
theorem eqv_strs : ∀ xs ys : List Str, PyData.eqvAll (xs.map .str) (ys.map .str) = decide (xs = ys)
  | [], [] => rfl
  | [], _ :: _ => rfl
  | _ :: _, [] => rfl
  | x :: xs, y :: ys => by
    show (x == y && PyData.eqvAll (xs.map .str) (ys.map .str)) = decide (x :: xs = y :: ys)
    rw [eqv_strs xs ys]
    by_cases e : x = y
    · subst e
      simp
    · have e2 : (x == y) = false := beq_eq_false_iff_ne.mpr e
      rw [e2]
      simp [e]
theorem lay_strs : ∀ ns : List Str, (∀ z ∈ ns, NmOk z) → PyData.canLayAll0 (ns.map .str) = true ∧ PyData.depthAll (ns.map .str) = 0
  | [], _ => ⟨rfl, rfl⟩
  | z :: r, h => by
    obtain ⟨h1, h2⟩ := lay_strs r fun y hy => h y (List.mem_cons_of_mem _ hy)
    have hz : z.cps.all (· < 0x110000) = true := h z List.mem_cons_self
    refine ⟨?_, ?_⟩
    · show (z.cps.all (· < 0x110000) && PyData.canLayAll0 (r.map .str)) = true
      rw [hz, h1]
      rfl
    · show max 0 (PyData.depthAll (r.map .str)) = 0
      rw [h2]
      rfl
theorem shaped_strs {ns : List Str} (h : ∀ z ∈ ns, NmOk z) : SeqAt.shaped (.list (ns.map .str)) = true := by
  obtain ⟨h1, h2⟩ := lay_strs ns h
  show (PyData.canLayAll0 (ns.map .str) && decide (PyData.depthAll (ns.map .str) + 1 ≤ 64)) = true
  rw [h1, h2]
  rfl
/-! ### what the law makes -/
abbrev kT : Str := "term"
abbrev kS : Str := "saying"
def table : List (Str × Str × List Str) := [("next", kT, [kT]), ("plus", kT, [kT, kT]), ("times", kT, [kT, kT]), ("same", kS, [kT, kT]), ("no", kS, []), ("and", kS, [kS, kS]), ("or", kS, [kS, kS]), ("if", kS, [kS, kS]), ("all", kS, [kS]), ("some", kS, [kS])]
theorem table_leafy : ∀ e ∈ table, leafy e.1 = false := by decide +kernel
theorem table_nm : ∀ e ∈ table, NmOk e.1 ∧ e.1.length ≤ 8 := by decide +kernel
def LeafW (w : Str) (x : V) : Prop := ((w = "num" ∨ w = "bound") ∧ ∃ n : Int, x = .int n ∧ 0 ≤ n ∧ n < 10 ^ 60) ∨ (w = "name" ∧ ∃ z, x = .str z ∧ NmOk z ∧ z.length ≤ 8)
def Tr.Wf : Str → Tr → Prop
  | k, .leaf w x => k = kT ∧ LeafW w x
  | k, .n0 w => (w, k, []) ∈ table
  | k, .n1 w a => ∃ k1, (w, k, [k1]) ∈ table ∧ a.Wf k1
  | k, .n2 w a b => ∃ k1 k2, (w, k, [k1, k2]) ∈ table ∧ a.Wf k1 ∧ b.Wf k2
theorem wf_ok : ∀ {t : Tr} {k : Str}, t.Wf k → t.Ok
  | .leaf w x, k, h => by
    rcases h.2 with ⟨e, n, ex, _⟩ | ⟨e, z, ex, _⟩
    · subst ex
      rcases e with e | e <;> subst e <;> exact ⟨by decide +kernel, .inl ⟨⟨n, rfl⟩, by decide +kernel⟩⟩
    · subst e ex
      exact ⟨by decide +kernel, .inr ⟨⟨_, rfl⟩, rfl⟩⟩
  | .n0 w, k, h => table_leafy _ h
  | .n1 w a, k, ⟨k1, h, ha⟩ => ⟨table_leafy _ h, wf_ok ha⟩
  | .n2 w a b, k, ⟨k1, k2, h, ha, hb⟩ => ⟨table_leafy _ h, wf_ok ha, wf_ok hb⟩
/-- an inner piece's row in the table, its parts by their kinds -/
theorem wf_row {t : Tr} {k : Str} (h : t.Wf k) (nl : leafy t.word = false) : ∃ ks, (t.word, k, ks) ∈ table ∧ All2 (fun a k1 => Tr.Wf k1 a) t.kids ks := by
  cases t with
  | leaf w x => exact (no_leaf nl (wf_ok (t := .leaf w x) h).1).elim
  | n0 w => exact ⟨[], h, .nil⟩
  | n1 w a =>
    obtain ⟨k1, h1, ha⟩ := h
    exact ⟨[k1], h1, .one ha⟩
  | n2 w a b =>
    obtain ⟨k1, k2, h1, ha, hb⟩ := h
    exact ⟨[k1, k2], h1, .cons ha (.one hb)⟩
/-- the names' list -/
structure NmAt (H : Hp) (l : Addr) (ns : List Str) : Prop where
  at_ : H l = some (.lst (ns.map V.str))
  few : ns.length ≤ 60
  ok : ∀ z ∈ ns, NmOk z
  short : ∀ z ∈ ns, z.length ≤ 8
theorem NmAt.keep {H H' : Hp} {f l : Addr} {ns : List Str} (h : NmAt H l ns) (n : l ≠ f) (b : But f H H') : NmAt H' l ns := ⟨b _ _ n h.at_, h.few, h.ok, h.short⟩
theorem NmAt.same {H H' : Hp} {l : Addr} {ns : List Str} (h : NmAt H l ns) (b : Same H H') : NmAt H' l ns := ⟨b _ _ h.at_, h.few, h.ok, h.short⟩
/-- a made tree -/
structure Made (k : Str) (d : Nat) (t : Tr) : Prop where
  wf : t.Wf k
  dp : t.deep ≤ d
theorem made_num {n : Int} (h0 : 0 ≤ n) (h1 : n < 10 ^ 60) : Made kT 1 (.leaf "num" (.int n)) := ⟨⟨rfl, .inl ⟨.inl rfl, n, rfl, h0, h1⟩⟩, Nat.le_refl 1⟩
theorem made_bound {n : Int} (h0 : 0 ≤ n) (h1 : n < 10 ^ 60) : Made kT 1 (.leaf "bound" (.int n)) := ⟨⟨rfl, .inl ⟨.inr rfl, n, rfl, h0, h1⟩⟩, Nat.le_refl 1⟩
theorem made_name {x : Str} (h : NmOk x) (l : x.length ≤ 8) : Made kT 1 (.leaf "name" (.str x)) := ⟨⟨rfl, .inr ⟨rfl, x, rfl, h, l⟩⟩, Nat.le_refl 1⟩
theorem no_row : (("no", kS, []) : Str × Str × List Str) ∈ table := by decide +kernel
theorem made_no : Made kS 1 (.n0 "no") := ⟨no_row, Nat.le_refl 1⟩
theorem Made.up {k : Str} {d e : Nat} {t : Tr} (h : Made k d t) (le : d ≤ e) : Made k e t := ⟨h.wf, Nat.le_trans h.dp le⟩
theorem made_one {k k1 w : Str} {d : Nat} {a : Tr} (hw : (w, k, [k1]) ∈ table) (h : Made k1 d a) : Made k (d + 1) (.n1 w a) := ⟨⟨k1, hw, h.wf⟩, Nat.succ_le_succ h.dp⟩
theorem made_two {k k1 k2 w : Str} {d : Nat} {a b : Tr} (hw : (w, k, [k1, k2]) ∈ table) (h : Made k1 d a) (g : Made k2 d b) : Made k (d + 1) (.n2 w a b) := ⟨⟨k1, k2, hw, h.wf, g.wf⟩, Nat.succ_le_succ (Nat.max_le.mpr ⟨h.dp, g.dp⟩)⟩
/-- what is promised of a made tree -/
def Out (f : Addr) (H : Hp) (k : Str) (d : Nat) (Q : VK) : Prop := ∀ t v H', Made k d t → At H' t v → But f H H' → FeedAt H' f → Q v H'
/-- what stands behind several ways, shown once -/
theorem join {C G : Hp → Prop} {M : Prop} (main : (∀ H, C H → G H) → M) (rest : ∀ H, C H → G H) : M := main rest
theorem eqW {wd k : Str} {A B : Prop} (y : wd = k → A) (n : wd ≠ k → B) : if decide (V.str wd = V.str k) = true then A else B :=
  ite2 (fun c => y (by have q := of_decide_eq_true c; injection q)) (fun c => n (fun e => c (by rw [e]; exact decide_eq_true rfl)))
section
variable {P : Program} {w : World} {K : PySem.W.Frag} {mg : Str → Option Value} {base : Heap}
def spLeaf : Sp := fun vs H Q _ => ∃ (f l : Addr) (ns : List Str) (r : Int), vs = [.ref f, .ref l, .int r] ∧ l ≠ f ∧ NmAt H l ns ∧ r ≤ 1000 ∧ FeedAt H f ∧ Out f H kT 1 Q
/-- the defs that draw -/
structure Draw (P : Program) (w : World) (K : PySem.W.Frag) (mg : Str → Option Value) (base : Heap) (ft fp : Addr) (dt dp : FuncData) : Prop where
  T : FnOk P w K mg base CX0 1 ft dt ["feed", "many"] spTake
  bT : Binds K dt ["feed", "many"] []
  kT : PySem.W.keepIn K (.ref ft) = true
  mT : mg "_law_take" = some (.ref ft)
  Pk : FnOk P w K mg base CX0 2 fp dp ["feed", "some"] (spPick K)
  bP : Binds K dp ["feed", "some"] []
  kP : PySem.W.keepIn K (.ref fp) = true
  mP : mg "_law_pick" = some (.ref fp)
theorem few1000 {n : Int} (h0 : 0 < n) (h : n ≤ 1000) : n.natAbs < 2 ^ 200 := Nat.lt_of_le_of_lt (show n.natAbs ≤ 1000 by omega) (by decide)
theorem big60 {n : Int} (h : n ≤ 10 ^ 30) : n < 10 ^ 60 := Int.lt_of_le_of_lt h (by decide)
theorem ok_leaf {f ft fp : Addr} {fd dt dp : FuncData} (F : Fun K "_law_leaf" "_law_leaf" sLeaf f fd) (D : Draw P w K mg base ft fp dt dp) : FnOk P w K mg base CX0 3 f fd ["feed", "names", "around"] spLeaf := by
  refine F.ok scLeaf (fun vs H Q E h => ?_) (fun cdv A outer s H vs Q E hr h => ?_)
  · obtain ⟨a, l, ns, r, rfl, _⟩ := h
    rfl
  obtain ⟨f, l, ns, r, rfl, apart, hN, r1, hF, q⟩ := h
  have h1 : Room 1 _ := hr.mono (by decide)
  refine ⟨_, pss_cons (ps_set (i := 3) scLeaf.nd rfl (.inl rfl) (pe_call D.T h1 (by rfl) D.mT D.kT D.bT .nil pass0 (pa_cons (pv 0) (pa_cons pe_int pa_nil))))
    (pss_cons (ps_if (PW.pt (pw_and (pt_cmpR op_lt (pv 3) pe_int (nomark _)) (pw_and1 (pt_cmpR (op_neD hr.units) (pv 1) (pe_lst pa_nil) (nomark _)))))
      (pss_one (ps_ret (pe_tup (pa_cons pe_str (pa_cons (pe_call D.Pk hr (by rfl) D.mP D.kP D.bP .nil pass0 (pa_cons (pv 0) (pa_cons (pv 1) pa_nil))) pa_nil))))) pss_nil)
    (pss_cons (ps_if (PW.pt (pw_and (pt_cmpR op_lt (pv 3) pe_int (nomark _)) (pw_and1 (pt_cmpR op_gt (pv 2) pe_int (nomark _)))))
      (pss_one (ps_ret (pe_tup (pa_cons pe_str (pa_cons (pe_call D.T h1 (by rfl) D.mT D.kT D.bT .nil pass0 (pa_cons (pv 0) (pa_cons (pv 2) pa_nil))) pa_nil))))) pss_nil)
    (pss_one (ps_ret (pe_tup (pa_cons pe_str (pa_cons (pe_call D.Pk hr (by rfl) D.mP D.kP D.bP .nil pass0 (pa_cons (pv 0) (pa_cons
      (pe_lst (pa_cons pe_int (pa_cons pe_int (pa_cons pe_int (pa_cons (pe_call D.T h1 (by rfl) D.mT D.kT D.bT .nil pass0 (pa_cons (pv 0) (pa_cons pe_int pa_nil)))
        (pa_cons (pe_call D.T h1 (by rfl) D.mT D.kT D.bT .nil pass0 (pa_cons (pv 0) (pa_cons (pe_op op_pow pe_int pe_int) pa_nil))) (pa_cons (pe_op op_sub (pe_op op_pow pe_int pe_int) pe_int) pa_nil))))))) pa_nil))) pa_nil))))))), ?_⟩
  refine ⟨_, rfl, f, 8, rfl, by decide, by decide, hF, fun way H1 _ _ b1 hF1 => ?_⟩
  apply join (C := fun H2 => But f H H2 ∧ FeedAt H2 f)
  · intro rest
    refine ⟨_, rfl, _, _, rfl, rfl, _, rfl, ?_⟩
    refine ite2 (fun _ => ?_) (fun _ => iteF (rest H1 ⟨b1, hF1⟩))
    refine ⟨_, rfl, Nat.zero_le _, fun e he => ?_⟩
    have hN1 := hN.keep apart b1
    have bb : But f H (upd H1 e (.lst [])) := b1.new he
    have hF2 : FeedAt (upd H1 e (.lst [])) f := hF1.same (same_new he)
    have hN2 : NmAt (upd H1 e (.lst [])) l ns := hN.keep apart bb
    have d0 : Dp K (upd H1 e (.lst [])) (.ref e) (.list (([] : List Str).map PyData.str)) := dp_strs (ns := []) (.inl (.inl upd_same))
    refine ⟨_, _, dp_strs (.inl (.inl hN2.at_)), d0, shaped_strs hN2.ok, shaped_strs (fun z hz => by cases hz), _, rfl, ?_⟩
    show if (!PyData.eqvAll (ns.map .str) (([] : List Str).map .str)) = true then _ else _
    rw [eqv_strs]
    by_cases en : ns = []
    · rw [decide_eq_true en]
      exact iteF (rest _ ⟨bb, hF2⟩)
    · rw [decide_eq_false en]
      refine iteT ?_
      have pos : 0 < (ns.map V.str).length := by
        rw [List.length_map]
        exact List.length_pos_iff.mpr en
      refine ⟨_, rfl, _, rfl, f, l, _, rfl, apart, .inl (.inl hN2.at_), pos, (by rw [List.length_map]; exact Nat.le_trans hN2.few (by decide)), hF2, fun x hx H3 b3 hF3 => ?_⟩
      obtain ⟨z, hz, rfl⟩ := List.mem_map.mp hx
      refine ⟨(by show 2 ≤ sizeLine; decide), fun p hp => ?_⟩
      exact q _ _ _ (made_name (hN.ok z hz) (hN.short z hz)) ⟨p, rfl, upd_same⟩ ((bb.trans b3).new hp) (hF3.same (same_new hp))
  · intro H2 ⟨b2, hF2⟩
    apply join (C := fun H2 => But f H H2 ∧ FeedAt H2 f)
    · intro last
      refine ⟨_, rfl, _, _, rfl, rfl, _, rfl, ?_⟩
      refine ite2 (fun _ => ?_) (fun _ => iteF (last H2 ⟨b2, hF2⟩))
      refine ⟨_, rfl, _, _, rfl, rfl, _, rfl, ?_⟩
      refine ite2 (fun c => ?_) (fun _ => last H2 ⟨b2, hF2⟩)
      have pos : 0 < r := of_decide_eq_true c
      refine ⟨_, rfl, _, rfl, f, r, rfl, pos, few1000 pos r1, hF2, fun k H3 k0 k1 b3 hF3 => ?_⟩
      refine ⟨(by show 2 ≤ sizeLine; decide), fun p hp => ?_⟩
      exact q _ _ _ (made_bound k0 (big60 (Int.le_trans (Int.le_of_lt (Int.lt_of_lt_of_le k1 r1)) (by decide)))) ⟨p, rfl, upd_same⟩ ((b2.trans b3).new hp) (hF3.same (same_new hp))
    · intro H3 ⟨b3, hF3⟩
      refine ⟨_, rfl, _, rfl, f, 7, rfl, by decide, by decide, hF3, fun k H4 k0 k1 b4 hF4 => ?_⟩
      refine ⟨_, rfl, _, _, rfl, rfl, ⟨by decide, by decide, by decide⟩, f, _, rfl, by decide, by decide +kernel, hF4, fun k2 H5 k20 k21 b5 hF5 => ?_⟩
      refine ⟨_, _, rfl, rfl, ⟨by decide, by decide, by decide⟩, _, _, rfl, rfl, (by show 6 ≤ sizeLine; decide), fun g hg => ?_⟩
      have bb : But f H (upd H5 g (.lst [.int 0, .int 1, .int 2, .int k, .int k2, .int (10 ^ (60 : Int).toNat - 1)])) := (((b3.trans b4).trans b5).new hg)
      refine ⟨f, g, _, rfl, hF5.ne hg, .inl (.inl upd_same), (by show 0 < 6; decide), (by show 6 ≤ 1000; decide), hF5.same (same_new hg), fun x hx H6 b6 hF6 => ?_⟩
      have nm : ∃ n : Int, x = .int n ∧ 0 ≤ n ∧ n < 10 ^ 60 := by
        have k2b : k2 < 10 ^ 30 := k21
        rcases List.mem_cons.mp hx with e | hx
        · exact ⟨0, e, by decide, by decide⟩
        rcases List.mem_cons.mp hx with e | hx
        · exact ⟨1, e, by decide, by decide⟩
        rcases List.mem_cons.mp hx with e | hx
        · exact ⟨2, e, by decide, by decide⟩
        rcases List.mem_cons.mp hx with e | hx
        · exact ⟨k, e, k0, by omega⟩
        rcases List.mem_cons.mp hx with e | hx
        · exact ⟨k2, e, k20, by omega⟩
        · exact ⟨_, List.mem_singleton.mp hx, by decide, by decide⟩
      obtain ⟨n, rfl, n0, n1⟩ := nm
      refine ⟨(by show 2 ≤ sizeLine; decide), fun p hp => ?_⟩
      exact q _ _ _ (made_num n0 n1) ⟨p, rfl, upd_same⟩ ((bb.trans b6).new hp) (hF6.same (same_new hp))
/-! ### _law_term -/
def spTerm (n : Nat) : Sp := fun vs H Q _ => ∃ (f l : Addr) (ns : List Str) (r : Int) (d : Nat), vs = [.ref f, .int (d : Int), .ref l, .int r] ∧ d + 1 ≤ n ∧ l ≠ f ∧ NmAt H l ns ∧ r ≤ 1000 ∧ FeedAt H f ∧ Out f H kT (d + 1) Q
theorem words3 : ∀ x ∈ ([.str "next", .str "plus", .str "times"] : List V), ∃ wd : Str, x = .str wd ∧ (wd ≠ "next" → (wd, kT, [kT, kT]) ∈ table) := by
  intro x hx
  rcases List.mem_cons.mp hx with e | hx
  · exact ⟨_, e, by decide +kernel⟩
  rcases List.mem_cons.mp hx with e | hx
  · exact ⟨_, e, by decide +kernel⟩
  · exact ⟨_, List.mem_singleton.mp hx, by decide +kernel⟩
theorem next_row : (("next", kT, [kT]) : Str × Str × List Str) ∈ table := by decide +kernel
theorem no_calls {f : Addr} {fd : FuncData} {k : Nat} {ps : List Str} {sp : Sp} (no : ∀ vs H Q E, ¬ sp vs H Q E) : FnOk P w K mg base CX0 k f fd ps sp :=
  ⟨fun vs H Q E h => absurd h (no vs H Q E), fun A outer s H args us vs Q E _ _ _ _ h => absurd h (no vs H Q E)⟩
theorem ok_term {f ft fp fl : Addr} {fd dt dp dl : FuncData} {n : Nat} (F : Fun K "_law_term" "_law_term" sTerm f fd) (D : Draw P w K mg base ft fp dt dp)
    (L : FnOk P w K mg base CX0 3 fl dl ["feed", "names", "around"] spLeaf) (bL : Binds K dl ["feed", "names", "around"] []) (kL : PySem.W.keepIn K (.ref fl) = true) (mL : mg "_law_leaf" = some (.ref fl))
    (S : FnOk P w K mg base CX0 (3 + n) f fd ["feed", "deep", "names", "around"] (spTerm n)) (bS : Binds K fd ["feed", "deep", "names", "around"] []) (mS : mg "_law_term" = some (.ref f)) :
    FnOk P w K mg base CX0 (3 + n + 1) f fd ["feed", "deep", "names", "around"] (spTerm (n + 1)) := by
  refine F.ok scTerm (fun vs H Q E h => ?_) (fun cdv A outer s H vs Q E hr h => ?_)
  · obtain ⟨a, l, ns, r, d, rfl, _⟩ := h
    rfl
  obtain ⟨f, l, ns, r, d, rfl, dn, apart, hN, r1, hF, q⟩ := h
  have h1 : Room 1 _ := hr.mono (by omega)
  have h2 : Room 2 _ := hr.mono (by omega)
  have h3 : Room 3 _ := hr.mono (by omega)
  refine ⟨_, pss_cons (ps_if (PW.pt (pw_or (pt_cmpR op_eq (pv 1) pe_int (nomark _)) (pw_or1 (pt_cmpR op_eq (pe_call D.T h1 (by rfl) D.mT D.kT D.bT .nil pass0 (pa_cons (pv 0) (pa_cons pe_int pa_nil))) pe_int (nomark _)))))
      (pss_one (ps_ret (pe_call L h3 (by rfl) mL kL bL .nil pass0 (pa_cons (pv 0) (pa_cons (pv 2) (pa_cons (pv 3) pa_nil)))))) pss_nil)
    (pss_cons (ps_set (i := 4) scTerm.nd rfl (.inl rfl) (pe_call D.Pk h2 (by rfl) D.mP D.kP D.bP .nil pass0 (pa_cons (pv 0) (pa_cons (pe_lst (pa_cons pe_str (pa_cons pe_str (pa_cons pe_str pa_nil)))) pa_nil))))
    (pss_cons (ps_set (i := 5) scTerm.nd rfl (.inl rfl) (pe_call S hr (by rfl) mS F.kp bS .nil pass0 (pa_cons (pv 0) (pa_cons (pe_op op_sub (pv 1) pe_int) (pa_cons (pv 2) (pa_cons (pv 3) pa_nil))))))
    (pss_cons (ps_if (pt_cmpR op_eq (pv 4) pe_str (nomark _)) (pss_one (ps_ret (pe_tup (pa_cons (pv 4) (pa_cons (pv 5) pa_nil))))) pss_nil)
    (pss_one (ps_ret (pe_tup (pa_cons (pv 4) (pa_cons (pv 5) (pa_cons (pe_call S hr (by rfl) mS F.kp bS .nil pass0 (pa_cons (pv 0) (pa_cons (pe_op op_sub (pv 1) pe_int) (pa_cons (pv 2) (pa_cons (pv 3) pa_nil))))) pa_nil))))))))), ?_⟩
  -- a leaf, at any heap behind
  have leaf : ∀ H1 : Hp, But f H H1 → FeedAt H1 f → Out f H1 kT 1 Q := fun H1 b1 _ t v H' m a b hF' => q t v H' (m.up (by omega)) a (b1.trans b) hF'
  refine ⟨_, rfl, rfl, _, rfl, ?_⟩
  refine ite2 (fun c => ?_) (fun c => ?_)
  · exact iteT ⟨_, rfl, _, rfl, _, rfl, f, l, ns, r, rfl, apart, hN, r1, hF, leaf H (But.refl f H) hF⟩
  have dpos : 0 < d := by
    rcases Nat.eq_zero_or_pos d with e | e
    · exact absurd (show decide (V.int (d : Int) = V.int 0) = true from decide_eq_true (by rw [e]; rfl)) c
    · exact e
  refine ⟨_, rfl, f, 3, rfl, by decide, by decide, hF, fun k H1 _ _ b1 hF1 => ?_⟩
  have hN1 := hN.keep apart b1
  refine ⟨rfl, _, rfl, ?_⟩
  refine ite2 (fun _ => ?_) (fun _ => ?_)
  · exact ⟨_, rfl, _, rfl, _, rfl, f, l, ns, r, rfl, apart, hN1, r1, hF1, leaf H1 b1 hF1⟩
  refine ⟨_, rfl, (by show 3 ≤ sizeLine; decide), fun g hg => ?_⟩
  refine ⟨f, g, _, rfl, hF1.ne hg, .inl (.inl upd_same), by decide, by decide, hF1.same (same_new hg), fun x hx H2 b2 hF2 => ?_⟩
  obtain ⟨wd, rfl, nw⟩ := words3 x hx
  have bb2 : But f H H2 := (b1.new hg).trans b2
  have ed : (d : Int) - 1 = ((d - 1 : Nat) : Int) := by omega
  refine ⟨_, rfl, _, rfl, _, _, rfl, rfl, _, rfl, _, rfl, f, l, ns, r, d - 1, (by show [V.ref f, V.int ((d : Int) - 1), V.ref l, V.int r] = _; rw [ed]), by omega, apart, hN.keep apart bb2, r1, hF2, fun t1 v1 H3 m1 a1 b3 hF3 => ?_⟩
  have bb3 := bb2.trans b3
  refine ⟨_, rfl, rfl, _, rfl, ?_⟩
  refine eqW (fun e => ?_) (fun ne => ?_)
  · subst e
    refine ⟨_, rfl, _, rfl, (by show 2 ≤ sizeLine; decide), fun p hp => ?_⟩
    exact q _ _ _ ((made_one next_row m1).up (by omega)) ⟨p, v1, rfl, upd_same, a1.keep (tups_same (same_new hp))⟩ (bb3.new hp) (hF3.same (same_new hp))
  · refine ⟨_, rfl, _, rfl, _, rfl, _, rfl, _, _, rfl, rfl, _, rfl, _, rfl, f, l, ns, r, d - 1, (by show [V.ref f, V.int ((d : Int) - 1), V.ref l, V.int r] = _; rw [ed]), by omega, apart, hN.keep apart bb3, r1, hF3, fun t2 v2 H4 m2 a2 b4 hF4 => ?_⟩
    refine ⟨(by show 3 ≤ sizeLine; decide), fun p hp => ?_⟩
    have k1 : At H4 t1 v1 := a1.keep (hF3.tups b4)
    exact q _ _ _ ((made_two (nw ne) m1 m2).up (by omega)) ⟨p, v1, v2, rfl, upd_same, k1.keep (tups_same (same_new hp)), a2.keep (tups_same (same_new hp))⟩ ((bb3.trans b4).new hp) (hF4.same (same_new hp))
theorem ok_terms {f ft fp fl : Addr} {fd dt dp dl : FuncData} (F : Fun K "_law_term" "_law_term" sTerm f fd) (D : Draw P w K mg base ft fp dt dp)
    (L : FnOk P w K mg base CX0 3 fl dl ["feed", "names", "around"] spLeaf) (bL : Binds K dl ["feed", "names", "around"] []) (kL : PySem.W.keepIn K (.ref fl) = true) (mL : mg "_law_leaf" = some (.ref fl))
    (bS : Binds K fd ["feed", "deep", "names", "around"] []) (mS : mg "_law_term" = some (.ref f)) : ∀ n : Nat, FnOk P w K mg base CX0 (3 + n) f fd ["feed", "deep", "names", "around"] (spTerm n)
  | 0 => no_calls fun vs H Q E h => by
    obtain ⟨a, l, ns, r, d, _, dn, _⟩ := h
    omega
  | n + 1 => ok_term F D L bL kL mL (ok_terms F D L bL kL mL bS mS n) bS mS
/-! ### _law_saying -/
def spSaying (n : Nat) : Sp := fun vs H Q _ => ∃ (f l : Addr) (ns : List Str) (r : Int) (d : Nat), vs = [.ref f, .int (d : Int), .ref l, .int r] ∧ d + 1 ≤ n ∧ l ≠ f ∧ NmAt H l ns ∧ r + n ≤ 1000 ∧ FeedAt H f ∧ Out f H kS (d + 4) Q
theorem words2 : ∀ x ∈ ([.str "all", .str "some"] : List V), ∃ wd : Str, x = .str wd ∧ (wd, kS, [kS]) ∈ table := by
  intro x hx
  rcases List.mem_cons.mp hx with e | hx
  · exact ⟨_, e, by decide +kernel⟩
  · exact ⟨_, List.mem_singleton.mp hx, by decide +kernel⟩
theorem wordsB : ∀ x ∈ ([.str "and", .str "or", .str "if"] : List V), ∃ wd : Str, x = .str wd ∧ (wd, kS, [kS, kS]) ∈ table := by
  intro x hx
  rcases List.mem_cons.mp hx with e | hx
  · exact ⟨_, e, by decide +kernel⟩
  rcases List.mem_cons.mp hx with e | hx
  · exact ⟨_, e, by decide +kernel⟩
  · exact ⟨_, List.mem_singleton.mp hx, by decide +kernel⟩
theorem wordsC : ∀ x ∈ ([.str "and", .str "if", .str "if"] : List V), ∃ wd : Str, x = .str wd ∧ (wd, kS, [kS, kS]) ∈ table := by
  intro x hx
  rcases List.mem_cons.mp hx with e | hx
  · exact ⟨_, e, by decide +kernel⟩
  rcases List.mem_cons.mp hx with e | hx
  · exact ⟨_, e, by decide +kernel⟩
  · exact ⟨_, List.mem_singleton.mp hx, by decide +kernel⟩
theorem wordsD : ∀ x ∈ ([.str "and", .str "or", .str "or"] : List V), ∃ wd : Str, x = .str wd ∧ (wd, kS, [kS, kS]) ∈ table := by
  intro x hx
  rcases List.mem_cons.mp hx with e | hx
  · exact ⟨_, e, by decide +kernel⟩
  rcases List.mem_cons.mp hx with e | hx
  · exact ⟨_, e, by decide +kernel⟩
  · exact ⟨_, List.mem_singleton.mp hx, by decide +kernel⟩
theorem same_row : (("same", kS, [kT, kT]) : Str × Str × List Str) ∈ table := by decide +kernel
theorem ok_saying {f ft fp fm : Addr} {fd dt dp dm : FuncData} {n : Nat} (F : Fun K "_law_saying" "_law_saying" sSaying f fd) (D : Draw P w K mg base ft fp dt dp)
    (M : FnOk P w K mg base CX0 6 fm dm ["feed", "deep", "names", "around"] (spTerm 3)) (bM : Binds K dm ["feed", "deep", "names", "around"] []) (kM : PySem.W.keepIn K (.ref fm) = true) (mM : mg "_law_term" = some (.ref fm))
    (S : FnOk P w K mg base CX0 (6 + n) f fd ["feed", "deep", "names", "around"] (spSaying n)) (bS : Binds K fd ["feed", "deep", "names", "around"] []) (mS : mg "_law_saying" = some (.ref f)) :
    FnOk P w K mg base CX0 (6 + n + 1) f fd ["feed", "deep", "names", "around"] (spSaying (n + 1)) := by
  refine F.ok scSaying (fun vs H Q E h => ?_) (fun cdv A outer s H vs Q E hr h => ?_)
  · obtain ⟨a, l, ns, r, d, rfl, _⟩ := h
    rfl
  obtain ⟨f, l, ns, r, d, rfl, dn, apart, hN, r1, hF, q⟩ := h
  have h1 : Room 1 _ := hr.mono (by omega)
  have h2 : Room 2 _ := hr.mono (by omega)
  have h6 : Room 6 _ := hr.mono (by omega)
  refine ⟨_, pss_cons (ps_set (i := 4) scSaying.nd rfl (.inl rfl) (pe_call D.T h1 (by rfl) D.mT D.kT D.bT .nil pass0 (pa_cons (pv 0) (pa_cons pe_int pa_nil))))
    (pss_cons (ps_if (PW.pt (pw_or (pt_cmpR op_eq (pv 1) pe_int (nomark _)) (pw_or1 (pt_cmpR op_lt (pv 4) pe_int (nomark _)))))
      (pss_cons (ps_if (pt_cmpR op_eq (pe_call D.T h1 (by rfl) D.mT D.kT D.bT .nil pass0 (pa_cons (pv 0) (pa_cons pe_int pa_nil))) pe_int (nomark _)) (pss_one (ps_ret (pe_tup (pa_cons pe_str pa_nil)))) pss_nil)
      (pss_one (ps_ret (pe_tup (pa_cons pe_str (pa_cons (pe_call M h6 (by rfl) mM kM bM .nil pass0 (pa_cons (pv 0) (pa_cons pe_int (pa_cons (pv 2) (pa_cons (pv 3) pa_nil)))))
        (pa_cons (pe_call M h6 (by rfl) mM kM bM .nil pass0 (pa_cons (pv 0) (pa_cons pe_int (pa_cons (pv 2) (pa_cons (pv 3) pa_nil))))) pa_nil))))))) pss_nil)
    (pss_cons (ps_if (pt_cmpR op_lt (pv 4) pe_int (nomark _)) (pss_one (ps_ret (pe_tup (pa_cons (pe_call D.Pk h2 (by rfl) D.mP D.kP D.bP .nil pass0 (pa_cons (pv 0) (pa_cons (pe_lst (pa_cons pe_str (pa_cons pe_str pa_nil))) pa_nil)))
        (pa_cons (pe_call S hr (by rfl) mS F.kp bS .nil pass0 (pa_cons (pv 0) (pa_cons (pe_op op_sub (pv 1) pe_int) (pa_cons (pv 2) (pa_cons (pe_op op_add (pv 3) pe_int) pa_nil))))) pa_nil))))) pss_nil)
    (pss_cons (ps_set (i := 5) scSaying.nd rfl (.inl rfl) (pe_call D.Pk h2 (by rfl) D.mP D.kP D.bP .nil pass0 (pa_cons (pv 0) (pa_cons (pe_lst (pa_cons pe_str (pa_cons pe_str (pa_cons pe_str pa_nil)))) pa_nil))))
    (pss_one (ps_ret (pe_tup (pa_cons (pv 5) (pa_cons (pe_call S hr (by rfl) mS F.kp bS .nil pass0 (pa_cons (pv 0) (pa_cons (pe_op op_sub (pv 1) pe_int) (pa_cons (pv 2) (pa_cons (pv 3) pa_nil)))))
      (pa_cons (pe_call S hr (by rfl) mS F.kp bS .nil pass0 (pa_cons (pv 0) (pa_cons (pe_op op_sub (pv 1) pe_int) (pa_cons (pv 2) (pa_cons (pv 3) pa_nil))))) pa_nil))))))))), ?_⟩
  refine ⟨_, rfl, f, 9, rfl, by decide, by decide, hF, fun way H1 _ _ b1 hF1 => ?_⟩
  have hN1 := hN.keep apart b1
  apply join (C := fun H2 => But f H H2 ∧ FeedAt H2 f)
  · intro flat
    apply join (C := fun H2 => 0 < d ∧ But f H H2 ∧ FeedAt H2 f)
    · intro rest
      refine ⟨_, rfl, rfl, _, rfl, ?_⟩
      refine ite2 (fun c => ?_) (fun c => ?_)
      · exact iteT (flat H1 ⟨b1, hF1⟩)
      have dpos : 0 < d := by
        rcases Nat.eq_zero_or_pos d with e | e
        · exact absurd (show decide (V.int (d : Int) = V.int 0) = true from decide_eq_true (by rw [e]; rfl)) c
        · exact e
      refine ⟨_, rfl, _, _, rfl, rfl, _, rfl, ?_⟩
      exact ite2 (fun _ => flat H1 ⟨b1, hF1⟩) (fun _ => rest H1 ⟨dpos, b1, hF1⟩)
    · intro H2 ⟨dpos, b2, hF2⟩
      have ed : (d : Int) - 1 = ((d - 1 : Nat) : Int) := by omega
      refine ⟨_, rfl, _, _, rfl, rfl, _, rfl, ?_⟩
      refine ite2 (fun _ => ?_) (fun _ => ?_)
      · refine ⟨_, rfl, (by show 2 ≤ sizeLine; decide), fun g hg => ?_⟩
        refine ⟨f, g, _, rfl, hF2.ne hg, .inl (.inl upd_same), by decide, by decide, hF2.same (same_new hg), fun x hx H3 b3 hF3 => ?_⟩
        obtain ⟨wd, rfl, nw⟩ := words2 x hx
        have bb3 := (b2.new hg).trans b3
        refine ⟨_, rfl, _, rfl, _, _, rfl, rfl, _, rfl, _, rfl, _, _, rfl, rfl, f, l, ns, r + 1, d - 1, (by show [V.ref f, V.int ((d : Int) - 1), V.ref l, V.int (r + 1)] = _; rw [ed]), by omega, apart, hN.keep apart bb3, by omega, hF3, fun t1 v1 H4 m1 a1 b4 hF4 => ?_⟩
        refine ⟨(by show 2 ≤ sizeLine; decide), fun p hp => ?_⟩
        exact q _ _ _ ((made_one nw m1).up (by omega)) ⟨p, v1, rfl, upd_same, a1.keep (tups_same (same_new hp))⟩ ((bb3.trans b4).new hp) (hF4.same (same_new hp))
      · refine ⟨_, rfl, (by show 3 ≤ sizeLine; decide), fun g hg => ?_⟩
        refine ⟨f, g, _, rfl, hF2.ne hg, .inl (.inl upd_same), by decide, by decide, hF2.same (same_new hg), fun x hx H3 b3 hF3 => ?_⟩
        obtain ⟨wd, rfl, nw⟩ := wordsB x hx
        have bb3 := (b2.new hg).trans b3
        refine ⟨_, rfl, _, rfl, _, rfl, _, _, rfl, rfl, _, rfl, _, rfl, f, l, ns, r, d - 1, (by show [V.ref f, V.int ((d : Int) - 1), V.ref l, V.int r] = _; rw [ed]), by omega, apart, hN.keep apart bb3, by omega, hF3, fun t1 v1 H4 m1 a1 b4 hF4 => ?_⟩
        have bb4 := bb3.trans b4
        refine ⟨_, rfl, _, rfl, _, _, rfl, rfl, _, rfl, _, rfl, f, l, ns, r, d - 1, (by show [V.ref f, V.int ((d : Int) - 1), V.ref l, V.int r] = _; rw [ed]), by omega, apart, hN.keep apart bb4, by omega, hF4, fun t2 v2 H5 m2 a2 b5 hF5 => ?_⟩
        refine ⟨(by show 3 ≤ sizeLine; decide), fun p hp => ?_⟩
        have k1 : At H5 t1 v1 := a1.keep (hF4.tups b5)
        exact q _ _ _ ((made_two nw m1 m2).up (by omega)) ⟨p, v1, v2, rfl, upd_same, k1.keep (tups_same (same_new hp)), a2.keep (tups_same (same_new hp))⟩ ((bb4.trans b5).new hp) (hF5.same (same_new hp))
  · intro H2 ⟨b2, hF2⟩
    refine ⟨_, rfl, f, 6, rfl, by decide, by decide, hF2, fun k H3 _ _ b3 hF3 => ?_⟩
    have bb3 := b2.trans b3
    refine ⟨rfl, _, rfl, ?_⟩
    refine ite2 (fun _ => ?_) (fun _ => ?_)
    · refine ⟨(by show 1 ≤ sizeLine; decide), fun p hp => ?_⟩
      exact q _ _ _ (made_no.up (by omega)) ⟨p, rfl, upd_same⟩ (bb3.new hp) (hF3.same (same_new hp))
    · refine ⟨_, rfl, _, rfl, _, rfl, f, l, ns, r, 2, rfl, by decide, apart, hN.keep apart bb3, by omega, hF3, fun t1 v1 H4 m1 a1 b4 hF4 => ?_⟩
      have bb4 := bb3.trans b4
      refine ⟨_, rfl, _, rfl, _, rfl, f, l, ns, r, 2, rfl, by decide, apart, hN.keep apart bb4, by omega, hF4, fun t2 v2 H5 m2 a2 b5 hF5 => ?_⟩
      refine ⟨(by show 3 ≤ sizeLine; decide), fun p hp => ?_⟩
      have k1 : At H5 t1 v1 := a1.keep (hF4.tups b5)
      exact q _ _ _ ((made_two (w := "same") same_row m1 m2).up (by omega)) ⟨p, v1, v2, rfl, upd_same, k1.keep (tups_same (same_new hp)), a2.keep (tups_same (same_new hp))⟩ ((bb4.trans b5).new hp) (hF5.same (same_new hp))
theorem ok_sayings {f ft fp fm : Addr} {fd dt dp dm : FuncData} (F : Fun K "_law_saying" "_law_saying" sSaying f fd) (D : Draw P w K mg base ft fp dt dp)
    (M : FnOk P w K mg base CX0 6 fm dm ["feed", "deep", "names", "around"] (spTerm 3)) (bM : Binds K dm ["feed", "deep", "names", "around"] []) (kM : PySem.W.keepIn K (.ref fm) = true) (mM : mg "_law_term" = some (.ref fm))
    (bS : Binds K fd ["feed", "deep", "names", "around"] []) (mS : mg "_law_saying" = some (.ref f)) : ∀ n : Nat, FnOk P w K mg base CX0 (6 + n) f fd ["feed", "deep", "names", "around"] (spSaying n)
  | 0 => no_calls fun vs H Q E h => by
    obtain ⟨a, l, ns, r, d, _, dn, _⟩ := h
    omega
  | n + 1 => ok_saying F D M bM kM mM (ok_sayings F D M bM kM mM bS mS n) bS mS
end
end Kf
set_option Elab.async false
set_option linter.all false
set_option maxRecDepth 100000
set_option maxHeartbeats 4000000
set_option pp.maxSteps 400
/-! k40: the flat sayings and the seen ones that the law makes. -/
namespace Kf
open PySem PySem.Spec PyProof.Rows L2 Sx
section
variable {P : Program} {w : World} {K : PySem.W.Frag} {mg : Str → Option Value} {base : Heap}
/-! ### _law_small -/
theorem ok_small {f ft fp : Addr} {fd dt dp : FuncData} {n : Nat} (F : Fun K "_law_small" "_law_small" sSmall f fd) (D : Draw P w K mg base ft fp dt dp)
    (S : FnOk P w K mg base CX0 (3 + n) f fd ["feed", "deep", "names", "around"] (spTerm n)) (bS : Binds K fd ["feed", "deep", "names", "around"] []) (mS : mg "_law_small" = some (.ref f)) :
    FnOk P w K mg base CX0 (3 + n + 1) f fd ["feed", "deep", "names", "around"] (spTerm (n + 1)) := by
  refine F.ok scSmall (fun vs H Q E h => ?_) (fun cdv A outer s H vs Q E hr h => ?_)
  · obtain ⟨a, l, ns, r, d, rfl, _⟩ := h
    rfl
  obtain ⟨f, l, ns, r, d, rfl, dn, apart, hN, r1, hF, q⟩ := h
  have h1 : Room 1 _ := hr.mono (by omega)
  have h2 : Room 2 _ := hr.mono (by omega)
  refine ⟨_, pss_cons (ps_set (i := 4) scSmall.nd rfl (.inl rfl) (pe_call D.T h1 (by rfl) D.mT D.kT D.bT .nil pass0 (pa_cons (pv 0) (pa_cons pe_int pa_nil))))
    (pss_cons (ps_if (PW.pt (pw_and (pt_cmpR op_lt (pv 4) pe_int (nomark _)) (pw_and1 (pt_cmpR op_gt (pv 3) pe_int (nomark _)))))
      (pss_one (ps_ret (pe_tup (pa_cons pe_str (pa_cons (pe_call D.T h1 (by rfl) D.mT D.kT D.bT .nil pass0 (pa_cons (pv 0) (pa_cons (pv 3) pa_nil))) pa_nil))))) pss_nil)
    (pss_cons (ps_if (PW.pt (pw_and (pt_cmpR op_eq (pv 4) pe_int (nomark _)) (pw_and1 (pt_cmpR (op_neD hr.units) (pv 2) (pe_lst pa_nil) (nomark _)))))
      (pss_one (ps_ret (pe_tup (pa_cons pe_str (pa_cons (pe_call D.Pk h2 (by rfl) D.mP D.kP D.bP .nil pass0 (pa_cons (pv 0) (pa_cons (pv 2) pa_nil))) pa_nil))))) pss_nil)
    (pss_cons (ps_if (PW.pt (pw_or (pt_cmpR op_eq (pv 1) pe_int (nomark _)) (pw_or1 (pt_cmpR op_lt (pv 4) pe_int (nomark _)))))
      (pss_one (ps_ret (pe_tup (pa_cons pe_str (pa_cons (pe_call D.T h1 (by rfl) D.mT D.kT D.bT .nil pass0 (pa_cons (pv 0) (pa_cons pe_int pa_nil))) pa_nil))))) pss_nil)
    (pss_cons (ps_set (i := 5) scSmall.nd rfl (.inl rfl) (pe_call D.Pk h2 (by rfl) D.mP D.kP D.bP .nil pass0 (pa_cons (pv 0) (pa_cons (pe_lst (pa_cons pe_str (pa_cons pe_str (pa_cons pe_str pa_nil)))) pa_nil))))
    (pss_cons (ps_set (i := 6) scSmall.nd rfl (.inl rfl) (pe_call S hr (by rfl) mS F.kp bS .nil pass0 (pa_cons (pv 0) (pa_cons (pe_op op_sub (pv 1) pe_int) (pa_cons (pv 2) (pa_cons (pv 3) pa_nil))))))
    (pss_cons (ps_if (pt_cmpR op_eq (pv 5) pe_str (nomark _)) (pss_one (ps_ret (pe_tup (pa_cons (pv 5) (pa_cons (pv 6) pa_nil))))) pss_nil)
    (pss_one (ps_ret (pe_tup (pa_cons (pv 5) (pa_cons (pv 6) (pa_cons (pe_call S hr (by rfl) mS F.kp bS .nil pass0 (pa_cons (pv 0) (pa_cons (pe_op op_sub (pv 1) pe_int) (pa_cons (pv 2) (pa_cons (pv 3) pa_nil))))) pa_nil)))))))))))), ?_⟩
  refine ⟨_, rfl, f, 6, rfl, by decide, by decide, hF, fun way H1 _ _ b1 hF1 => ?_⟩
  apply join (C := fun H2 => H2 = H1)
  · intro rest
    refine ⟨_, rfl, _, _, rfl, rfl, _, rfl, ?_⟩
    refine ite2 (fun _ => ?_) (fun _ => iteF (rest H1 rfl))
    refine ⟨_, rfl, _, _, rfl, rfl, _, rfl, ?_⟩
    refine ite2 (fun c => ?_) (fun _ => rest H1 rfl)
    have pos : 0 < r := of_decide_eq_true c
    refine ⟨_, rfl, _, rfl, f, r, rfl, pos, few1000 pos r1, hF1, fun k H3 k0 k1 b3 hF3 => ?_⟩
    refine ⟨(by show 2 ≤ sizeLine; decide), fun p hp => ?_⟩
    exact q _ _ _ ((made_bound k0 (big60 (Int.le_trans (Int.le_of_lt (Int.lt_of_lt_of_le k1 r1)) (by decide)))).up (by omega)) ⟨p, rfl, upd_same⟩ ((b1.trans b3).new hp) (hF3.same (same_new hp))
  · intro Hx e
    have e2 := e.symm
    subst e2
    apply join (C := fun H2 => But f H H2 ∧ FeedAt H2 f)
    · intro rest
      refine ⟨_, rfl, rfl, _, rfl, ?_⟩
      refine ite2 (fun _ => ?_) (fun _ => iteF (rest H1 ⟨b1, hF1⟩))
      refine ⟨_, rfl, Nat.zero_le _, fun e he => ?_⟩
      have bb : But f H (upd H1 e (.lst [])) := b1.new he
      have hF2 : FeedAt (upd H1 e (.lst [])) f := hF1.same (same_new he)
      have hN2 : NmAt (upd H1 e (.lst [])) l ns := hN.keep apart bb
      have d0 : Dp K (upd H1 e (.lst [])) (.ref e) (.list (([] : List Str).map PyData.str)) := dp_strs (ns := []) (.inl (.inl upd_same))
      refine ⟨_, _, dp_strs (.inl (.inl hN2.at_)), d0, shaped_strs hN2.ok, shaped_strs (fun z hz => by cases hz), _, rfl, ?_⟩
      show if (!PyData.eqvAll (ns.map .str) (([] : List Str).map .str)) = true then _ else _
      rw [eqv_strs]
      by_cases en : ns = []
      · rw [decide_eq_true en]
        exact iteF (rest _ ⟨bb, hF2⟩)
      · rw [decide_eq_false en]
        refine iteT ?_
        have pos : 0 < (ns.map V.str).length := by
          rw [List.length_map]
          exact List.length_pos_iff.mpr en
        refine ⟨_, rfl, _, rfl, f, l, _, rfl, apart, .inl (.inl hN2.at_), pos, (by rw [List.length_map]; exact Nat.le_trans hN2.few (by decide)), hF2, fun x hx H3 b3 hF3 => ?_⟩
        obtain ⟨z, hz, rfl⟩ := List.mem_map.mp hx
        refine ⟨(by show 2 ≤ sizeLine; decide), fun p hp => ?_⟩
        exact q _ _ _ ((made_name (hN.ok z hz) (hN.short z hz)).up (by omega)) ⟨p, rfl, upd_same⟩ ((bb.trans b3).new hp) (hF3.same (same_new hp))
    · intro H2 ⟨b2, hF2⟩
      apply join (C := fun H3 => H3 = H2 ∧ 0 < d)
      · intro rest
        have num : ∀ Q2 : Prop, Q2 → Q2 := fun _ z => z
        apply join (C := fun H3 => H3 = H2)
        · intro leaf
          refine ⟨_, rfl, rfl, _, rfl, ?_⟩
          refine ite2 (fun c => iteT (leaf H2 rfl)) (fun c => ?_)
          have dpos : 0 < d := by
            rcases Nat.eq_zero_or_pos d with e | e
            · exact absurd (show decide (V.int (d : Int) = V.int 0) = true from decide_eq_true (by rw [e]; rfl)) c
            · exact e
          refine ⟨_, rfl, _, _, rfl, rfl, _, rfl, ?_⟩
          exact ite2 (fun _ => leaf H2 rfl) (fun _ => rest H2 ⟨rfl, dpos⟩)
        · intro Hx e
          have e2 := e.symm
          subst e2
          refine ⟨_, rfl, f, 4, rfl, by decide, by decide, hF2, fun k H3 k0 k1 b3 hF3 => ?_⟩
          refine ⟨(by show 2 ≤ sizeLine; decide), fun p hp => ?_⟩
          exact q _ _ _ ((made_num k0 (big60 (Int.le_trans (Int.le_of_lt k1) (by decide)))).up (by omega)) ⟨p, rfl, upd_same⟩ ((b2.trans b3).new hp) (hF3.same (same_new hp))
      · rintro Hx ⟨e, dpos⟩
        have e2 := e.symm
        subst e2
        refine ⟨_, rfl, (by show 3 ≤ sizeLine; decide), fun g hg => ?_⟩
        refine ⟨f, g, _, rfl, hF2.ne hg, .inl (.inl upd_same), by decide, by decide, hF2.same (same_new hg), fun x hx H3 b3 hF3 => ?_⟩
        obtain ⟨wd, rfl, nw⟩ := words3 x hx
        have bb2 : But f H H3 := (b2.new hg).trans b3
        have ed : (d : Int) - 1 = ((d - 1 : Nat) : Int) := by omega
        refine ⟨_, rfl, _, rfl, _, _, rfl, rfl, _, rfl, _, rfl, f, l, ns, r, d - 1, (by show [V.ref f, V.int ((d : Int) - 1), V.ref l, V.int r] = _; rw [ed]), by omega, apart, hN.keep apart bb2, r1, hF3, fun t1 v1 H4 m1 a1 b4 hF4 => ?_⟩
        have bb3 := bb2.trans b4
        refine ⟨_, rfl, rfl, _, rfl, ?_⟩
        refine eqW (fun e => ?_) (fun ne => ?_)
        · subst e
          refine ⟨_, rfl, _, rfl, (by show 2 ≤ sizeLine; decide), fun p hp => ?_⟩
          exact q _ _ _ ((made_one next_row m1).up (by omega)) ⟨p, v1, rfl, upd_same, a1.keep (tups_same (same_new hp))⟩ (bb3.new hp) (hF4.same (same_new hp))
        · refine ⟨_, rfl, _, rfl, _, rfl, _, rfl, _, _, rfl, rfl, _, rfl, _, rfl, f, l, ns, r, d - 1, (by show [V.ref f, V.int ((d : Int) - 1), V.ref l, V.int r] = _; rw [ed]), by omega, apart, hN.keep apart bb3, r1, hF4, fun t2 v2 H5 m2 a2 b5 hF5 => ?_⟩
          refine ⟨(by show 3 ≤ sizeLine; decide), fun p hp => ?_⟩
          have k1 : At H5 t1 v1 := a1.keep (hF4.tups b5)
          exact q _ _ _ ((made_two (nw ne) m1 m2).up (by omega)) ⟨p, v1, v2, rfl, upd_same, k1.keep (tups_same (same_new hp)), a2.keep (tups_same (same_new hp))⟩ ((bb3.trans b5).new hp) (hF5.same (same_new hp))
theorem ok_smalls {f ft fp : Addr} {fd dt dp : FuncData} (F : Fun K "_law_small" "_law_small" sSmall f fd) (D : Draw P w K mg base ft fp dt dp)
    (bS : Binds K fd ["feed", "deep", "names", "around"] []) (mS : mg "_law_small" = some (.ref f)) : ∀ n : Nat, FnOk P w K mg base CX0 (3 + n) f fd ["feed", "deep", "names", "around"] (spTerm n)
  | 0 => no_calls fun vs H Q E h => by
    obtain ⟨a, l, ns, r, d, _, dn, _⟩ := h
    omega
  | n + 1 => ok_small F D (ok_smalls F D bS mS n) bS mS
/-! ### _law_flat -/
def spFlat (n : Nat) : Sp := fun vs H Q _ => ∃ (f l : Addr) (ns : List Str) (r : Int) (d : Nat), vs = [.ref f, .int (d : Int), .ref l, .int r] ∧ d + 1 ≤ n ∧ l ≠ f ∧ NmAt H l ns ∧ r ≤ 1000 ∧ FeedAt H f ∧ Out f H kS (d + 3) Q
theorem ok_flat {f ft fp fm : Addr} {fd dt dp dm : FuncData} {n : Nat} (F : Fun K "_law_flat" "_law_flat" sFlat f fd) (D : Draw P w K mg base ft fp dt dp)
    (M : FnOk P w K mg base CX0 5 fm dm ["feed", "deep", "names", "around"] (spTerm 2)) (bM : Binds K dm ["feed", "deep", "names", "around"] []) (kM : PySem.W.keepIn K (.ref fm) = true) (mM : mg "_law_small" = some (.ref fm))
    (S : FnOk P w K mg base CX0 (5 + n) f fd ["feed", "deep", "names", "around"] (spFlat n)) (bS : Binds K fd ["feed", "deep", "names", "around"] []) (mS : mg "_law_flat" = some (.ref f)) :
    FnOk P w K mg base CX0 (5 + n + 1) f fd ["feed", "deep", "names", "around"] (spFlat (n + 1)) := by
  refine F.ok scFlat (fun vs H Q E h => ?_) (fun cdv A outer s H vs Q E hr h => ?_)
  · obtain ⟨a, l, ns, r, d, rfl, _⟩ := h
    rfl
  obtain ⟨f, l, ns, r, d, rfl, dn, apart, hN, r1, hF, q⟩ := h
  have h1 : Room 1 _ := hr.mono (by omega)
  have h2 : Room 2 _ := hr.mono (by omega)
  have h5 : Room 5 _ := hr.mono (by omega)
  refine ⟨_, pss_cons (ps_set (i := 4) scFlat.nd rfl (.inl rfl) (pe_call D.T h1 (by rfl) D.mT D.kT D.bT .nil pass0 (pa_cons (pv 0) (pa_cons pe_int pa_nil))))
    (pss_cons (ps_if (PW.pt (pw_or (pt_cmpR op_eq (pv 1) pe_int (nomark _)) (pw_or1 (pt_cmpR op_lt (pv 4) pe_int (nomark _)))))
      (pss_cons (ps_if (pt_cmpR op_eq (pe_call D.T h1 (by rfl) D.mT D.kT D.bT .nil pass0 (pa_cons (pv 0) (pa_cons pe_int pa_nil))) pe_int (nomark _)) (pss_one (ps_ret (pe_tup (pa_cons pe_str pa_nil)))) pss_nil)
      (pss_cons (ps_set (i := 5) scFlat.nd rfl (.inl rfl) (pe_call M h5 (by rfl) mM kM bM .nil pass0 (pa_cons (pv 0) (pa_cons pe_int (pa_cons (pv 2) (pa_cons (pv 3) pa_nil))))))
      (pss_one (ps_ret (pe_tup (pa_cons pe_str (pa_cons (pv 5) (pa_cons (pe_call D.Pk h2 (by rfl) D.mP D.kP D.bP .nil pass0 (pa_cons (pv 0) (pa_cons (pe_lst (pa_cons (pv 5) (pa_cons (pe_call M h5 (by rfl) mM kM bM .nil pass0 (pa_cons (pv 0) (pa_cons pe_int (pa_cons (pv 2) (pa_cons (pv 3) pa_nil))))) pa_nil))) pa_nil))) pa_nil)))))))) pss_nil)
    (pss_cons (ps_set (i := 6) scFlat.nd rfl (.inl rfl) (pe_call D.Pk h2 (by rfl) D.mP D.kP D.bP .nil pass0 (pa_cons (pv 0) (pa_cons (pe_lst (pa_cons pe_str (pa_cons pe_str (pa_cons pe_str pa_nil)))) pa_nil))))
    (pss_one (ps_ret (pe_tup (pa_cons (pv 6) (pa_cons (pe_call S hr (by rfl) mS F.kp bS .nil pass0 (pa_cons (pv 0) (pa_cons (pe_op op_sub (pv 1) pe_int) (pa_cons (pv 2) (pa_cons (pv 3) pa_nil)))))
      (pa_cons (pe_call S hr (by rfl) mS F.kp bS .nil pass0 (pa_cons (pv 0) (pa_cons (pe_op op_sub (pv 1) pe_int) (pa_cons (pv 2) (pa_cons (pv 3) pa_nil))))) pa_nil)))))))), ?_⟩
  refine ⟨_, rfl, f, 7, rfl, by decide, by decide, hF, fun way H1 _ _ b1 hF1 => ?_⟩
  have hN1 := hN.keep apart b1
  apply join (C := fun H2 => H2 = H1)
  · intro flat
    apply join (C := fun H2 => H2 = H1 ∧ 0 < d)
    · intro rest
      refine ⟨_, rfl, rfl, _, rfl, ?_⟩
      refine ite2 (fun c => iteT (flat H1 rfl)) (fun c => ?_)
      have dpos : 0 < d := by
        rcases Nat.eq_zero_or_pos d with e | e
        · exact absurd (show decide (V.int (d : Int) = V.int 0) = true from decide_eq_true (by rw [e]; rfl)) c
        · exact e
      refine ⟨_, rfl, _, _, rfl, rfl, _, rfl, ?_⟩
      exact ite2 (fun _ => flat H1 rfl) (fun _ => rest H1 ⟨rfl, dpos⟩)
    · rintro Hx ⟨e, dpos⟩
      have e2 := e.symm
      subst e2
      have ed : (d : Int) - 1 = ((d - 1 : Nat) : Int) := by omega
      refine ⟨_, rfl, (by show 3 ≤ sizeLine; decide), fun g hg => ?_⟩
      refine ⟨f, g, _, rfl, hF1.ne hg, .inl (.inl upd_same), by decide, by decide, hF1.same (same_new hg), fun x hx H3 b3 hF3 => ?_⟩
      obtain ⟨wd, rfl, nw⟩ := wordsC x hx
      have bb3 := (b1.new hg).trans b3
      refine ⟨_, rfl, _, rfl, _, rfl, _, _, rfl, rfl, _, rfl, _, rfl, f, l, ns, r, d - 1, (by show [V.ref f, V.int ((d : Int) - 1), V.ref l, V.int r] = _; rw [ed]), by omega, apart, hN.keep apart bb3, r1, hF3, fun t1 v1 H4 m1 a1 b4 hF4 => ?_⟩
      have bb4 := bb3.trans b4
      refine ⟨_, rfl, _, rfl, _, _, rfl, rfl, _, rfl, _, rfl, f, l, ns, r, d - 1, (by show [V.ref f, V.int ((d : Int) - 1), V.ref l, V.int r] = _; rw [ed]), by omega, apart, hN.keep apart bb4, r1, hF4, fun t2 v2 H5 m2 a2 b5 hF5 => ?_⟩
      refine ⟨(by show 3 ≤ sizeLine; decide), fun p hp => ?_⟩
      have k1 : At H5 t1 v1 := a1.keep (hF4.tups b5)
      exact q _ _ _ ((made_two nw m1 m2).up (by omega)) ⟨p, v1, v2, rfl, upd_same, k1.keep (tups_same (same_new hp)), a2.keep (tups_same (same_new hp))⟩ ((bb4.trans b5).new hp) (hF5.same (same_new hp))
  · intro Hx e
    have e2 := e.symm
    subst e2
    refine ⟨_, rfl, f, 7, rfl, by decide, by decide, hF1, fun k H3 _ _ b3 hF3 => ?_⟩
    have bb3 := b1.trans b3
    refine ⟨rfl, _, rfl, ?_⟩
    refine ite2 (fun _ => ?_) (fun _ => ?_)
    · refine ⟨(by show 1 ≤ sizeLine; decide), fun p hp => ?_⟩
      exact q _ _ _ (made_no.up (by omega)) ⟨p, rfl, upd_same⟩ (bb3.new hp) (hF3.same (same_new hp))
    · refine ⟨_, rfl, _, rfl, _, rfl, f, l, ns, r, 1, rfl, by decide, apart, hN.keep apart bb3, r1, hF3, fun t1 v1 H4 m1 a1 b4 hF4 => ?_⟩
      have bb4 := bb3.trans b4
      refine ⟨_, rfl, _, rfl, _, rfl, _, rfl, _, rfl, _, rfl, f, l, ns, r, 1, rfl, by decide, apart, hN.keep apart bb4, r1, hF4, fun t2 v2 H5 m2 a2 b5 hF5 => ?_⟩
      have k1 : At H5 t1 v1 := a1.keep (hF4.tups b5)
      refine ⟨(by show 2 ≤ sizeLine; decide), fun g hg => ?_⟩
      have bb5 := (bb4.trans b5).new (o := .lst [v1, v2]) hg
      refine ⟨f, g, _, rfl, hF5.ne hg, .inl (.inl upd_same), (by show 0 < 2; decide), (by show 2 ≤ 1000; decide), hF5.same (same_new hg), fun x hx H6 b6 hF6 => ?_⟩
      have hF5' : FeedAt (upd H5 g (.lst [v1, v2])) f := hF5.same (same_new hg)
      have kk : Tups H5 H6 := (tups_same (same_new hg)).trans (hF5'.tups b6)
      have one : ∃ t3, Made kT 2 t3 ∧ At H6 t3 x := by
        rcases List.mem_cons.mp hx with e | e
        · exact ⟨t1, m1, by rw [e]; exact k1.keep kk⟩
        · exact ⟨t2, m2, by rw [List.mem_singleton.mp e]; exact a2.keep kk⟩
      obtain ⟨t3, m3, a3⟩ := one
      refine ⟨(by show 3 ≤ sizeLine; decide), fun p hp => ?_⟩
      exact q _ _ _ ((made_two (w := "same") same_row m1 m3).up (by omega)) ⟨p, v1, x, rfl, upd_same, (k1.keep kk).keep (tups_same (same_new hp)), a3.keep (tups_same (same_new hp))⟩ ((bb5.trans b6).new hp) (hF6.same (same_new hp))
theorem ok_flats {f ft fp fm : Addr} {fd dt dp dm : FuncData} (F : Fun K "_law_flat" "_law_flat" sFlat f fd) (D : Draw P w K mg base ft fp dt dp)
    (M : FnOk P w K mg base CX0 5 fm dm ["feed", "deep", "names", "around"] (spTerm 2)) (bM : Binds K dm ["feed", "deep", "names", "around"] []) (kM : PySem.W.keepIn K (.ref fm) = true) (mM : mg "_law_small" = some (.ref fm))
    (bS : Binds K fd ["feed", "deep", "names", "around"] []) (mS : mg "_law_flat" = some (.ref f)) : ∀ n : Nat, FnOk P w K mg base CX0 (5 + n) f fd ["feed", "deep", "names", "around"] (spFlat n)
  | 0 => no_calls fun vs H Q E h => by
    obtain ⟨a, l, ns, r, d, _, dn, _⟩ := h
    omega
  | n + 1 => ok_flat F D M bM kM mM (ok_flats F D M bM kM mM bS mS n) bS mS
/-! ### _law_seen -/
def spSeen (n : Nat) : Sp := fun vs H Q _ => ∃ (f : Addr) (d : Nat) (r left : Int), vs = [.ref f, .int (d : Int), .int r, .int left] ∧ d + 1 ≤ n ∧ r + n ≤ 1000 ∧ FeedAt H f ∧ Out f H kS (d + 4) Q
theorem no_names {H : Hp} {p : Addr} : NmAt (upd H p (.lst [])) p [] := ⟨upd_same, Nat.zero_le _, (fun z hz => by cases hz), fun z hz => by cases hz⟩
theorem ok_seen {f ft fp fm : Addr} {fd dt dp dm : FuncData} {n : Nat} (F : Fun K "_law_seen" "_law_seen" sSeen f fd) (D : Draw P w K mg base ft fp dt dp)
    (M : FnOk P w K mg base CX0 7 fm dm ["feed", "deep", "names", "around"] (spFlat 2)) (bM : Binds K dm ["feed", "deep", "names", "around"] []) (kM : PySem.W.keepIn K (.ref fm) = true) (mM : mg "_law_flat" = some (.ref fm))
    (S : FnOk P w K mg base CX0 (7 + n) f fd ["feed", "deep", "around", "left"] (spSeen n)) (bS : Binds K fd ["feed", "deep", "around", "left"] []) (mS : mg "_law_seen" = some (.ref f)) :
    FnOk P w K mg base CX0 (7 + n + 1) f fd ["feed", "deep", "around", "left"] (spSeen (n + 1)) := by
  refine F.ok scSeen (fun vs H Q E h => ?_) (fun cdv A outer s H vs Q E hr h => ?_)
  · obtain ⟨a, d, r, left, rfl, _⟩ := h
    rfl
  obtain ⟨f, d, r, left, rfl, dn, r1, hF, q⟩ := h
  have h1 : Room 1 _ := hr.mono (by omega)
  have h2 : Room 2 _ := hr.mono (by omega)
  have h7 : Room 7 _ := hr.mono (by omega)
  refine ⟨_, pss_cons (ps_set (i := 4) scSeen.nd rfl (.inl rfl) (pe_call D.T h1 (by rfl) D.mT D.kT D.bT .nil pass0 (pa_cons (pv 0) (pa_cons pe_int pa_nil))))
    (pss_cons (ps_if (PW.pt (pw_or (pt_cmpR op_eq (pv 1) pe_int (nomark _)) (pw_or1 (pt_cmpR op_lt (pv 4) pe_int (nomark _)))))
      (pss_one (ps_ret (pe_call M h7 (by rfl) mM kM bM .nil pass0 (pa_cons (pv 0) (pa_cons pe_int (pa_cons (pe_lst pa_nil) (pa_cons (pv 2) pa_nil))))))) pss_nil)
    (pss_cons (ps_if (PW.pt (pw_and (pt_cmpR op_lt (pv 4) pe_int (nomark _)) (pw_and1 (pt_cmpR op_gt (pv 3) pe_int (nomark _)))))
      (pss_one (ps_ret (pe_tup (pa_cons pe_str (pa_cons (pe_call S hr (by rfl) mS F.kp bS .nil pass0 (pa_cons (pv 0) (pa_cons (pe_op op_sub (pv 1) pe_int) (pa_cons (pe_op op_add (pv 2) pe_int) (pa_cons (pe_op op_sub (pv 3) pe_int) pa_nil))))) pa_nil))))) pss_nil)
    (pss_cons (ps_if (pt_cmpR op_eq (pv 4) pe_int (nomark _)) (pss_one (ps_ret (pe_tup (pa_cons pe_str (pa_cons (pe_call M h7 (by rfl) mM kM bM .nil pass0 (pa_cons (pv 0) (pa_cons pe_int (pa_cons (pe_lst pa_nil) (pa_cons (pv 2) pa_nil)))))
      (pa_cons (pe_call S hr (by rfl) mS F.kp bS .nil pass0 (pa_cons (pv 0) (pa_cons (pe_op op_sub (pv 1) pe_int) (pa_cons (pv 2) (pa_cons (pv 3) pa_nil))))) pa_nil)))))) pss_nil)
    (pss_cons (ps_set (i := 5) scSeen.nd rfl (.inl rfl) (pe_call D.Pk h2 (by rfl) D.mP D.kP D.bP .nil pass0 (pa_cons (pv 0) (pa_cons (pe_lst (pa_cons pe_str (pa_cons pe_str (pa_cons pe_str pa_nil)))) pa_nil))))
    (pss_one (ps_ret (pe_tup (pa_cons (pv 5) (pa_cons (pe_call S hr (by rfl) mS F.kp bS .nil pass0 (pa_cons (pv 0) (pa_cons (pe_op op_sub (pv 1) pe_int) (pa_cons (pv 2) (pa_cons (pv 3) pa_nil)))))
      (pa_cons (pe_call S hr (by rfl) mS F.kp bS .nil pass0 (pa_cons (pv 0) (pa_cons (pe_op op_sub (pv 1) pe_int) (pa_cons (pv 2) (pa_cons (pv 3) pa_nil))))) pa_nil)))))))))), ?_⟩
  refine ⟨_, rfl, f, 9, rfl, by decide, by decide, hF, fun way H1 _ _ b1 hF1 => ?_⟩
  apply join (C := fun H2 => H2 = H1)
  · intro flat
    apply join (C := fun H2 => H2 = H1 ∧ 0 < d)
    · intro rest
      refine ⟨_, rfl, rfl, _, rfl, ?_⟩
      refine ite2 (fun c => iteT (flat H1 rfl)) (fun c => ?_)
      have dpos : 0 < d := by
        rcases Nat.eq_zero_or_pos d with e | e
        · exact absurd (show decide (V.int (d : Int) = V.int 0) = true from decide_eq_true (by rw [e]; rfl)) c
        · exact e
      refine ⟨_, rfl, _, _, rfl, rfl, _, rfl, ?_⟩
      exact ite2 (fun _ => flat H1 rfl) (fun _ => rest H1 ⟨rfl, dpos⟩)
    · rintro Hx ⟨e, dpos⟩
      have e2 := e.symm
      subst e2
      have ed : (d : Int) - 1 = ((d - 1 : Nat) : Int) := by omega
      apply join (C := fun H2 => H2 = H1)
      · intro rest
        refine ⟨_, rfl, _, _, rfl, rfl, _, rfl, ?_⟩
        refine ite2 (fun _ => ?_) (fun _ => iteF (rest H1 rfl))
        refine ⟨_, rfl, _, _, rfl, rfl, _, rfl, ?_⟩
        refine ite2 (fun _ => ?_) (fun _ => rest H1 rfl)
        refine ⟨_, rfl, _, rfl, _, _, rfl, rfl, _, rfl, _, _, rfl, rfl, _, rfl, _, _, rfl, rfl, f, d - 1, r + 1, left - 1, (by show [V.ref f, V.int ((d : Int) - 1), V.int (r + 1), V.int (left - 1)] = _; rw [ed]), by omega, by omega, hF1, fun t1 v1 H4 m1 a1 b4 hF4 => ?_⟩
        refine ⟨(by show 2 ≤ sizeLine; decide), fun p hp => ?_⟩
        exact q _ _ _ ((made_one (w := "some") (by decide +kernel) m1).up (by omega)) ⟨p, v1, rfl, upd_same, a1.keep (tups_same (same_new hp))⟩ ((b1.trans b4).new hp) (hF4.same (same_new hp))
      · intro Hx e
        have e2 := e.symm
        subst e2
        refine ⟨_, rfl, rfl, _, rfl, ?_⟩
        refine ite2 (fun _ => ?_) (fun _ => ?_)
        · refine ⟨_, rfl, Nat.zero_le _, fun g hg => ⟨_, rfl, f, g, [], r, 1, rfl, by decide, hF1.ne hg, no_names, by omega, hF1.same (same_new hg), fun t1 v1 H4 m1 a1 b4 hF4 => ?_⟩⟩
          have bb4 := (b1.new hg).trans b4
          refine ⟨_, rfl, _, rfl, _, _, rfl, rfl, _, rfl, _, rfl, f, d - 1, r, left, (by show [V.ref f, V.int ((d : Int) - 1), V.int r, V.int left] = _; rw [ed]), by omega, by omega, hF4, fun t2 v2 H5 m2 a2 b5 hF5 => ?_⟩
          refine ⟨(by show 3 ≤ sizeLine; decide), fun p hp => ?_⟩
          have k1 : At H5 t1 v1 := a1.keep (hF4.tups b5)
          exact q _ _ _ (((made_two (w := "if") (by decide +kernel) (m1.up (by omega)) m2)).up (by omega)) ⟨p, v1, v2, rfl, upd_same, k1.keep (tups_same (same_new hp)), a2.keep (tups_same (same_new hp))⟩ ((bb4.trans b5).new hp) (hF5.same (same_new hp))
        · refine ⟨_, rfl, (by show 3 ≤ sizeLine; decide), fun g hg => ?_⟩
          refine ⟨f, g, _, rfl, hF1.ne hg, .inl (.inl upd_same), by decide, by decide, hF1.same (same_new hg), fun x hx H3 b3 hF3 => ?_⟩
          obtain ⟨wd, rfl, nw⟩ := wordsD x hx
          have bb3 := (b1.new hg).trans b3
          refine ⟨_, rfl, _, rfl, _, rfl, _, _, rfl, rfl, _, rfl, _, rfl, f, d - 1, r, left, (by show [V.ref f, V.int ((d : Int) - 1), V.int r, V.int left] = _; rw [ed]), by omega, by omega, hF3, fun t1 v1 H4 m1 a1 b4 hF4 => ?_⟩
          have bb4 := bb3.trans b4
          refine ⟨_, rfl, _, rfl, _, _, rfl, rfl, _, rfl, _, rfl, f, d - 1, r, left, (by show [V.ref f, V.int ((d : Int) - 1), V.int r, V.int left] = _; rw [ed]), by omega, by omega, hF4, fun t2 v2 H5 m2 a2 b5 hF5 => ?_⟩
          refine ⟨(by show 3 ≤ sizeLine; decide), fun p hp => ?_⟩
          have k1 : At H5 t1 v1 := a1.keep (hF4.tups b5)
          exact q _ _ _ ((made_two nw m1 m2).up (by omega)) ⟨p, v1, v2, rfl, upd_same, k1.keep (tups_same (same_new hp)), a2.keep (tups_same (same_new hp))⟩ ((bb4.trans b5).new hp) (hF5.same (same_new hp))
  · intro Hx e
    have e2 := e.symm
    subst e2
    refine ⟨_, rfl, Nat.zero_le _, fun g hg => ⟨_, rfl, f, g, [], r, 1, rfl, by decide, hF1.ne hg, no_names, by omega, hF1.same (same_new hg), fun t1 v1 H4 m1 a1 b4 hF4 => ?_⟩⟩
    exact q _ _ _ (m1.up (by omega)) a1 ((b1.new hg).trans b4) hF4
theorem ok_seens {f ft fp fm : Addr} {fd dt dp dm : FuncData} (F : Fun K "_law_seen" "_law_seen" sSeen f fd) (D : Draw P w K mg base ft fp dt dp)
    (M : FnOk P w K mg base CX0 7 fm dm ["feed", "deep", "names", "around"] (spFlat 2)) (bM : Binds K dm ["feed", "deep", "names", "around"] []) (kM : PySem.W.keepIn K (.ref fm) = true) (mM : mg "_law_flat" = some (.ref fm))
    (bS : Binds K fd ["feed", "deep", "around", "left"] []) (mS : mg "_law_seen" = some (.ref f)) : ∀ n : Nat, FnOk P w K mg base CX0 (7 + n) f fd ["feed", "deep", "around", "left"] (spSeen n)
  | 0 => no_calls fun vs H Q E h => by
    obtain ⟨a, d, r, left, _, dn, _⟩ := h
    omega
  | n + 1 => ok_seen F D M bM kM mM (ok_seens F D M bM kM mM bS mS n) bS mS
end
end Kf
set_option Elab.async false
set_option linter.all false
set_option maxRecDepth 100000
set_option maxHeartbeats 4000000
set_option pp.maxSteps 400
/-! k40: sayings_of, is_flat, is_seen, and the law's own looks. -/
namespace Kf
open PySem PySem.Spec PyProof.Rows L2 Sx RZ
/-! ### list.extend by a list or a tuple -/
theorem ext_tup (l b : Addr) (xs ys : Array Value) (n m : Nat) (dd : Option Addr) (sl : Array (Option Value)) (long : ¬(!xs.isEmpty && Builtin.List.listTooLong (xs.size + ys.size)) = true) (fits : xs.size ≤ sizeLine)
    (fits2 : xs.size + ys.size ≤ sizeLine + 1) :
    Meets (Builtin.«list.extend» ⟨[.ref l, .ref b], []⟩) (fun _ R s => s.heap.get? l = some { cls := .type "list", data := .seq xs n } ∧ s.heap.get? b = some { cls := .type "tuple", dict := dd, data := .seq ys m, slots := sl } ∧
      R (.ok (.ret Value.none)) { s with heap := s.heap.update l (Obj.mapSeq fun x => x ++ ys), toks := s.toks }) := by
  refine .of_wp fun prog w A R s h => ?_
  obtain ⟨hp, g, d, tk, os⟩ := s
  obtain ⟨hl, hb, h⟩ := h
  have f1 := AutoSeq1.idx_int
  have f2 := AutoSeq1.sub_tuple_tuple
  have f3 := AutoSeq1.sub_list_list
  have f4 := AutoSeq1.sub_tuple_list
  have f5 := AutoSeq1.sub_list_tuple
  have both : (xs ++ ys).size ≤ sizeLine + 1 := by
    rw [Array.size_append]
    exact fits2
  wp_walk using (wpAny_updateSeq hl rfl (hz := fits) (_hz' := both)), wpAny_loadPart' hb
  exact ⟨_, rfl, h⟩
def rExtA : V → List V → Hp → VK → Prop := fun x vs H Q => ∃ l b xs zs, x = .ref l ∧ vs = [.ref b] ∧ H l = some (.lst xs) ∧ (H b = some (.lst zs) ∨ H b = some (.tup zs)) ∧ xs.length + zs.length ≤ sizeLine ∧ Q .non (upd H l (.lst (xs ++ zs)))
theorem mt_extA {X : Cx} : MtM X "list.extend" rExtA := by
  intro pins s σ H x vs v us Q I rx rv h
  obtain ⟨l, b, xs, zs, rfl, rfl, hH, hB, hz, q⟩ := h
  rcases hB with hB | hB
  · exact mt_extend pins s σ H _ _ v us Q I rx rv ⟨l, b, xs, zs, rfl, rfl, hH, hB, hz, q⟩
  cases rx
  obtain ⟨u, rfl, ru⟩ := rv.one
  cases ru
  obtain ⟨_, its, n, r, hl, e⟩ := I.lstM hH
  obtain ⟨_, its2, r2, o2, e2, c2, m2, d2⟩ := I.hok b _ hB
  have hl2 := r2.length
  obtain ⟨oc, od, oda, osl⟩ := o2
  dsimp only at c2 d2
  subst c2
  subst d2
  have hsz : its.toArray.size + its2.toArray.size ≤ sizeLine := by
    rw [List.size_toArray, List.size_toArray]
    omega
  refine call_meets PySem.F.slot_list_extend ⟨_, e, rfl⟩ PySem.F.entry_list_extend (PySem.F.args_list_extend_2 _ _)
    (ext_tup l b its.toArray its2.toArray n m2 od osl (by rw [notLongL hsz, Bool.and_false]; exact Bool.false_ne_true) (by rw [List.size_toArray]; omega) (by omega)) ⟨e, e2, ?_⟩
  refine ⟨.non, _, I.lset (its' := its ++ its2) hH e (by simp) (r.append r2) ?_, rfl, q⟩
  rw [List.length_append]
  omega
/-! ### a comprehension over zip of two tuples -/
theorem lc_zipT {K : PySem.W.Frag} {a b : Addr} {xs ys : List V} {g : TG} {tt : TT} {te : TE} {vs : List Nat} {σ : L2.St} {H1 : Hp} {D : Addr} {Qd : Hp → Prop} (hl : xs.length = ys.length) (Pv : Nat → Hp → Prop) (h0 : Pv 0 (upd H1 D (.lst []))) (hq : ∀ i H, Pv i H → SqT K H a xs ∧ SqT K H b ys)
    (hs : ∀ i x y T H, xs[i]? = some x → ys[i]? = some y → Pv i H → H T = none → g (.ref T) (wipe σ vs) (upd H T (.tup [x, y])) fun σ2 H2 => wipe σ2 vs = wipe σ vs ∧ tt σ2 H2 fun b H3 =>
      if b = true then te σ2 H3 fun y H4 => ∃ acc, H4 D = some (.lst acc) ∧ acc.length < sizeLine ∧ Pv (i + 1) (upd H4 D (.lst (acc ++ [y]))) else Pv (i + 1) H3) (hd : ∀ H, Pv xs.length H → Qd H) :
    ∃ W : Nat → Nat → Hp → Prop, (∃ m, W 0 m (upd H1 D (.lst []))) ∧ ∀ i m H, W i m H →
      ((ItzT K a b).stop i H ∧ Qd H) ∨ ((ItzT K a b).go i H ∧ ∃ Nx : Hp → Prop, (∀ H', Nx H' → ∃ m', m' < m ∧ W (i + 1) m' H') ∧ ∀ x H', (ItzT K a b).yld i H x H' → g x (wipe σ vs) H' fun σ2 H2 => wipe σ2 vs = wipe σ vs ∧ tt σ2 H2 fun b H3 =>
        if b = true then te σ2 H3 fun y H4 => ∃ acc, H4 D = some (.lst acc) ∧ acc.length < sizeLine ∧ Nx (upd H4 D (.lst (acc ++ [y]))) else Nx H3) := by
  refine ⟨fun i m H => m = xs.length - i ∧ i ≤ xs.length ∧ Pv i H, ⟨xs.length, by simp, Nat.zero_le _, h0⟩, ?_⟩
  rintro i m H ⟨rfl, hi, p⟩
  obtain ⟨q1, q2⟩ := hq i H p
  by_cases lt : i < xs.length
  · have lt2 : i < ys.length := by omega
    refine .inr ⟨⟨xs, ys, xs[i], ys[i], q1, q2, List.getElem?_eq_getElem lt, List.getElem?_eq_getElem lt2⟩, Pv (i + 1), fun H' p' => ⟨xs.length - (i + 1), by omega, rfl, lt, p'⟩, fun x H' y => ?_⟩
    obtain ⟨T, x1, y1, rfl, nT, rfl, e1, e2⟩ := y
    exact hs i x1 y1 T H (e1 xs q1) (e2 ys q2) p nT
  · exact .inl ⟨⟨xs, ys, q1, q2, .inl (by omega)⟩, hd H (by rw [show xs.length = i by omega]; exact p)⟩
/-! ### sayings in a saying; flat ones, seen ones -/
def Tr.says : Tr → List Tr
  | .leaf _ _ => []
  | .n0 _ => []
  | .n1 _ a => [a]
  | .n2 w a b => if w = "same" then [] else [a, b]
def flatB : Tr → Bool
  | .leaf _ _ => false
  | .n0 _ => true
  | .n1 _ _ => false
  | .n2 w a b => if w = "same" then true else if w = "or" then false else flatB a && flatB b
def seenB : Tr → Bool
  | .leaf _ _ => false
  | .n0 _ => true
  | .n1 w a => if w = "all" then false else seenB a
  | .n2 w a b => if w = "same" then true else if w = "if" then flatB a && seenB b else seenB a && seenB b
theorem flat_seen : ∀ t : Tr, flatB t = true → seenB t = true
  | .leaf _ _, h => by cases h
  | .n0 _, _ => rfl
  | .n1 _ _, h => by cases h
  | .n2 w a b, h => by
    unfold flatB at h
    unfold seenB
    split
    · rfl
    · rename_i c
      rw [if_neg c] at h
      split at h
      · cases h
      · rw [Bool.and_eq_true] at h
        have h2 := flat_seen b h.2
        split
        · rw [h.1, h2]
          rfl
        · rw [flat_seen a h.1, h2]
          rfl
/-- rows of sayings -/
theorem row0 : ∀ e ∈ table, e.2.1 = kS → e.2.2 = [] → e.1 = "no" := by decide +kernel
theorem row1 : ∀ e ∈ table, e.2.1 = kS → ∀ k ∈ ([kS, kT] : List Str), e.2.2 = [k] → k = kS ∧ (e.1 = "all" ∨ e.1 = "some") := by decide +kernel
theorem row2 : ∀ e ∈ table, e.2.1 = kS → e.2.2.length = 2 → (e.1 = "same" ∧ e.2.2 = [kT, kT]) ∨ ((e.1 = "and" ∨ e.1 = "or" ∨ e.1 = "if") ∧ e.2.2 = [kS, kS]) := by decide +kernel
theorem rowk : ∀ e ∈ table, ∀ k ∈ e.2.2, k ∈ ([kS, kT] : List Str) := by decide +kernel
theorem wf_one {w : Str} {a : Tr} (h : (Tr.n1 w a).Wf kS) : (w = "all" ∨ w = "some") ∧ a.Wf kS ∧ (w, kS, [kS]) ∈ table := by
  obtain ⟨k1, hr, ha⟩ := h
  obtain ⟨e, z⟩ := row1 _ hr rfl k1 (rowk _ hr k1 List.mem_cons_self) rfl
  subst e
  exact ⟨z, ha, hr⟩
theorem wf_two {w : Str} {a b : Tr} (h : (Tr.n2 w a b).Wf kS) : (w = "same" ∧ a.Wf kT ∧ b.Wf kT) ∨ (w ≠ "same" ∧ (w = "and" ∨ w = "or" ∨ w = "if") ∧ a.Wf kS ∧ b.Wf kS ∧ (w, kS, [kS, kS]) ∈ table) := by
  obtain ⟨k1, k2, hr, ha, hb⟩ := h
  rcases row2 _ hr rfl rfl with ⟨e, z⟩ | ⟨e, z⟩
  · have z2 : [k1, k2] = [kT, kT] := z
    injection z2 with z3 z4
    injection z4 with z4
    subst z3 z4
    exact .inl ⟨e, ha, hb⟩
  · have z2 : [k1, k2] = [kS, kS] := z
    injection z2 with z3 z4
    injection z4 with z4
    subst z3 z4
    have e : w = "and" ∨ w = "or" ∨ w = "if" := e
    refine .inr ⟨fun q => ?_, e, ha, hb, hr⟩
    subst q
    exact absurd e (by decide +kernel)
theorem wf_says {t : Tr} (h : t.Wf kS) : ∀ a ∈ t.says, a.Wf kS := by
  cases t with
  | leaf w x => intro a z; cases z
  | n0 w => intro a z; cases z
  | n1 w b =>
    intro a z
    rw [List.mem_singleton.mp z]
    exact (wf_one h).2.1
  | n2 w b c =>
    intro a z
    have z : a ∈ (if w = "same" then [] else [b, c]) := z
    split at z
    · cases z
    · rename_i ne
      rcases wf_two h with ⟨e, _⟩ | ⟨_, _, h1, h2, _⟩
      · exact absurd e ne
      · rcases List.mem_cons.mp z with z | z
        · rw [z]
          exact h1
        · rw [List.mem_singleton.mp z]
          exact h2
def keepS (ts : List Tr) (ks : List Str) (i : Nat) : List Tr := (((ts.zip ks).take i).filter fun p => decide (p.2 = kS)).map (·.1)
theorem keep_says {t : Tr} (h : t.Wf kS) (nl : leafy t.word = false) : ∃ ks, (t.word, kS, ks) ∈ table ∧ t.kids.length = ks.length ∧ keepS t.kids ks t.kids.length = t.says := by
  cases t with
  | leaf w x => exact (no_leaf nl (wf_ok (t := .leaf w x) h).1).elim
  | n0 w => exact ⟨[], h, rfl, rfl⟩
  | n1 w a => exact ⟨[kS], (wf_one h).2.2, rfl, rfl⟩
  | n2 w a b =>
    rcases wf_two h with ⟨e, _⟩ | ⟨ne, _, _, _, hr⟩
    · subst e
      exact ⟨[kT, kT], same_row, rfl, rfl⟩
    · refine ⟨[kS, kS], hr, rfl, ?_⟩
      show [a, b] = if w = "same" then [] else [a, b]
      rw [if_neg ne]
theorem keep_next {ts : List Tr} {ks : List Str} {i : Nat} {t : Tr} {k : Str} (ht : ts[i]? = some t) (hk : ks[i]? = some k) : keepS ts ks (i + 1) = keepS ts ks i ++ (if k = kS then [t] else []) := by
  have hz : (ts.zip ks)[i]? = some (t, k) := List.getElem?_zip_eq_some.mpr ⟨ht, hk⟩
  unfold keepS
  rw [List.take_add_one, hz]
  by_cases c : k = kS
  · simp [c]
  · simp [c]
/-! ### what the top has -/
abbrev sOf : Stmt := top 2
abbrev sFlatQ : Stmt := top 5
abbrev sSeenQ : Stmt := top 6
abbrev sLF : Stmt := top 17
abbrev sLS : Stmt := top 18
abbrev ofN : List Str := ["saying", "part", "what"]
theorem scOf : FnScope ofN ["saying"] (defScope sOf) := ⟨rfl, rfl, rfl, by decide +kernel, rfl, by decide +kernel, by decide +kernel⟩
theorem scFlatQ : FnScope ["saying", "todo", "piece"] ["saying"] (defScope sFlatQ) := ⟨rfl, rfl, rfl, by decide +kernel, rfl, by decide +kernel, by decide +kernel⟩
theorem scSeenQ : FnScope ["saying", "todo", "piece"] ["saying"] (defScope sSeenQ) := ⟨rfl, rfl, rfl, by decide +kernel, rfl, by decide +kernel, by decide +kernel⟩
theorem scLF : FnScope ["saying"] ["saying"] (defScope sLF) := ⟨rfl, rfl, rfl, by decide +kernel, rfl, by decide +kernel, by decide +kernel⟩
theorem scLS : FnScope ["saying"] ["saying"] (defScope sLS) := ⟨rfl, rfl, rfl, by decide +kernel, rfl, by decide +kernel, by decide +kernel⟩
abbrev flatVs : List V := [.str "same", .str "no", .str "and", .str "if"]
structure Txt (K : PySem.W.Frag) (w : World) (mg : Str → Option Value) (F FL : Addr) : Prop where
  mF : mg "FORMS" = some (.ref F)
  mL : mg "FLAT" = some (.ref FL)
  flat : ∀ H, SqT K H FL flatVs
  dict : ∃ es n, KDict K w F es n
  form : ∀ wd k ks, (wd, k, ks) ∈ table → ∃ fa fb, PySem.W.nsIn K F wd = some (some (.ref fa)) ∧ (∀ H, SqT K H fa [.str k, .ref fb]) ∧ ∀ H, SqT K H fb (ks.map V.str)
  zZip : mg "zip" = none
theorem head_at (x : V) (us : List V) : atI (x :: us) 0 = some x := atI_nat (j := 0) rfl
theorem cut_one (x : V) (r : List V) : cutV (x :: r) (some 1) none = r := by
  unfold cutV
  have e1 : HT.sIx (x :: r).length 0 (some 1) = 1 := by
    rw [show HT.sIx (x :: r).length 0 (some 1) = min 1 (x :: r).length from HT.sIx_nat _ 0 1, List.length_cons]
    omega
  rw [e1, HT.sIx_none]
  show List.take ((x :: r).length - 1) r = r
  rw [List.length_cons, Nat.add_sub_cancel]
  exact List.take_length
theorem cut_not (x : V) (r : List V) : ¬ (HT.sIx (x :: r).length 0 (some 1) = 0 ∧ HT.sIx (x :: r).length (x :: r).length none = (x :: r).length) := by
  intro h
  have e1 : HT.sIx (x :: r).length 0 (some 1) = 1 := by
    rw [show HT.sIx (x :: r).length 0 (some 1) = min 1 (x :: r).length from HT.sIx_nat _ 0 1, List.length_cons]
    omega
  rw [e1] at h
  exact absurd h.1 (by decide)
theorem same_up {H H1 : Hp} {D : Addr} {o : HO} (s : Same H H1) (n : H D = none) : Same H (upd H1 D o) := fun b u e => by
  rw [upd_ne (ne_of_none e n)]
  exact s _ _ e
theorem line_of {n : Nat} (h : n ≤ 8192) : n < sizeLine := Nat.lt_of_le_of_lt h (by decide)
section
variable {P : Program} {w : World} {K : PySem.W.Frag} {mg : Str → Option Value} {base : Heap} {FV FL : Addr}
/-! ### sayings_of -/
def spOf : Sp := fun vs H Q _ => ∃ (v : V) (t : Tr), vs = [v] ∧ At H t v ∧ t.Wf kS ∧ ∀ (p : Addr) (H' : Hp) (ws : List V), Same H H' → H p = none → H' p = some (.lst ws) → All2 (At H') t.says ws → Q (.ref p) H'
theorem nleaf {t : Tr} (h : t.Wf kS) : leafy t.word = false := by
  cases t with
  | leaf w x => exact absurd h.1 (by decide +kernel)
  | n0 w => exact table_leafy _ h
  | n1 w a => exact table_leafy _ (wf_one h).2.2
  | n2 w a b => exact (wf_ok h).1
theorem ok_of {f : Addr} {fd : FuncData} {j : Nat} (F : Fun K "sayings_of" "sayings_of" sOf f fd) (T : Txt K w mg FV FL) : FnOk P w K mg base CX0 (j + 1) f fd ["saying"] spOf := by
  obtain ⟨es, n, D⟩ := T.dict
  refine F.ok scOf (fun vs H Q E h => ?_) (fun cdv A outer s H vs Q E hr h => ?_)
  · obtain ⟨v, t, rfl, _⟩ := h
    rfl
  obtain ⟨v, t, rfl, hA, hW, q⟩ := h
  refine ⟨_, pss_one (ps_ret (pe_lc (own := [("part", 1), ("what", 2)]) (g := gTup K 2 (gCons (gName 1) (gCons (gName 2) gNil))) (tt := _) rfl scOf.nd
    (pi_zipA (by rfl) T.zZip (pa_cons (pe_slice sl_tup (pv 0) (po_some pe_int) po_none) (pa_cons (pe_ix ix_tup (pe_ix ix_kdict (pe_glob (v := .ref FV) (by rfl) T.mF rfl) (pe_ix ix_tup (pv 0) pe_int (fun _ _ => rfl)) (fun _ _ => rfl)) pe_int (fun _ _ => rfl)) pa_nil)))
    (blkOk_by (N := ofN) (sc := defScope sOf) (by decide +kernel)) (fun _ _ _ _ _ => pg_tup (by rfl) (pgs_cons (pg_name (i := 1) scOf.nd rfl (Or.inl rfl)) (pgs_cons (pg_name (i := 2) scOf.nd rfl (Or.inl rfl)) pgs_nil)))
    (fun _ _ _ _ _ => pts_one (pt_cmpR op_eq (pv 2) pe_str (nomark _))) (fun _ _ _ _ _ => pv 1))), ?_⟩
  have hO := wf_ok hW
  have nl := nleaf hW
  obtain ⟨p1, us, rfl, hp1, lus, kids, leafs⟩ := hA.view hO
  have kd := kids nl
  obtain ⟨ks, hrow, hlen, hks⟩ := keep_says hW nl
  obtain ⟨fa, fb, n1, sa, sb⟩ := T.form _ _ _ hrow
  have lenU : us.length = (ks.map V.str).length := by
    rw [List.length_map, ← hlen]
    exact kd.len.symm
  refine ⟨_, rfl, 1, rfl, p1, _, rfl, .inl (.inl hp1), cut_not _ _, fun c nc => ?_⟩
  rw [cut_one]
  have s1 : Same H (upd H c (.tup us)) := same_new nc
  refine ⟨_, rfl, p1, _, 0, _, rfl, rfl, .inl (.inl (s1 _ _ hp1)), head_at _ _, FV, _, .ref fa, rfl, rfl, ⟨es, n, _, D.at_, D.lit, n1, rfl⟩, fa, _, 1, .ref fb, rfl, rfl, sa _, atI_nat (j := 1) rfl, ?_⟩
  refine ⟨c, fb, us, ks.map V.str, rfl, .inr ⟨.inl (.inl upd_same), sb _, fun D nD => ?_⟩⟩
  generalize hHc : upd H c (.tup us) = Hc at s1 nD
  have hc : Hc c = some (.tup us) := by rw [← hHc, upd_same]
  refine lc_zipT (K := K) (xs := us) (ys := ks.map V.str) lenU (fun i H' => ∃ acc : List V, H' D = some (.lst acc) ∧ Same Hc H' ∧ All2 (At H') (keepS t.kids ks i) acc)
    ⟨[], upd_same, same_new nD, .nil⟩ (fun i H' ⟨_, _, sm, _⟩ => ⟨.inl (.inl (sm _ _ hc)), sb _⟩) ?_ ?_
  · rintro i x y T2 H' hx hy ⟨acc, hD, sm, all⟩ nT
    obtain ⟨tk, htk, hax⟩ := kd.get hx
    rw [List.getElem?_map] at hy
    obtain ⟨kk, hkk, rfl⟩ := Option.map_eq_some_iff.mp hy
    have sT : Same H' (upd H' T2 (.tup [x, .str kk])) := same_new nT
    refine ⟨T2, [x, .str kk], rfl, .inl (.inl upd_same), rfl, x, [.str kk], rfl, .str kk, [], rfl, rfl, rfl, ?_⟩
    have all2 := all.mono fun a v h => h.keep (tups_same sT)
    refine ⟨_, rfl, rfl, _, rfl, ?_⟩
    have nx := keep_next htk hkk
    refine eqW (fun e => ?_) (fun ne => ?_)
    · rw [if_pos e] at nx
      have la := all.len
      have lk : (keepS t.kids ks i).length ≤ 2 := by
        unfold keepS
        rw [List.length_map]
        refine Nat.le_trans (List.length_filter_le _ _) (Nat.le_trans (List.length_take_le' _ _) ?_)
        rw [List.length_zip, kd.len]
        omega
      refine ⟨_, rfl, acc, sT _ _ hD, line_of (by omega), acc ++ [x], upd_same, same_up (sm.trans sT) nD, ?_⟩
      rw [nx]
      have k2 : Tups (upd H' T2 (.tup [x, .str kk])) (upd (upd H' T2 (.tup [x, .str kk])) D (.lst (acc ++ [x]))) := tups_put fun xs z => by
        rw [sT _ _ hD] at z
        cases z
      exact (all2.mono fun a v h => h.keep k2).app (.one ((((hax.keep (tups_same s1)).keep (tups_same sm)).keep (tups_same sT)).keep k2))
    · rw [if_neg ne, List.append_nil] at nx
      refine ⟨acc, sT _ _ hD, sm.trans sT, ?_⟩
      rw [nx]
      exact all2
  · rintro H' ⟨acc, hD, sm, all⟩
    rw [← kd.len, hks] at all
    exact q D H' acc (s1.trans sm) (s1.free nD) hD all
end
end Kf
set_option Elab.async false
set_option linter.all false
set_option maxRecDepth 100000
set_option maxHeartbeats 4000000
set_option pp.maxSteps 400
/-! k40: is_flat, is_seen. -/
namespace Kf
open PySem PySem.Spec PyProof.Rows L2 Sx RZ
/-! ### steps -/
theorem flat_step {t : Tr} (h : t.Wf kS) : flatB t = (inV (.str t.word) flatVs && t.says.all flatB) := by
  cases t with
  | leaf w x => exact absurd h.1 (by decide +kernel)
  | n0 w =>
    have e : w = "no" := row0 _ h rfl rfl
    subst e
    decide +kernel
  | n1 w a =>
    rcases (wf_one h).1 with e | e <;> subst e <;> rfl
  | n2 w a b =>
    rcases wf_two h with ⟨e, _⟩ | ⟨ne, e, _⟩
    · subst e
      rfl
    · have e2 : Tr.says (.n2 w a b) = [a, b] := if_neg ne
      rw [e2]
      rcases e with e | e | e <;> subst e
      · show (flatB a && flatB b) = (true && (flatB a && (flatB b && true)))
        rw [Bool.and_true, Bool.true_and]
      · rfl
      · show (flatB a && flatB b) = (true && (flatB a && (flatB b && true)))
        rw [Bool.and_true, Bool.true_and]
/-- what is still to be gone through of a piece -/
def Tr.rest : Tr → List Tr
  | .n2 w a b => if w = "if" then [b] else Tr.says (.n2 w a b)
  | t => t.says
theorem seen_if {a b : Tr} : seenB (.n2 "if" a b) = (flatB a && seenB b) := rfl
theorem seen_step {t : Tr} (h : t.Wf kS) (na : t.word ≠ "all") (ni : t.word ≠ "if") : seenB t = t.says.all seenB := by
  cases t with
  | leaf w x => exact absurd h.1 (by decide +kernel)
  | n0 w => rfl
  | n1 w a =>
    show (if w = "all" then false else seenB a) = (seenB a && true)
    rw [if_neg (show ¬ w = "all" from na), Bool.and_true]
  | n2 w a b =>
    rcases wf_two h with ⟨e, _⟩ | ⟨ne, e, _⟩
    · subst e
      rfl
    · have e2 : Tr.says (.n2 w a b) = [a, b] := if_neg ne
      rw [e2]
      show (if w = "same" then true else if w = "if" then flatB a && seenB b else seenB a && seenB b) = (seenB a && (seenB b && true))
      rw [if_neg ne, if_neg (show ¬ w = "if" from ni), Bool.and_true]
theorem seen_all {t : Tr} (h : t.Wf kS) (e : t.word = "all") : seenB t = false := by
  cases t with
  | leaf w x => exact absurd h.1 (by decide +kernel)
  | n0 w =>
    have e2 : w = "no" := row0 _ h rfl rfl
    have e : w = "all" := e
    rw [e2] at e
    exact absurd e (by decide +kernel)
  | n1 w a =>
    have e : w = "all" := e
    subst e
    rfl
  | n2 w a b =>
    have e : w = "all" := e
    subst e
    rcases wf_two h with ⟨e, _⟩ | ⟨_, e, _⟩ <;> exact absurd e (by decide +kernel)
theorem is_if {t : Tr} (h : t.Wf kS) (e : t.word = "if") : ∃ a b, t = .n2 "if" a b ∧ a.Wf kS ∧ b.Wf kS := by
  cases t with
  | leaf w x => exact absurd h.1 (by decide +kernel)
  | n0 w =>
    have e2 : w = "no" := row0 _ h rfl rfl
    have e : w = "if" := e
    rw [e2] at e
    exact absurd e (by decide +kernel)
  | n1 w a =>
    have e : w = "if" := e
    subst e
    rcases (wf_one h).1 with e | e <;> exact absurd e (by decide +kernel)
  | n2 w a b =>
    have e : w = "if" := e
    subst e
    rcases wf_two h with ⟨e, _⟩ | ⟨_, _, h1, h2, _⟩
    · exact absurd e (by decide +kernel)
    · exact ⟨a, b, rfl, h1, h2⟩
def sumS (ts : List Tr) : Nat := (ts.map Tr.size).sum
theorem sumS_app (a b : List Tr) : sumS (a ++ b) = sumS a + sumS b := by
  unfold sumS
  rw [List.map_append, List.sum_append]
theorem sumS_one (t : Tr) : sumS [t] = t.size := by
  unfold sumS
  simp
theorem says_sum (t : Tr) : sumS t.says + 1 ≤ t.size := by
  cases t with
  | leaf w x => exact Nat.le_refl 1
  | n0 w => exact Nat.le_refl 1
  | n1 w a =>
    show sumS [a] + 1 ≤ a.size + 1
    rw [sumS_one]
    exact Nat.le_refl _
  | n2 w a b =>
    show sumS (if w = "same" then [] else [a, b]) + 1 ≤ a.size + b.size + 1
    split
    · exact Nat.le_add_left 1 _
    · show [a.size, b.size].sum + 1 ≤ _
      simp
theorem size_pos : ∀ t : Tr, 1 ≤ t.size
  | .leaf _ _ => Nat.le_refl 1
  | .n0 _ => Nat.le_refl 1
  | .n1 _ _ => Nat.le_add_left 1 _
  | .n2 _ _ _ => Nat.le_add_left 1 _
theorem sumS_len (ts : List Tr) : ts.length ≤ sumS ts := by
  induction ts with
  | nil => exact Nat.zero_le _
  | cons e es ih =>
    have h := size_pos e
    have e1 : sumS (e :: es) = e.size + sumS es := by
      unfold sumS
      rw [List.map_cons, List.sum_cons]
    rw [e1, List.length_cons]
    omega
/-- between two turns -/
structure Turn (fl : Tr → Bool) (H H' : Hp) (pt : Addr) (t : Tr) (m : Nat) (es : List Tr) (vt : List V) : Prop where
  same : Same H H'
  lt : H' pt = some (.lst vt)
  rt : All2 (At H') es vt
  wf : ∀ e ∈ es, e.Wf kS
  all : es.all fl = fl t
  m : m = sumS es
  few : sumS es ≤ 4000
theorem Turn.step {fl : Tr → Bool} {H H1 H2 : Hp} {pt : Addr} {t t1 : Tr} {m : Nat} {es0 ts : List Tr} {vt0 ws : List V} {x : V} (T : Turn fl H H1 pt t m (es0 ++ [t1]) (vt0 ++ [x])) (new : H pt = none) (sm : Same (upd H1 pt (.lst vt0)) H2) (all : All2 (At H2) ts ws) (wf : ∀ a ∈ ts, a.Wf kS)
    (few : sumS ts + 1 ≤ t1.size) (e : fl t1 = ts.all fl) : ∃ m', m' < m ∧ Turn fl H (upd H2 pt (.lst (vt0 ++ ws))) pt t m' (es0 ++ ts) (vt0 ++ ws) := by
  have h2 : H2 pt = some (.lst vt0) := sm _ _ upd_same
  have k0 : Tups H1 (upd H1 pt (.lst vt0)) := tups_put fun xs z => by
    rw [T.lt] at z
    cases z
  have k1 : Tups H2 (upd H2 pt (.lst (vt0 ++ ws))) := tups_put fun xs z => by
    rw [h2] at z
    cases z
  obtain ⟨k, y, ek, all0, hy⟩ := T.rt.last
  have e0 : k = es0 := List.append_inj_left' ek.symm rfl
  subst e0
  have s1 := T.few
  have s2 := T.m
  rw [sumS_app, sumS_one] at s1 s2
  refine ⟨sumS (k ++ ts), by rw [sumS_app]; omega, fun b u q => ?_, upd_same, ((all0.mono fun a v h => h.keep ((k0.trans (tups_same sm)).trans k1)).app (all.mono fun a v h => h.keep k1)), fun a ha => ?_, ?_, rfl, by rw [sumS_app]; omega⟩
  · have nb := ne_of_none q new
    rw [upd_ne nb]
    refine sm _ _ ?_
    rw [upd_ne nb]
    exact T.same _ _ q
  · rcases List.mem_append.mp ha with z | z
    · exact T.wf a (List.mem_append.mpr (.inl z))
    · exact wf a z
  · have q := T.all
    rw [List.all_append] at q ⊢
    rw [← q, show [t1].all fl = fl t1 by simp, e]
theorem Turn.no {fl : Tr → Bool} {H H1 : Hp} {pt : Addr} {t t1 : Tr} {m : Nat} {es0 : List Tr} {vt : List V} (T : Turn fl H H1 pt t m (es0 ++ [t1]) vt) (e : fl t1 = false) : fl t = false := by
  rw [← T.all, List.all_append, show [t1].all fl = fl t1 by simp, e, Bool.and_false]
section
variable {P : Program} {w : World} {K : PySem.W.Frag} {mg : Str → Option Value} {base : Heap} {FV FL : Addr}
def spQ (fl : Tr → Bool) : Sp := fun vs H Q _ => ∃ (v : V) (t : Tr), vs = [v] ∧ At H t v ∧ t.Wf kS ∧ t.size ≤ 4000 ∧ ∀ H', Same H H' → Q (.bl (fl t)) H'
theorem ok_flatQ {f g : Addr} {fd gd : FuncData} (F : Fun K "is_flat" "is_flat" sFlatQ f fd) (T : Txt K w mg FV FL) (G : FnOk P w K mg base CX0 1 g gd ["saying"] spOf) (bG : Binds K gd ["saying"] []) (kG : PySem.W.keepIn K (.ref g) = true) (mG : mg "sayings_of" = some (.ref g)) :
    FnOk P w K mg base CX0 2 f fd ["saying"] (spQ flatB) := by
  refine F.ok scFlatQ (fun vs H Q E h => ?_) (fun cdv A outer s H vs Q E hr h => ?_)
  · obtain ⟨v, t, rfl, _⟩ := h
    rfl
  obtain ⟨v, t, rfl, hA, hW, hS, q⟩ := h
  refine ⟨_, pss_cons (ps_set (i := 1) scFlatQ.nd rfl (.inl rfl) (pe_lst (pa_cons (pv 0) pa_nil)))
    (pss_cons (ps_while PassesOwn.never (pt_truth (pv 1) (by intro _; rfl))
      (pss_cons (ps_set (i := 2) scFlatQ.nd rfl (.inl rfl) (pe_bm0 PySem.F.plainAttrs_list PySem.F.slot_list_pop PySem.F.type_list_pop mt_pop (pv 1)))
      (pss_cons (ps_if (pt_cmpR op_notIn_seq (pe_ix ix_tup (pv 2) pe_int (fun _ _ => rfl)) (pe_glob (v := .ref FL) (by rfl) T.mL rfl) (by rfl)) (pss_one (ps_ret pe_bl)) pss_nil)
      (pss_one (ps_expr (pe_bm PySem.F.plainAttrs_list PySem.F.slot_list_extend PySem.F.type_list_extend mt_extA (pv 1) (pa_cons (pe_call G hr (by rfl) mG kG bG .nil pass0 (pa_cons (pv 2) pa_nil)) pa_nil)))))))
    (pss_one (ps_ret pe_bl))), ?_⟩
  refine ⟨_, rfl, (by show 1 ≤ sizeLine; decide), fun pt nt => ?_⟩
  have s1 : Same H (upd H pt (.lst [v])) := same_new nt
  refine ⟨fun m σ H' => ∃ (es : List Tr) (vt : List V) (y2 : Option V), σ = [some v, some (.ref pt), y2] ∧ Turn flatB H H' pt t m es vt,
    ⟨_, [t], [v], none, rfl, ⟨s1, upd_same, .one (hA.keep (tups_same s1)), fun e he => by rw [List.mem_singleton.mp he]; exact hW, by simp, rfl, by rw [sumS_one]; exact hS⟩⟩, fun m σ H1 hW1 => ?_⟩
  obtain ⟨es, vt, y2, rfl, W⟩ := hW1
  refine ⟨_, rfl, !vt.isEmpty, .inl ⟨vt, .inl (.inl W.lt), rfl⟩, ?_⟩
  rcases List.eq_nil_or_concat vt with en | ⟨vt0, y, en⟩
  · subst en
    refine iteF ?_
    have ee : es = [] := List.length_eq_zero_iff.mp W.rt.len
    subst ee
    have e2 : flatB t = true := W.all.symm
    have z := q H1 W.same
    rw [e2] at z
    exact z
  · rw [List.concat_eq_append] at en
    subst en
    rw [show (!(vt0 ++ [y]).isEmpty) = true by simp]
    refine iteT ?_
    obtain ⟨es0, t1, rfl, rt0, a1⟩ := W.rt.last
    have w1 : t1.Wf kS := W.wf _ (List.mem_append.mpr (.inr (List.mem_singleton.mpr rfl)))
    refine ⟨fun σ' H' => ∃ m', m' < m ∧ ∃ (es : List Tr) (vt : List V) (y2 : Option V), σ' = [some v, some (.ref pt), y2] ∧ Turn flatB H H' pt t m' es vt, fun σ' H' h => h, ?_⟩
    refine ⟨_, rfl, .inl ⟨rfl, _, .inl (.inl W.lt)⟩, pt, _, y, rfl, rfl, W.lt, by simp, ?_⟩
    rw [List.dropLast_concat]
    have k2 : Tups H1 (upd H1 pt (.lst vt0)) := tups_put fun xs z => by
      rw [W.lt] at z
      cases z
    have a2 := a1.keep k2
    obtain ⟨p1, us, rfl, hp1, lus, kids, leafs⟩ := a2.view (wf_ok w1)
    have fs := flat_step w1
    refine ⟨_, rfl, p1, _, 0, _, rfl, rfl, .inl (.inl hp1), head_at _ _, FL, flatVs, rfl, .inr (T.flat _), rfl, rfl, _, rfl, ?_⟩
    show if (!inV (.str t1.word) flatVs) = true then _ else _
    cases hi : inV (.str t1.word) flatVs with
    | false =>
      refine iteT ?_
      have e2 : flatB t = false := W.no (by rw [fs, hi]; rfl)
      have z := q (upd H1 pt (.lst vt0)) (same_up W.same nt)
      rw [e2] at z
      exact z
    | true =>
      refine iteF ?_
      rw [hi, Bool.true_and] at fs
      refine ⟨_, rfl, .inl ⟨rfl, _, .inl (.inl upd_same)⟩, _, rfl, .ref p1, t1, rfl, a2, w1, fun p H2 ws sm np hp all => ?_⟩
      have h2 : H2 pt = some (.lst vt0) := sm _ _ upd_same
      obtain ⟨m', lt, W2⟩ := W.step nt sm all (wf_says w1) (says_sum t1) fs
      refine ⟨pt, p, vt0, ws, rfl, rfl, h2, .inl hp, ?_, m', lt, _, _, _, rfl, W2⟩
      have l1 := rt0.len
      have l2 := all.len
      have l3 := sumS_len es0
      have l4 := sumS_len t1.says
      have l5 := says_sum t1
      have l6 := W.few
      rw [sumS_app, sumS_one] at l6
      have : vt0.length + ws.length ≤ 8000 := by omega
      exact Nat.le_trans this (by decide)
theorem cut_two (x y : V) (r : List V) : cutV (x :: y :: r) (some 2) none = r := by
  unfold cutV
  have e1 : HT.sIx (x :: y :: r).length 0 (some 2) = 2 := by
    rw [show HT.sIx (x :: y :: r).length 0 (some 2) = min 2 (x :: y :: r).length from HT.sIx_nat _ 0 2, List.length_cons, List.length_cons]
    omega
  rw [e1, HT.sIx_none]
  show List.take ((x :: y :: r).length - 2) r = r
  rw [List.length_cons, List.length_cons]
  exact List.take_length
theorem cut_not2 (x y : V) (r : List V) : ¬ (HT.sIx (x :: y :: r).length 0 (some 2) = 0 ∧ HT.sIx (x :: y :: r).length (x :: y :: r).length none = (x :: y :: r).length) := by
  intro h
  have e1 : HT.sIx (x :: y :: r).length 0 (some 2) = 2 := by
    rw [show HT.sIx (x :: y :: r).length 0 (some 2) = min 2 (x :: y :: r).length from HT.sIx_nat _ 0 2, List.length_cons, List.length_cons]
    omega
  rw [e1] at h
  exact absurd h.1 (by decide)
theorem ok_seenQ {f g e : Addr} {fd gd ed : FuncData} (F : Fun K "is_seen" "is_seen" sSeenQ f fd) (T : Txt K w mg FV FL) (G : FnOk P w K mg base CX0 1 g gd ["saying"] spOf) (bG : Binds K gd ["saying"] []) (kG : PySem.W.keepIn K (.ref g) = true) (mG : mg "sayings_of" = some (.ref g))
    (L : FnOk P w K mg base CX0 2 e ed ["saying"] (spQ flatB)) (bL : Binds K ed ["saying"] []) (kL : PySem.W.keepIn K (.ref e) = true) (mL : mg "is_flat" = some (.ref e)) : FnOk P w K mg base CX0 3 f fd ["saying"] (spQ seenB) := by
  refine F.ok scSeenQ (fun vs H Q E h => ?_) (fun cdv A outer s H vs Q E hr h => ?_)
  · obtain ⟨v, t, rfl, _⟩ := h
    rfl
  obtain ⟨v, t, rfl, hA, hW, hS, q⟩ := h
  have h1 : Room 1 _ := hr.mono (by decide)
  refine ⟨_, pss_cons (ps_set (i := 1) scSeenQ.nd rfl (.inl rfl) (pe_lst (pa_cons (pv 0) pa_nil)))
    (pss_cons (ps_while PassesOwn.never (pt_truth (pv 1) (by intro _; rfl))
      (pss_cons (ps_set (i := 2) scSeenQ.nd rfl (.inl rfl) (pe_bm0 PySem.F.plainAttrs_list PySem.F.slot_list_pop PySem.F.type_list_pop mt_pop (pv 1)))
      (pss_cons (ps_if (pt_cmpR op_eq (pe_ix ix_tup (pv 2) pe_int (fun _ _ => rfl)) pe_str (nomark _)) (pss_one (ps_ret pe_bl)) pss_nil)
      (pss_cons (ps_if (PW.pt (pw_and (pt_cmpR op_eq (pe_ix ix_tup (pv 2) pe_int (fun _ _ => rfl)) pe_str (nomark _)) (pw_and1 (pt_not (pt_val (pe_call L hr (by rfl) mL kL bL .nil pass0 (pa_cons (pe_ix ix_tup (pv 2) pe_int (fun _ _ => rfl)) pa_nil))))))) (pss_one (ps_ret pe_bl)) pss_nil)
      (pss_one (ps_expr (pe_bm PySem.F.plainAttrs_list PySem.F.slot_list_extend PySem.F.type_list_extend mt_extA (pv 1) (pa_cons (pe_ifExp (pt_cmpR op_eq (pe_ix ix_tup (pv 2) pe_int (fun _ _ => rfl)) pe_str (nomark _)) (pe_slice sl_tup (pv 2) (po_some pe_int) po_none) (pe_call G h1 (by rfl) mG kG bG .nil pass0 (pa_cons (pv 2) pa_nil))) pa_nil))))))))
    (pss_one (ps_ret pe_bl))), ?_⟩
  refine ⟨_, rfl, (by show 1 ≤ sizeLine; decide), fun pt nt => ?_⟩
  have s1 : Same H (upd H pt (.lst [v])) := same_new nt
  refine ⟨fun m σ H' => ∃ (es : List Tr) (vt : List V) (y2 : Option V), σ = [some v, some (.ref pt), y2] ∧ Turn seenB H H' pt t m es vt,
    ⟨_, [t], [v], none, rfl, ⟨s1, upd_same, .one (hA.keep (tups_same s1)), fun e he => by rw [List.mem_singleton.mp he]; exact hW, by simp, rfl, by rw [sumS_one]; exact hS⟩⟩, fun m σ H1 hW1 => ?_⟩
  obtain ⟨es, vt, y2, rfl, W⟩ := hW1
  refine ⟨_, rfl, !vt.isEmpty, .inl ⟨vt, .inl (.inl W.lt), rfl⟩, ?_⟩
  rcases List.eq_nil_or_concat vt with en | ⟨vt0, y, en⟩
  · subst en
    refine iteF ?_
    have ee : es = [] := List.length_eq_zero_iff.mp W.rt.len
    subst ee
    have e2 : seenB t = true := W.all.symm
    have z := q H1 W.same
    rw [e2] at z
    exact z
  · rw [List.concat_eq_append] at en
    subst en
    rw [show (!(vt0 ++ [y]).isEmpty) = true by simp]
    refine iteT ?_
    obtain ⟨es0, t1, rfl, rt0, a1⟩ := W.rt.last
    have w1 : t1.Wf kS := W.wf _ (List.mem_append.mpr (.inr (List.mem_singleton.mpr rfl)))
    refine ⟨fun σ' H' => ∃ m', m' < m ∧ ∃ (es : List Tr) (vt : List V) (y2 : Option V), σ' = [some v, some (.ref pt), y2] ∧ Turn seenB H H' pt t m' es vt, fun σ' H' h => h, ?_⟩
    refine ⟨_, rfl, .inl ⟨rfl, _, .inl (.inl W.lt)⟩, pt, _, y, rfl, rfl, W.lt, by simp, ?_⟩
    rw [List.dropLast_concat]
    have k2 : Tups H1 (upd H1 pt (.lst vt0)) := tups_put fun xs z => by
      rw [W.lt] at z
      cases z
    have a2 := a1.keep k2
    obtain ⟨p1, us, rfl, hp1, lus, kids, leafs⟩ := a2.view (wf_ok w1)
    have few : ∀ (ts : List Tr) (ws : List V), ts.length = ws.length → sumS ts + 1 ≤ t1.size → vt0.length + ws.length ≤ sizeLine := fun ts ws l2 l5 => by
      have l1 := rt0.len
      have l3 := sumS_len es0
      have l4 := sumS_len ts
      have l6 := W.few
      rw [sumS_app, sumS_one] at l6
      have : vt0.length + ws.length ≤ 8000 := by omega
      exact Nat.le_trans this (by decide)
    have sU : Same H (upd H1 pt (.lst vt0)) := same_up W.same nt
    refine ⟨_, rfl, p1, _, 0, _, rfl, rfl, .inl (.inl hp1), head_at _ _, rfl, _, rfl, ?_⟩
    refine eqW (fun ea => ?_) (fun na => ?_)
    · have e2 : seenB t = false := W.no (seen_all w1 ea)
      have z := q (upd H1 pt (.lst vt0)) sU
      rw [e2] at z
      exact z
    refine ⟨_, rfl, p1, _, 0, _, rfl, rfl, .inl (.inl hp1), head_at _ _, rfl, _, rfl, ?_⟩
    refine eqW (fun ei => ?_) (fun ni => iteF ?_)
    · obtain ⟨a, b, rfl, wa, wb⟩ := is_if w1 ei
      obtain ⟨p0, ya, yb, ep, hp0, aa, ab⟩ := a2
      cases ep
      have sz : (Tr.n2 "if" a b).size = a.size + b.size + 1 := rfl
      have l6 := W.few
      rw [sumS_app, sumS_one, sz] at l6
      refine ⟨_, rfl, p1, _, 1, ya, rfl, rfl, .inl (.inl hp0), atI_nat (j := 1) rfl, ya, a, rfl, aa, wa, by omega, fun H2 sm => ?_⟩
      refine ⟨_, rfl, ?_⟩
      cases hf : flatB a with
      | false =>
        refine iteT ?_
        have e2 : seenB t = false := W.no (by rw [seen_if, hf]; rfl)
        have z := q H2 (sU.trans sm)
        rw [e2] at z
        exact z
      | true =>
        refine iteF ?_
        refine ⟨_, rfl, .inl ⟨rfl, _, .inl (.inl (sm _ _ upd_same))⟩, _, rfl, p1, _, 0, _, rfl, rfl, .inl (.inl (sm _ _ hp0)), head_at _ _, rfl, _, rfl, ?_⟩
        refine eqW (fun _ => ?_) (fun ne => absurd rfl ne)
        refine ⟨_, rfl, 2, rfl, p1, _, rfl, .inl (.inl (sm _ _ hp0)), cut_not2 _ _ _, fun c nc => ?_⟩
        rw [cut_two]
        have sm2 := sm.trans (same_new (o := .tup [yb]) nc)
        have h2 := sm2 _ _ (show (upd H1 pt (.lst vt0)) pt = _ from upd_same)
        obtain ⟨m', lt, W2⟩ := W.step nt sm2 (ts := [b]) (ws := [yb]) (.one (ab.keep (tups_same sm2))) (fun z hz => by rw [List.mem_singleton.mp hz]; exact wb) (by rw [sumS_one, sz]; omega) (by rw [seen_if, hf]; simp)
        exact ⟨pt, c, vt0, [yb], rfl, rfl, h2, .inr upd_same, few [b] [yb] rfl (by rw [sumS_one, sz]; omega), m', lt, _, _, _, rfl, W2⟩
    · refine ⟨_, rfl, .inl ⟨rfl, _, .inl (.inl upd_same)⟩, _, rfl, p1, _, 0, _, rfl, rfl, .inl (.inl hp1), head_at _ _, rfl, _, rfl, ?_⟩
      refine eqW (fun ei => absurd ei ni) (fun _ => ?_)
      refine ⟨_, rfl, .ref p1, t1, rfl, a2, w1, fun p H2 ws sm np hp all => ?_⟩
      have h2 : H2 pt = some (.lst vt0) := sm _ _ upd_same
      obtain ⟨m', lt, W2⟩ := W.step nt sm all (wf_says w1) (says_sum t1) (seen_step w1 na ni)
      exact ⟨pt, p, vt0, ws, rfl, rfl, h2, .inl hp, few _ _ all.len (says_sum t1), m', lt, _, _, _, rfl, W2⟩
end
end Kf
set_option Elab.async false
set_option linter.all false
set_option maxRecDepth 100000
set_option maxHeartbeats 4000000
set_option pp.maxSteps 400
/-! k40: the law's own looks; a saying with a word otherwise. -/
namespace Kf
open PySem PySem.Spec PyProof.Rows L2 Sx RZ
theorem inV_strs (z : Str) : ∀ ys : List Str, inV (.str z) (ys.map V.str) = decide (z ∈ ys)
  | [] => by simp [inV]
  | y :: r => by
    have h := inV_strs z r
    unfold inV at h ⊢
    rw [List.map_cons, List.any_cons, h]
    have e1 : eqV (.str y) (.str z) = decide (y = z) := by
      unfold eqV
      rfl
    rw [e1]
    by_cases e : y = z
    · subst e
      simp
    · rw [decide_eq_false e, Bool.false_or]
      have e3 : z ≠ y := fun q => e q.symm
      simp [e3]
/-- a word among two -/
theorem inW {z a b : Str} {A B : Prop} (y : z = a ∨ z = b → A) (n : ¬ (z = a ∨ z = b) → B) : if inV (.str z) [.str a, .str b] = true then A else B := by
  rw [show inV (.str z) [.str a, .str b] = decide (z ∈ [a, b]) from inV_strs z [a, b]]
  refine ite2 (fun c => y ?_) (fun c => n fun q => c (decide_eq_true ?_))
  · simpa using of_decide_eq_true c
  · simpa using q
theorem deep_pos : ∀ t : Tr, 1 ≤ t.deep
  | .leaf _ _ => Nat.le_refl 1
  | .n0 _ => Nat.le_refl 1
  | .n1 _ _ => Nat.le_add_left 1 _
  | .n2 _ _ _ => Nat.le_add_left 1 _
theorem is_two {t : Tr} (h : t.Wf kS) (e : t.word = "and" ∨ t.word = "or" ∨ t.word = "if") : ∃ a b, t = .n2 t.word a b ∧ a.Wf kS ∧ b.Wf kS ∧ t.word ≠ "same" ∧ (t.word, kS, [kS, kS]) ∈ table := by
  cases t with
  | leaf w x => exact absurd h.1 (by decide +kernel)
  | n0 w =>
    have e2 : w = "no" := row0 _ h rfl rfl
    subst e2
    exact absurd e (by decide +kernel)
  | n1 w a =>
    have e : w = "and" ∨ w = "or" ∨ w = "if" := e
    rcases (wf_one h).1 with z | z <;> subst z <;> exact absurd e (by decide +kernel)
  | n2 w a b =>
    have e : w = "and" ∨ w = "or" ∨ w = "if" := e
    rcases wf_two h with ⟨z, _⟩ | ⟨ne, _, h1, h2, hr⟩
    · subst z
      exact absurd e (by decide +kernel)
    · exact ⟨a, b, rfl, h1, h2, ne, hr⟩
theorem is_one {t : Tr} (h : t.Wf kS) (e : t.word = "all" ∨ t.word = "some") : ∃ a, t = .n1 t.word a ∧ a.Wf kS := by
  cases t with
  | leaf w x => exact absurd h.1 (by decide +kernel)
  | n0 w =>
    have e2 : w = "no" := row0 _ h rfl rfl
    subst e2
    exact absurd e (by decide +kernel)
  | n1 w a => exact ⟨a, rfl, (wf_one h).2.1⟩
  | n2 w a b =>
    have e : w = "all" ∨ w = "some" := e
    rcases wf_two h with ⟨z, _⟩ | ⟨_, z, _⟩
    · subst z
      exact absurd e (by decide +kernel)
    · rcases z with z | z | z <;> subst z <;> exact absurd e (by decide +kernel)
theorem word_any {t : Tr} (h : t.Wf kS) : (t.word = "same" ∨ t.word = "no") ∨ (t.word = "all" ∨ t.word = "some") ∨ (t.word = "and" ∨ t.word = "or" ∨ t.word = "if") := by
  cases t with
  | leaf w x => exact absurd h.1 (by decide +kernel)
  | n0 w => exact .inl (.inr (row0 _ h rfl rfl))
  | n1 w a => exact .inr (.inl (wf_one h).1)
  | n2 w a b =>
    rcases wf_two h with ⟨z, _⟩ | ⟨_, z, _⟩
    · exact .inl (.inl z)
    · exact .inr (.inr z)
theorem flat_low {t : Tr} (h : t.Wf kS) (e : t.word = "same" ∨ t.word = "no") : flatB t = true := by
  rw [flat_step h]
  cases t with
  | leaf w x => exact absurd h.1 (by decide +kernel)
  | n0 w =>
    have e2 : w = "no" := row0 _ h rfl rfl
    subst e2
    decide +kernel
  | n1 w a =>
    have e : w = "same" ∨ w = "no" := e
    rcases (wf_one h).1 with z | z <;> subst z <;> exact absurd e (by decide +kernel)
  | n2 w a b =>
    have e : w = "same" ∨ w = "no" := e
    rcases wf_two h with ⟨z, _⟩ | ⟨_, z, _⟩
    · subst z
      rfl
    · rcases z with z | z | z <;> subst z <;> exact absurd e (by decide +kernel)
section
variable {P : Program} {w : World} {K : PySem.W.Frag} {mg : Str → Option Value} {base : Heap}
def spL (fl : Tr → Bool) (n : Nat) : Sp := fun vs H Q _ => ∃ (v : V) (t : Tr), vs = [v] ∧ At H t v ∧ t.Wf kS ∧ t.deep ≤ n ∧ ∀ H', Same H H' → Q (.bl (fl t)) H'
theorem ok_LF {f : Addr} {fd : FuncData} {n : Nat} (F : Fun K "_law_is_flat" "_law_is_flat" sLF f fd) (S : FnOk P w K mg base CX0 n f fd ["saying"] (spL flatB n)) (bS : Binds K fd ["saying"] []) (mS : mg "_law_is_flat" = some (.ref f)) :
    FnOk P w K mg base CX0 (n + 1) f fd ["saying"] (spL flatB (n + 1)) := by
  refine F.ok scLF (fun vs H Q E h => ?_) (fun cdv A outer s H vs Q E hr h => ?_)
  · obtain ⟨v, t, rfl, _⟩ := h
    rfl
  obtain ⟨v, t, rfl, hA, hW, hd, q⟩ := h
  refine ⟨_, pss_cons (ps_if (pt_cmpR op_in_seq (pe_ix ix_tup (pv 0) pe_int (fun _ _ => rfl)) (pe_tup (pa_cons pe_str (pa_cons pe_str pa_nil))) (by rfl))
      (pss_one (ps_ret (pe_and (pe_call S hr (by rfl) mS F.kp bS .nil pass0 (pa_cons (pe_ix ix_tup (pv 0) pe_int (fun _ _ => rfl)) pa_nil)) (pe_one (pe_call S hr (by rfl) mS F.kp bS .nil pass0 (pa_cons (pe_ix ix_tup (pv 0) pe_int (fun _ _ => rfl)) pa_nil)))))) pss_nil)
    (pss_one (ps_ret (pe_cmpR op_in_seq (pe_ix ix_tup (pv 0) pe_int (fun _ _ => rfl)) (pe_tup (pa_cons pe_str (pa_cons pe_str pa_nil))) (by rfl)))), ?_⟩
  obtain ⟨p1, us, rfl, hp1, lus, kids, leafs⟩ := hA.view (wf_ok hW)
  refine ⟨_, rfl, p1, _, 0, _, rfl, rfl, .inl (.inl hp1), head_at _ _, (by show 2 ≤ sizeLine; decide), fun m nm => ?_⟩
  have s1 : Same H (upd H m (.tup [.str "and", .str "if"])) := same_new nm
  refine ⟨m, [.str "and", .str "if"], rfl, .inr (.inl (.inl upd_same)), rfl, rfl, _, rfl, ?_⟩
  refine inW (fun c => ?_) (fun c => ?_)
  · obtain ⟨a, b, et, wa, wb, ns, hr⟩ := is_two hW (c.elim .inl fun z => .inr (.inr z))
    generalize t.word = wd at *
    subst et
    obtain ⟨p0, ya, yb, ep, hp0, aa, ab⟩ := hA
    cases ep
    have dd : max a.deep b.deep + 1 ≤ n + 1 := hd
    have ef : flatB (.n2 wd a b) = (flatB a && flatB b) := by
      show (if wd = "same" then true else if wd = "or" then false else flatB a && flatB b) = _
      rw [if_neg ns, if_neg]
      rcases c with z | z <;> rw [z] <;> decide +kernel
    rw [ef] at q
    refine ⟨_, rfl, p1, _, 1, ya, rfl, rfl, .inl (.inl (s1 _ _ hp0)), atI_nat (j := 1) rfl, ya, a, rfl, aa.keep (tups_same s1), wa, by omega, fun H2 s2 => ?_⟩
    refine ⟨_, rfl, ?_⟩
    cases ha : flatB a with
    | false =>
      refine iteF ?_
      have z := q H2 (s1.trans s2)
      rw [ha] at z
      exact z
    | true =>
      refine iteT ?_
      have s12 := s1.trans s2
      refine ⟨_, rfl, p1, _, 2, yb, rfl, rfl, .inl (.inl (s12 _ _ hp0)), atI_nat (j := 2) rfl, yb, b, rfl, ab.keep (tups_same s12), wb, by omega, fun H3 s3 => ?_⟩
      have z := q H3 (s12.trans s3)
      rw [ha] at z
      exact z
  · refine ⟨_, rfl, p1, _, 0, _, rfl, rfl, .inl (.inl (s1 _ _ hp1)), head_at _ _, (by show 2 ≤ sizeLine; decide), fun m2 nm2 => ?_⟩
    refine ⟨m2, [.str "same", .str "no"], rfl, .inr (.inl (.inl upd_same)), rfl, rfl, ?_⟩
    have e : flatB t = inV (.str t.word) [.str "same", .str "no"] := by
      rw [show inV (.str t.word) [.str "same", .str "no"] = decide (t.word ∈ (["same", "no"] : List Str)) from inV_strs t.word ["same", "no"]]
      rcases word_any hW with z | z | z
      · rw [flat_low hW z]
        rcases z with z | z <;> rw [z] <;> decide +kernel
      · obtain ⟨a, ea, _⟩ := is_one hW z
        rw [show flatB t = false by rw [ea]; rfl]
        rcases z with z | z <;> rw [z] <;> decide +kernel
      · obtain ⟨a, b, ea, _⟩ := is_two hW z
        rcases z with z | z | z
        · exact absurd (.inl z) c
        · rw [show flatB t = false by rw [ea, z]; rfl, z]
          decide +kernel
        · exact absurd (.inr z) c
    show Q (.bl (inV (.str t.word) [.str "same", .str "no"])) _
    rw [← e]
    exact q _ (s1.trans (same_new nm2))
theorem ok_LFs {f : Addr} {fd : FuncData} (F : Fun K "_law_is_flat" "_law_is_flat" sLF f fd) (bS : Binds K fd ["saying"] []) (mS : mg "_law_is_flat" = some (.ref f)) : ∀ n : Nat, FnOk P w K mg base CX0 n f fd ["saying"] (spL flatB n)
  | 0 => no_calls fun vs H Q E h => by
    obtain ⟨v, t, _, _, _, hd, _⟩ := h
    have := deep_pos t
    omega
  | n + 1 => ok_LF F (ok_LFs F bS mS n) bS mS
theorem ok_LS {f g : Addr} {fd gd : FuncData} {n : Nat} (F : Fun K "_law_is_seen" "_law_is_seen" sLS f fd) (G : FnOk P w K mg base CX0 20 g gd ["saying"] (spL flatB 20)) (bG : Binds K gd ["saying"] []) (kG : PySem.W.keepIn K (.ref g) = true) (mG : mg "_law_is_flat" = some (.ref g))
    (S : FnOk P w K mg base CX0 (20 + n) f fd ["saying"] (spL seenB n)) (bS : Binds K fd ["saying"] []) (mS : mg "_law_is_seen" = some (.ref f)) (n20 : n + 1 ≤ 20) : FnOk P w K mg base CX0 (20 + n + 1) f fd ["saying"] (spL seenB (n + 1)) := by
  refine F.ok scLS (fun vs H Q E h => ?_) (fun cdv A outer s H vs Q E hr h => ?_)
  · obtain ⟨v, t, rfl, _⟩ := h
    rfl
  obtain ⟨v, t, rfl, hA, hW, hd, q⟩ := h
  have h20 : Room 20 _ := hr.mono (by omega)
  refine ⟨_, pss_cons (ps_if (pt_val (pe_call G h20 (by rfl) mG kG bG .nil pass0 (pa_cons (pv 0) pa_nil))) (pss_one (ps_ret pe_bl)) pss_nil)
    (pss_cons (ps_if (pt_cmpR op_eq (pe_ix ix_tup (pv 0) pe_int (fun _ _ => rfl)) pe_str (nomark _))
      (pss_one (ps_ret (pe_and (pe_call G h20 (by rfl) mG kG bG .nil pass0 (pa_cons (pe_ix ix_tup (pv 0) pe_int (fun _ _ => rfl)) pa_nil)) (pe_one (pe_call S hr (by rfl) mS F.kp bS .nil pass0 (pa_cons (pe_ix ix_tup (pv 0) pe_int (fun _ _ => rfl)) pa_nil)))))) pss_nil)
    (pss_cons (ps_if (pt_cmpR op_in_seq (pe_ix ix_tup (pv 0) pe_int (fun _ _ => rfl)) (pe_tup (pa_cons pe_str (pa_cons pe_str pa_nil))) (by rfl))
      (pss_one (ps_ret (pe_and (pe_call S hr (by rfl) mS F.kp bS .nil pass0 (pa_cons (pe_ix ix_tup (pv 0) pe_int (fun _ _ => rfl)) pa_nil)) (pe_one (pe_call S hr (by rfl) mS F.kp bS .nil pass0 (pa_cons (pe_ix ix_tup (pv 0) pe_int (fun _ _ => rfl)) pa_nil)))))) pss_nil)
    (pss_one (ps_ret (pe_and (pe_cmpR op_eq (pe_ix ix_tup (pv 0) pe_int (fun _ _ => rfl)) pe_str (nomark _)) (pe_one (pe_call S hr (by rfl) mS F.kp bS .nil pass0 (pa_cons (pe_ix ix_tup (pv 0) pe_int (fun _ _ => rfl)) pa_nil)))))))), ?_⟩
  refine ⟨_, rfl, v, t, rfl, hA, hW, by omega, fun H1 s1 => ⟨_, rfl, ?_⟩⟩
  have sn := flat_seen t
  cases hf : flatB t with
  | true =>
    refine iteT ?_
    have z := q H1 s1
    rw [sn hf] at z
    exact z
  | false =>
    refine iteF ?_
    have hA1 := hA.keep (tups_same s1)
    obtain ⟨p1, us, rfl, hp1, lus, kids, leafs⟩ := hA1.view (wf_ok hW)
    refine ⟨_, rfl, p1, _, 0, _, rfl, rfl, .inl (.inl hp1), head_at _ _, rfl, _, rfl, ?_⟩
    refine eqW (fun ei => ?_) (fun ni => ?_)
    · obtain ⟨a, b, rfl, wa, wb⟩ := is_if hW ei
      obtain ⟨p0, ya, yb, ep, hp0, aa, ab⟩ := hA1
      cases ep
      have dd : max a.deep b.deep + 1 ≤ n + 1 := hd
      rw [seen_if] at q
      refine ⟨_, rfl, p1, _, 1, ya, rfl, rfl, .inl (.inl hp0), atI_nat (j := 1) rfl, ya, a, rfl, aa, wa, by omega, fun H2 s2 => ?_⟩
      refine ⟨_, rfl, ?_⟩
      have s12 := s1.trans s2
      cases ha : flatB a with
      | false =>
        refine iteF ?_
        have z := q H2 s12
        rw [ha] at z
        exact z
      | true =>
        refine iteT ?_
        refine ⟨_, rfl, p1, _, 2, yb, rfl, rfl, .inl (.inl (s2 _ _ hp0)), atI_nat (j := 2) rfl, yb, b, rfl, ab.keep (tups_same s2), wb, by omega, fun H3 s3 => ?_⟩
        have z := q H3 (s12.trans s3)
        rw [ha] at z
        exact z
    · refine ⟨_, rfl, p1, _, 0, _, rfl, rfl, .inl (.inl hp1), head_at _ _, (by show 2 ≤ sizeLine; decide), fun m nm => ?_⟩
      have s2 : Same H1 (upd H1 m (.tup [.str "and", .str "or"])) := same_new nm
      have s12 := s1.trans s2
      refine ⟨m, [.str "and", .str "or"], rfl, .inr (.inl (.inl upd_same)), rfl, rfl, _, rfl, ?_⟩
      refine inW (fun c => ?_) (fun c => ?_)
      · obtain ⟨a, b, et, wa, wb, ns, hr⟩ := is_two hW (c.elim .inl fun z => .inr (.inl z))
        generalize t.word = wd at *
        subst et
        obtain ⟨p0, ya, yb, ep, hp0, aa, ab⟩ := hA1
        cases ep
        have dd : max a.deep b.deep + 1 ≤ n + 1 := hd
        have ef : seenB (.n2 wd a b) = (seenB a && seenB b) := by
          show (if wd = "same" then true else if wd = "if" then flatB a && seenB b else seenB a && seenB b) = _
          rw [if_neg ns, if_neg ni]
        rw [ef] at q
        refine ⟨_, rfl, p1, _, 1, ya, rfl, rfl, .inl (.inl (s2 _ _ hp0)), atI_nat (j := 1) rfl, ya, a, rfl, aa.keep (tups_same s2), wa, by omega, fun H3 s3 => ?_⟩
        refine ⟨_, rfl, ?_⟩
        cases ha : seenB a with
        | false =>
          refine iteF ?_
          have z := q H3 (s12.trans s3)
          rw [ha] at z
          exact z
        | true =>
          refine iteT ?_
          have s23 := s2.trans s3
          refine ⟨_, rfl, p1, _, 2, yb, rfl, rfl, .inl (.inl (s23 _ _ hp0)), atI_nat (j := 2) rfl, yb, b, rfl, ab.keep (tups_same s23), wb, by omega, fun H4 s4 => ?_⟩
          have z := q H4 ((s1.trans s23).trans s4)
          rw [ha] at z
          exact z
      · refine ⟨_, rfl, p1, _, 0, _, rfl, rfl, .inl (.inl (s2 _ _ hp1)), head_at _ _, rfl, _, rfl, ?_⟩
        have ones : t.word = "all" ∨ t.word = "some" := by
          rcases word_any hW with z | z | z
          · rw [flat_low hW z] at hf
            cases hf
          · exact z
          · rcases z with z | z | z
            · exact absurd (.inl z) c
            · exact absurd (.inr z) c
            · exact absurd z ni
        obtain ⟨a, et, wa⟩ := is_one hW ones
        generalize t.word = wd at *
        subst et
        obtain ⟨p0, ya, ep, hp0, aa⟩ := hA1
        cases ep
        have dd : a.deep + 1 ≤ n + 1 := hd
        refine eqW (fun es => ?_) (fun ns => ?_)
        · subst es
          refine ⟨_, rfl, p1, _, 1, ya, rfl, rfl, .inl (.inl (s2 _ _ hp0)), atI_nat (j := 1) rfl, ya, a, rfl, aa.keep (tups_same s2), wa, by omega, fun H3 s3 => ?_⟩
          exact q H3 (s12.trans s3)
        · have e : seenB (.n1 wd a) = false := if_pos (ones.resolve_right ns)
          rw [e] at q
          exact q _ s12
theorem ok_LSs {f g : Addr} {fd gd : FuncData} (F : Fun K "_law_is_seen" "_law_is_seen" sLS f fd) (G : FnOk P w K mg base CX0 20 g gd ["saying"] (spL flatB 20)) (bG : Binds K gd ["saying"] []) (kG : PySem.W.keepIn K (.ref g) = true) (mG : mg "_law_is_flat" = some (.ref g))
    (bS : Binds K fd ["saying"] []) (mS : mg "_law_is_seen" = some (.ref f)) : ∀ n : Nat, n ≤ 20 → FnOk P w K mg base CX0 (20 + n) f fd ["saying"] (spL seenB n)
  | 0, _ => no_calls fun vs H Q E h => by
    obtain ⟨v, t, _, _, _, hd, _⟩ := h
    have := deep_pos t
    omega
  | n + 1, h => ok_LS F G bG kG mG (ok_LSs F G bG kG mG bS mS n (by omega)) bS mS h
end
end Kf
set_option Elab.async false
set_option linter.all false
set_option maxRecDepth 100000
set_option maxHeartbeats 8000000
set_option pp.maxSteps 400
/-! k40: a saying with a word otherwise. -/
namespace Kf
open PySem PySem.Spec PyProof.Rows L2 Sx RZ
abbrev sOt : Stmt := top 19
theorem scOt : FnScope ["feed", "saying", "at"] ["feed", "saying"] (defScope sOt) := ⟨rfl, rfl, rfl, by decide +kernel, rfl, by decide +kernel, by decide +kernel⟩
theorem cut2a (x y : V) : cutV [x, y] none (some 1) = [x] := rfl
theorem cut2b (x y : V) : cutV [x, y] (some 2) none = [] := rfl
theorem cut2c (x y : V) : cutV [x, y] (some 1) none = [y] := rfl
theorem cut3a (x y z : V) : cutV [x, y, z] none (some 1) = [x] := rfl
theorem cut3b (x y z : V) : cutV [x, y, z] (some 2) none = [z] := rfl
theorem cut3c (x y z : V) : cutV [x, y, z] none (some 2) = [x, y] := rfl
theorem cut3d (x y z : V) : cutV [x, y, z] (some 3) none = [] := rfl
theorem cut3e (x y z : V) : cutV [x, y, z] (some 1) none = [y, z] := rfl
section
variable {P : Program} {w : World} {K : PySem.W.Frag} {mg : Str → Option Value} {base : Heap}
def spOt (n : Nat) : Sp := fun vs H Q _ => ∃ (f : Addr) (v : V) (t : Tr), vs = [.ref f, v] ∧ At H t v ∧ t.Wf kS ∧ t.deep ≤ n ∧ FeedAt H f ∧ Out f H kS (t.deep + 1) Q
theorem all_row : (("all", kS, [kS]) : Str × Str × List Str) ∈ table := by decide +kernel
theorem some_row : (("some", kS, [kS]) : Str × Str × List Str) ∈ table := by decide +kernel
theorem or_row : (("or", kS, [kS, kS]) : Str × Str × List Str) ∈ table := by decide +kernel
theorem ok_ot {f ft fp : Addr} {fd dt dp : FuncData} {n : Nat} (F : Fun K "_law_otherwise" "_law_otherwise" sOt f fd) (D : Draw P w K mg base ft fp dt dp)
    (S : FnOk P w K mg base CX0 (2 + n) f fd ["feed", "saying"] (spOt n)) (bS : Binds K fd ["feed", "saying"] []) (mS : mg "_law_otherwise" = some (.ref f)) (zI : mg "int" = none) (zL : mg "len" = none) :
    FnOk P w K mg base CX0 (2 + n + 1) f fd ["feed", "saying"] (spOt (n + 1)) := by
  refine F.ok scOt (fun vs H Q E h => ?_) (fun cdv A outer s H vs Q E hr h => ?_)
  · obtain ⟨a, v, t, rfl, _⟩ := h
    rfl
  obtain ⟨f, v, t, rfl, hA, hW, hd, hF, q⟩ := h
  have h1 : Room 1 _ := hr.mono (by omega)
  have h2 : Room 2 _ := hr.mono (by omega)
  refine ⟨_, pss_cons (ps_if (pt_cmpR op_in_seq (pe_ix ix_tup (pv 1) pe_int (fun _ _ => rfl)) (pe_tup (pa_cons pe_str (pa_cons pe_str pa_nil))) (by rfl))
      (pss_one (ps_ret (pe_call D.Pk h2 (by rfl) D.mP D.kP D.bP .nil pass0 (pa_cons (pv 0) (pa_cons (pe_lst (pa_cons (pe_tup (pa_cons pe_str pa_nil)) (pa_cons (pe_tup (pa_cons pe_str (pa_cons (pv 1) pa_nil))) (pa_cons (pe_tup (pa_cons pe_str (pa_cons (pv 1) pa_nil)))
        (pa_cons (pe_tup (pa_cons pe_str (pa_cons (pv 1) (pa_cons (pe_tup (pa_cons pe_str pa_nil)) pa_nil)))) pa_nil))))) pa_nil))))) pss_nil)
    (pss_cons (ps_if (pt_cmpR op_eq (pe_call D.T h1 (by rfl) D.mT D.kT D.bT .nil pass0 (pa_cons (pv 0) (pa_cons pe_int pa_nil))) pe_int (nomark _))
      (pss_cons (ps_if (pt_cmpR op_in_seq (pe_ix ix_tup (pv 1) pe_int (fun _ _ => rfl)) (pe_tup (pa_cons pe_str (pa_cons pe_str pa_nil))) (by rfl))
        (pss_one (ps_ret (pe_op op_catT (pe_tup (pa_cons (pe_ix ix_list (pe_lst (pa_cons pe_str (pa_cons pe_str pa_nil))) (pe_callTy call_int1 (by rfl) zI (by decide +kernel) (pa_cons (pe_cmpR op_eq (pe_ix ix_tup (pv 1) pe_int (fun _ _ => rfl)) pe_str (nomark _)) pa_nil)) (fun _ _ => rfl)) pa_nil))
          (pe_slice sl_tup (pv 1) (po_some pe_int) po_none)))) pss_nil)
      (pss_one (ps_ret (pe_op op_catT (pe_tup (pa_cons (pe_call D.Pk h2 (by rfl) D.mP D.kP D.bP .nil pass0 (pa_cons (pv 0) (pa_cons (pe_lst (pa_cons pe_str (pa_cons pe_str (pa_cons pe_str pa_nil)))) pa_nil))) pa_nil))
          (pe_slice sl_tup (pv 1) (po_some pe_int) po_none))))) pss_nil)
    (pss_cons (ps_set (i := 2) scOt.nd rfl (.inl rfl) (pe_op op_add pe_int (pe_call D.T h1 (by rfl) D.mT D.kT D.bT .nil pass0 (pa_cons (pv 0) (pa_cons (pe_op op_sub (pe_callB call_len_seq (by rfl) zL PySem.boot_len (pa_cons (pv 1) pa_nil)) pe_int) pa_nil)))))
    (pss_one (ps_ret (pe_op op_catT (pe_op op_catT (pe_slice sl_tup (pv 1) po_none (po_some (pv 2))) (pe_tup (pa_cons (pe_call S hr (by rfl) mS F.kp bS .nil pass0 (pa_cons (pv 0) (pa_cons (pe_ix ix_tup (pv 1) (pv 2) (fun _ _ => rfl)) pa_nil))) pa_nil)))
      (pe_slice sl_tup (pv 1) (po_some (pe_op op_add (pv 2) pe_int)) po_none)))))), ?_⟩
  obtain ⟨p1, us, rfl, hp1, lus, kids, leafs⟩ := hA.view (wf_ok hW)
  refine ⟨_, rfl, p1, _, 0, _, rfl, rfl, .inl (.inl hp1), head_at _ _, (by show 2 ≤ sizeLine; decide), fun m nm => ?_⟩
  have s1 : Same H (upd H m (.tup [.str "same", .str "no"])) := same_new nm
  refine ⟨m, [.str "same", .str "no"], rfl, .inr (.inl (.inl upd_same)), rfl, rfl, _, rfl, ?_⟩
  refine inW (fun c => ?_) (fun c => ?_)
  · -- another one
    refine ⟨_, rfl, (by show 1 ≤ sizeLine; decide), fun g1 n1 => ?_⟩
    refine ⟨_, rfl, (by show 2 ≤ sizeLine; decide), fun g2 n2 => ?_⟩
    refine ⟨_, rfl, (by show 2 ≤ sizeLine; decide), fun g3 n3 => ?_⟩
    refine ⟨_, rfl, (by show 1 ≤ sizeLine; decide), fun g4 n4 => ⟨(by show 3 ≤ sizeLine; decide), fun g5 n5 => ⟨(by show 4 ≤ sizeLine; decide), fun g6 n6 => ?_⟩⟩⟩
    generalize e1 : upd (upd H m (.tup [.str "same", .str "no"])) g1 (.tup [.str "no"]) = X1 at n2 n3 n4 n5 n6 ⊢
    have t1 : Same H X1 := by rw [← e1]; exact same_put s1 n1
    have a1 : At X1 (.n0 "no") (.ref g1) := ⟨g1, rfl, by rw [← e1, upd_same]⟩
    generalize e2 : upd X1 g2 (.tup [.str "all", .ref p1]) = X2 at n3 n4 n5 n6 ⊢
    have t2 : Same X1 X2 := by rw [← e2]; exact same_new n2
    have a2 : At X2 (.n1 "all" t) (.ref g2) := ⟨g2, _, rfl, by rw [← e2, upd_same], hA.keep (tups_same (t1.trans t2))⟩
    generalize e3 : upd X2 g3 (.tup [.str "some", .ref p1]) = X3 at n4 n5 n6 ⊢
    have t3 : Same X2 X3 := by rw [← e3]; exact same_new n3
    have a3 : At X3 (.n1 "some" t) (.ref g3) := ⟨g3, _, rfl, by rw [← e3, upd_same], hA.keep (tups_same ((t1.trans t2).trans t3))⟩
    generalize e4 : upd X3 g4 (.tup [.str "no"]) = X4 at n5 n6 ⊢
    have t4 : Same X3 X4 := by rw [← e4]; exact same_new n4
    have a4 : At X4 (.n0 "no") (.ref g4) := ⟨g4, rfl, by rw [← e4, upd_same]⟩
    generalize e5 : upd X4 g5 (.tup [.str "or", .ref p1, .ref g4]) = X5 at n6 ⊢
    have t5 : Same X4 X5 := by rw [← e5]; exact same_new n5
    have a5 : At X5 (.n2 "or" t (.n0 "no")) (.ref g5) := ⟨g5, _, _, rfl, by rw [← e5, upd_same], hA.keep (tups_same ((((t1.trans t2).trans t3).trans t4).trans t5)), a4.keep (tups_same t5)⟩
    have t6 : Same X5 (upd X5 g6 (.lst [.ref g1, .ref g2, .ref g3, .ref g5])) := same_new n6
    have hF5 : FeedAt X5 f := hF.same ((((t1.trans t2).trans t3).trans t4).trans t5)
    have sH : Same H (upd X5 g6 (.lst [.ref g1, .ref g2, .ref g3, .ref g5])) := ((((t1.trans t2).trans t3).trans t4).trans t5).trans t6
    refine ⟨f, g6, _, rfl, hF5.ne n6, .inl (.inl upd_same), (by show 0 < 4; decide), (by show 4 ≤ 1000; decide), hF5.same t6, fun x hx X7 b7 hF7 => ?_⟩
    have k7 : Tups (upd X5 g6 (.lst [.ref g1, .ref g2, .ref g3, .ref g5])) X7 := (hF5.same t6).tups b7
    have bb : But f H X7 := (but_same sH).trans b7
    have mt : Made kS t.deep t := ⟨hW, Nat.le_refl _⟩
    have dp := deep_pos t
    rcases List.mem_cons.mp hx with e | hx
    · rw [e]
      exact q _ _ _ (made_no.up (by omega)) ((a1.keep (tups_same (((((t2.trans t3).trans t4).trans t5).trans t6)))).keep k7) bb hF7
    rcases List.mem_cons.mp hx with e | hx
    · rw [e]
      exact q _ _ _ (made_one all_row mt) ((a2.keep (tups_same ((((t3.trans t4).trans t5).trans t6)))).keep k7) bb hF7
    rcases List.mem_cons.mp hx with e | hx
    · rw [e]
      exact q _ _ _ (made_one some_row mt) ((a3.keep (tups_same (((t4.trans t5).trans t6)))).keep k7) bb hF7
    · rw [List.mem_singleton.mp hx]
      exact q _ _ _ (made_two or_row mt (made_no.up dp)) ((a5.keep (tups_same t6)).keep k7) bb hF7
  · refine ⟨_, rfl, f, 2, rfl, by decide, by decide, hF.same s1, fun r X r0 r1 bX hFX => ?_⟩
    have bb : But f H X := (but_same s1).trans bX
    have kX : Tups H X := (tups_same s1).trans ((hF.same s1).tups bX)
    have hAX := hA.keep kX
    have dp := deep_pos t
    have any := (word_any hW).resolve_left c
    clear hA hp1 kids leafs nm s1 bX
    refine ⟨rfl, _, rfl, ?_⟩
    rcases any with ones | twos
    · obtain ⟨a, et, wa⟩ := is_one hW ones
      generalize hwd : t.word = wd at *
      subst et
      obtain ⟨p0, ya, ep, hp0, aa⟩ := hAX
      cases ep
      have dd : a.deep + 1 ≤ n + 1 := hd
      refine ite2 (fun _ => ?_) (fun _ => ?_)
      · refine ⟨_, rfl, p1, _, 0, _, rfl, rfl, .inl (.inl hp0), head_at _ _, (by show 2 ≤ sizeLine; decide), fun m nm => ?_⟩
        have s1 : Same X (upd X m (.tup [.str "all", .str "some"])) := same_new nm
        refine ⟨m, [.str "all", .str "some"], rfl, .inr (.inl (.inl upd_same)), rfl, rfl, _, rfl, ?_⟩
        refine inW (fun _ => ?_) (fun z => absurd ones z)
        refine ⟨(by show 2 ≤ sizeLine; decide), fun l nl => ?_⟩
        have s2 := same_put (o := .lst [.str "some", .str "all"]) s1 nl
        refine ⟨_, rfl, p1, _, 0, _, rfl, rfl, .inl (.inl (s2 _ _ hp0)), head_at _ _, rfl, .inr ⟨_, rfl, ?_⟩⟩
        have pick : ∃ wd2 : Str, (wd2, kS, [kS]) ∈ table ∧ atI ([.str "some", .str "all"] : List V) (if decide (V.str wd = V.str "some") = true then 1 else 0) = some (.str wd2) := by
          rcases ones with e | e
          · subst e
            rw [if_neg (by decide +kernel)]
            exact ⟨"some", some_row, rfl⟩
          · subst e
            rw [if_pos (decide_eq_true rfl)]
            exact ⟨"all", all_row, rfl⟩
        obtain ⟨wd2, row, item⟩ := pick
        refine ⟨l, _, _, _, rfl, rfl, .inl (.inl upd_same), item, (by show 1 ≤ sizeLine; decide), fun c1 nc1 => ?_⟩
        have s3 := same_put (o := .tup [.str wd2]) s2 nc1
        refine ⟨_, rfl, 1, rfl, p1, _, rfl, .inl (.inl (s3 _ _ hp0)), cut_not _ _, fun c2 nc2 => ?_⟩
        rw [cut2c]
        have s4 := same_put (o := .tup [ya]) s3 nc2
        have h31 := ne_of_none (show (upd _ c1 (.tup [.str wd2])) c1 = _ from upd_same) nc2
        refine ⟨c1, c2, [.str wd2], [ya], rfl, rfl, .inl (.inl (by rw [upd_ne h31]; exact upd_same)), .inl (.inl upd_same), by simp, (by show 1 + 1 ≤ sizeLine; decide), fun z => by (cases z), fun _ p np => ?_⟩
        have s5 := same_put (o := .tup [.str wd2, ya]) s4 np
        exact q _ _ _ (made_one row ⟨wa, Nat.le_succ _⟩) ⟨p, ya, rfl, upd_same, aa.keep (tups_same s5)⟩ (bb.trans (but_same s5)) (hFX.same s5)
      · refine ⟨_, rfl, _, rfl, p1, _, rfl, .inr (.inl (.inl hp0)), _, _, rfl, rfl, f, 1, rfl, by decide, by decide, hFX, fun r2 Y r20 r21 bY hFY => ?_⟩
        have er : r2 = 0 := by omega
        subst er
        have kY := hFX.tups bY
        have hpY := kY _ _ hp0
        have aY := aa.keep kY
        refine ⟨1, 0, rfl, rfl, ?_⟩
        refine ⟨_, rfl, _, rfl, 1, rfl, p1, _, rfl, .inl (.inl hpY), (by show ¬ (HT.sIx 2 0 none = 0 ∧ HT.sIx 2 2 (some 1) = 2); decide), fun c1 nc1 => ?_⟩
        rw [cut2a]
        have s1 : Same Y (upd Y c1 (.tup [.str wd])) := same_new nc1
        refine ⟨_, rfl, _, rfl, _, rfl, p1, _, 1, ya, rfl, rfl, .inl (.inl (s1 _ _ hpY)), atI_nat (j := 1) rfl, f, ya, a, rfl, aY.keep (tups_same s1), wa, by omega, hFY.same s1, fun t2 v2 Z m2 a2 bZ hFZ => ?_⟩
        have hc1 : Z c1 = some (.tup [.str wd]) := ((hFY.same s1).tups bZ) _ _ upd_same
        have hpZ := ((tups_same s1).trans ((hFY.same s1).tups bZ)) _ _ hpY
        refine ⟨(by show 1 ≤ sizeLine; decide), fun c2 nc2 => ?_⟩
        have s2 : Same Z (upd Z c2 (.tup [v2])) := same_new nc2
        refine ⟨c1, c2, [.str wd], [v2], rfl, rfl, .inl (.inl (s2 _ _ hc1)), .inl (.inl upd_same), by simp, (by show 1 + 1 ≤ sizeLine; decide), fun z => by (cases z), fun _ p np => ?_⟩
        have s3 := same_put (o := .tup [.str wd, v2]) s2 np
        refine ⟨_, rfl, _, rfl, _, _, rfl, rfl, 2, rfl, p1, _, rfl, .inl (.inl (s3 _ _ hpZ)), (by show ¬ (HT.sIx 2 0 (some 2) = 0 ∧ HT.sIx 2 2 none = 2); decide), fun c3 nc3 => ?_⟩
        rw [cut2b]
        have s4 := same_put (o := .tup []) s3 nc3
        have hp4 : (upd (upd (upd Z c2 (.tup [v2])) p (.tup [.str wd, v2])) c3 (.tup [])) p = some (.tup [.str wd, v2]) := by
          rw [upd_ne (ne_of_none (show (upd _ p (.tup [.str wd, v2])) p = _ from upd_same) nc3)]
          exact upd_same
        refine ⟨p, c3, [.str wd, v2], [], rfl, rfl, .inl (.inl hp4), .inl (.inl upd_same), by simp, (by show 2 + 0 ≤ sizeLine; decide), fun _ => ?_, fun z => absurd rfl z⟩
        have bZ2 : But f H Z := ((bb.trans bY).trans (but_same s1)).trans bZ
        refine q _ _ _ (Made.up (made_one (w := wd) (by rcases ones with e | e <;> rw [e] <;> decide +kernel) m2) (by show a.deep + 1 + 1 ≤ a.deep + 1 + 1; exact Nat.le_refl _)) ⟨p, v2, rfl, hp4, a2.keep (tups_same s4)⟩ (bZ2.trans (but_same s4)) (hFZ.same s4)
    · obtain ⟨a, b, et, wa, wb, ns, row⟩ := is_two hW twos
      generalize hwd : t.word = wd at *
      subst et
      obtain ⟨p0, ya, yb, ep, hp0, aa, ab⟩ := hAX
      cases ep
      have dd : max a.deep b.deep + 1 ≤ n + 1 := hd
      refine ite2 (fun _ => ?_) (fun _ => ?_)
      · refine ⟨_, rfl, p1, _, 0, _, rfl, rfl, .inl (.inl hp0), head_at _ _, (by show 2 ≤ sizeLine; decide), fun m nm => ?_⟩
        have s1 : Same X (upd X m (.tup [.str "all", .str "some"])) := same_new nm
        refine ⟨m, [.str "all", .str "some"], rfl, .inr (.inl (.inl upd_same)), rfl, rfl, _, rfl, ?_⟩
        refine inW (fun z => ?_) (fun _ => ?_)
        · rcases twos with e | e | e <;> subst e <;> exact absurd z (by decide +kernel)
        refine ⟨_, rfl, (by show 3 ≤ sizeLine; decide), fun g ng => ?_⟩
        have s2 := same_put (o := .lst [.str "and", .str "or", .str "if"]) s1 ng
        have hFs := hFX.same s1
        refine ⟨f, g, _, rfl, hFs.ne ng, .inl (.inl upd_same), (by show 0 < 3; decide), (by show 3 ≤ 1000; decide), hFX.same s2, fun x hx Y bY hFY => ?_⟩
        obtain ⟨wd2, rfl, row2⟩ := wordsB x hx
        have kY := (tups_same s2).trans ((hFX.same s2).tups bY)
        refine ⟨(by show 1 ≤ sizeLine; decide), fun c1 nc1 => ?_⟩
        have s3 : Same Y (upd Y c1 (.tup [.str wd2])) := same_new nc1
        refine ⟨_, rfl, 1, rfl, p1, _, rfl, .inl (.inl (s3 _ _ (kY _ _ hp0))), cut_not _ _, fun c2 nc2 => ?_⟩
        rw [cut3e]
        have s4 := same_put (o := .tup [ya, yb]) s3 nc2
        have h31 := ne_of_none (show (upd _ c1 (.tup [.str wd2])) c1 = _ from upd_same) nc2
        refine ⟨c1, c2, [.str wd2], [ya, yb], rfl, rfl, .inl (.inl (by rw [upd_ne h31]; exact upd_same)), .inl (.inl upd_same), by simp, (by show 1 + 2 ≤ sizeLine; decide), fun z => by (cases z), fun _ p np => ?_⟩
        have s5 := same_put (o := .tup [.str wd2, ya, yb]) s4 np
        exact q _ _ _ ((made_two row2 (d := max a.deep b.deep) ⟨wa, Nat.le_max_left _ _⟩ ⟨wb, Nat.le_max_right _ _⟩).up (Nat.le_succ _)) ⟨p, ya, yb, rfl, upd_same, (aa.keep kY).keep (tups_same s5), (ab.keep kY).keep (tups_same s5)⟩ (((bb.trans (but_same s2)).trans bY).trans (but_same s5)) (hFY.same s5)
      · refine ⟨_, rfl, _, rfl, p1, _, rfl, .inr (.inl (.inl hp0)), _, _, rfl, rfl, f, 2, rfl, by decide, by decide, hFX, fun r2 Y r20 r21 bY hFY => ?_⟩
        have kY := hFX.tups bY
        have hpY := kY _ _ hp0
        have aY := aa.keep kY
        have bY2 := ab.keep kY
        refine ⟨1, r2, rfl, rfl, ?_⟩
        have er : r2 = 0 ∨ r2 = 1 := by omega
        rcases er with e | e
        · subst e
          refine ⟨_, rfl, _, rfl, 1, rfl, p1, _, rfl, .inl (.inl hpY), (by show ¬ (HT.sIx 3 0 none = 0 ∧ HT.sIx 3 3 (some 1) = 3); decide), fun c1 nc1 => ?_⟩
          rw [cut3a]
          have s1 : Same Y (upd Y c1 (.tup [.str wd])) := same_new nc1
          refine ⟨_, rfl, _, rfl, _, rfl, p1, _, 1, ya, rfl, rfl, .inl (.inl (s1 _ _ hpY)), atI_nat (j := 1) rfl, f, ya, a, rfl, aY.keep (tups_same s1), wa, by omega, hFY.same s1, fun t2 v2 Z m2 a2 bZ hFZ => ?_⟩
          have kZ := (tups_same s1).trans ((hFY.same s1).tups bZ)
          have hc1 : Z c1 = some (.tup [.str wd]) := ((hFY.same s1).tups bZ) _ _ upd_same
          have hpZ := kZ _ _ hpY
          refine ⟨(by show 1 ≤ sizeLine; decide), fun c2 nc2 => ?_⟩
          have s2 : Same Z (upd Z c2 (.tup [v2])) := same_new nc2
          refine ⟨c1, c2, [.str wd], [v2], rfl, rfl, .inl (.inl (s2 _ _ hc1)), .inl (.inl upd_same), by simp, (by show 1 + 1 ≤ sizeLine; decide), fun z => by (cases z), fun _ p np => ?_⟩
          have s3 := same_put (o := .tup [.str wd, v2]) s2 np
          refine ⟨_, rfl, _, rfl, _, _, rfl, rfl, 2, rfl, p1, _, rfl, .inl (.inl (s3 _ _ hpZ)), (by show ¬ (HT.sIx 3 0 (some 2) = 0 ∧ HT.sIx 3 3 none = 3); decide), fun c3 nc3 => ?_⟩
          rw [cut3b]
          have s4 := same_put (o := .tup [yb]) s3 nc3
          have hp4 : (upd (upd (upd Z c2 (.tup [v2])) p (.tup [.str wd, v2])) c3 (.tup [yb])) p = some (.tup [.str wd, v2]) := by
            rw [upd_ne (ne_of_none (show (upd _ p (.tup [.str wd, v2])) p = _ from upd_same) nc3)]
            exact upd_same
          refine ⟨p, c3, [.str wd, v2], [yb], rfl, rfl, .inl (.inl hp4), .inl (.inl upd_same), by simp, (by show 2 + 1 ≤ sizeLine; decide), fun z => by (cases z), fun _ p7 np7 => ?_⟩
          have s5 := same_put (o := .tup [.str wd, v2, yb]) s4 np7
          have bZ2 : But f H Z := ((bb.trans bY).trans (but_same s1)).trans bZ
          exact q _ _ _ ((made_two row (d := max a.deep b.deep + 1) (m2.up (by omega)) ⟨wb, by omega⟩).up (Nat.le_refl _)) ⟨p7, v2, yb, rfl, upd_same, a2.keep (tups_same s5), (bY2.keep kZ).keep (tups_same s5)⟩ (bZ2.trans (but_same s5)) (hFZ.same s5)
        · subst e
          refine ⟨_, rfl, _, rfl, 2, rfl, p1, _, rfl, .inl (.inl hpY), (by show ¬ (HT.sIx 3 0 none = 0 ∧ HT.sIx 3 3 (some 2) = 3); decide), fun c1 nc1 => ?_⟩
          rw [cut3c]
          have s1 : Same Y (upd Y c1 (.tup [.str wd, ya])) := same_new nc1
          refine ⟨_, rfl, _, rfl, _, rfl, p1, _, 2, yb, rfl, rfl, .inl (.inl (s1 _ _ hpY)), atI_nat (j := 2) rfl, f, yb, b, rfl, bY2.keep (tups_same s1), wb, by omega, hFY.same s1, fun t2 v2 Z m2 a2 bZ hFZ => ?_⟩
          have kZ := (tups_same s1).trans ((hFY.same s1).tups bZ)
          have hc1 : Z c1 = some (.tup [.str wd, ya]) := ((hFY.same s1).tups bZ) _ _ upd_same
          have hpZ := kZ _ _ hpY
          refine ⟨(by show 1 ≤ sizeLine; decide), fun c2 nc2 => ?_⟩
          have s2 : Same Z (upd Z c2 (.tup [v2])) := same_new nc2
          refine ⟨c1, c2, [.str wd, ya], [v2], rfl, rfl, .inl (.inl (s2 _ _ hc1)), .inl (.inl upd_same), by simp, (by show 2 + 1 ≤ sizeLine; decide), fun z => by (cases z), fun _ p np => ?_⟩
          have s3 := same_put (o := .tup [.str wd, ya, v2]) s2 np
          refine ⟨_, rfl, _, rfl, _, _, rfl, rfl, 3, rfl, p1, _, rfl, .inl (.inl (s3 _ _ hpZ)), (by show ¬ (HT.sIx 3 0 (some 3) = 0 ∧ HT.sIx 3 3 none = 3); decide), fun c3 nc3 => ?_⟩
          rw [cut3d]
          have s4 := same_put (o := .tup []) s3 nc3
          have hp4 : (upd (upd (upd Z c2 (.tup [v2])) p (.tup [.str wd, ya, v2])) c3 (.tup [])) p = some (.tup [.str wd, ya, v2]) := by
            rw [upd_ne (ne_of_none (show (upd _ p (.tup [.str wd, ya, v2])) p = _ from upd_same) nc3)]
            exact upd_same
          refine ⟨p, c3, [.str wd, ya, v2], [], rfl, rfl, .inl (.inl hp4), .inl (.inl upd_same), by simp, (by show 3 + 0 ≤ sizeLine; decide), fun _ => ?_, fun z => absurd rfl z⟩
          have bZ2 : But f H Z := ((bb.trans bY).trans (but_same s1)).trans bZ
          exact q _ _ _ ((made_two row (d := max a.deep b.deep + 1) ⟨wa, by omega⟩ (m2.up (by omega))).up (Nat.le_refl _)) ⟨p, ya, v2, rfl, hp4, (aY.keep kZ).keep (tups_same s4), a2.keep (tups_same s4)⟩ (bZ2.trans (but_same s4)) (hFZ.same s4)
theorem ok_ots {f ft fp : Addr} {fd dt dp : FuncData} (F : Fun K "_law_otherwise" "_law_otherwise" sOt f fd) (D : Draw P w K mg base ft fp dt dp) (bS : Binds K fd ["feed", "saying"] []) (mS : mg "_law_otherwise" = some (.ref f)) (zI : mg "int" = none) (zL : mg "len" = none) :
    ∀ n : Nat, FnOk P w K mg base CX0 (2 + n) f fd ["feed", "saying"] (spOt n)
  | 0 => no_calls fun vs H Q E h => by
    obtain ⟨a, v, t, _, _, _, hd, _⟩ := h
    have := deep_pos t
    omega
  | n + 1 => ok_ot F D (ok_ots F D bS mS zI zL n) bS mS zI zL
end
end Kf
set_option Elab.async false
set_option linter.all false
set_option maxRecDepth 100000
set_option maxHeartbeats 3900000
/-! A lambda with parameters and captured names, handed as the second of two to a def, called there. Its frame is begun as that of a def within a def. -/
namespace LmY
open PySem PySem.Spec PyProof.Rows L2 LamX NdefX
/-- the lambda as a def within the def of X, whose code object is k -/
abbrev lamF (X : Cx) (ar : Arguments) (sc : Scope) (k : Addr) : NF := ⟨"<lambda>", X.env.qual ++ "<lambda>", ar, [], sc, cloFrom X.env.cells sc.names [], k⟩
/-- where its body runs: its names are N -/
abbrev lamX (X : Cx) (N : List Str) (ar : Arguments) (sc : Scope) (fo k : Addr) (A : Around) (outer : List Env) (sh : Shared) (hp : Hp) : Cx := ncx L2.CX0 X.prog X.w X.K X.mg X.base N (lamF X ar sc k) fo A outer sh hp L2.E0
/-- where the def runs that got it, entered from X's frame -/
abbrev gotX (X : Cx) (Ng : List Str) (x : Str) (sg : Scope) (g : Addr) (cg : Value) (sh : Shared) (hp : Hp) : Cx := (cxOf L2.CX0 X.prog X.w X.K X.mg X.base Ng x sg g cg X.A X.stack sh hp L2.E0).nox
/-- cells that no def of the text writes hold what they held -/
theorem cells_stay {cl : List (Str × Addr)} {fr : List Str} {ws : List (Option V)} {g g2 : Heap} {hp hp2 : Hp} {fs : List Addr} (un : Un fs [] hp hp2 g g2) (cs : CellsAt cl fr ws g hp) : CellsAt cl fr ws g2 hp2 := by
  have still : ∀ a, hp a = none → ∀ val, g.IsCell a val → g2.IsCell a val := fun a off val ⟨ob, at1, dat⟩ => by
    obtain ⟨_, at2⟩ := un.any at1 off List.not_mem_nil
    exact ⟨_, at2, dat⟩
  refine ⟨cs.len, fun nm a e => ?_, cs.inj, fun j nm e => ?_⟩
  · obtain ⟨off, val, cell⟩ := cs.all nm a e
    obtain ⟨ob, at1, _⟩ := id cell
    exact ⟨un.free a ob at1 off List.not_mem_nil, val, still a off val cell⟩
  · obtain ⟨a, e1, has⟩ := cs.has j nm e
    refine ⟨a, e1, fun z ez => ?_⟩
    obtain ⟨u, rz, cell⟩ := has z ez
    exact ⟨u, rz, still a (cs.all nm a e1).1 _ cell⟩
section
variable {X : Cx} {pins : List (Addr × Obj)} {σ : L2.St} {H : Hp} {s : Shared}
/-- a call that ends without an exception, told to its caller -/
theorem land {fo : Addr} {us : List Value} {Q : VK} (I : Inv X pins σ H s) (run : codeAny (model X.prog X.w) X.A (.call (.ref fo) ⟨us, []⟩) (CR L2.CX0 X.stack X.prog X.w H s Q L2.E0) s) :
    wpAny (model X.prog X.w) X.A (call (.ref fo) us) (EP X pins σ Q) X.xe s :=
  wpAny_call (codeAny_mono run fun res s2 told => match res, told with
    | .ok (.ret _), told => I.after told
    | .ok .next, told => told.elim
    | .ok .brk, told => told.elim
    | .ok .cont, told => told.elim
    | .error _, told => (show False from told).elim)
/-- x(e, ..), in the def that got the lambda as x -/
theorem pe_lact {N ps fr Ng : List Str} {js : List Nat} {qg : Str} {sg : Scope} {g fo k : Addr} {cg pm ctv : Value} {ar : Arguments} {body : Expr} {sc : Scope} {m i : Nat} {a : Str} {tb : TE} {p1 p2 : Pos} {e : Expr} {es : List Expr} {t : TA}
    (I : Inv X pins σ H s) (S : NScope N ps fr sc) (cp : Caps X (cloFrom X.env.cells sc.names []) fr js)
    (at_ : s.heap.get? fo = some (PySem.W.kla_obj "<lambda>" (X.env.qual ++ "<lambda>") ar body sc (cloFrom X.env.cells sc.names []) pm k ctv)) (off : H fo = none) (noF : fo ∉ frs X.stack)
    (bind : ∀ us : List Value, us.length = ps.length → bindArgs (PySem.W.kla_fn "<lambda>" (X.env.qual ++ "<lambda>") ar body sc (cloFrom X.env.cells sc.names []) pm (.ref k) ctv) ⟨us, []⟩ = pure (ps.zip us))
    (room : Room (m + 1) (X.A.deeper (envOfC qg sg s.heap.objs.size g cg)))
    (inner : ∀ (A : Around) (outer : List Env) (sh : Shared) (hp : Hp), Room m (A.deeper (envF (lamF X ar sc k) fo sh.heap.objs.size)) → PE (lamX X N ar sc fo k A outer sh hp) body tb)
    (hN : Ng[i]? = some a) (hv : Vis sg a) (pa : PA (gotX X Ng qg sg g cg s H) (e :: es) t)
    (h1 : (a == ("__debug__" : Str)) = false := by decide) (h2 : (a == ("__classdict__" : Str)) = false := by decide)
    (h3 : starEach (e :: es) (envOfC qg sg s.heap.objs.size g cg) = (false, eval e (envOfC qg sg s.heap.objs.size g cg)) :: starEach es (envOfC qg sg s.heap.objs.size g cg) := by rfl)
    (h4 : (backTo p2 (starEach es (envOfC qg sg s.heap.objs.size g cg))).any (·.1) = false := by rfl) :
    PE (gotX X Ng qg sg g cg s H) (.Call (.Name a p1) (e :: es) [] p2)
      (fun σZ HZ Q => σZ[i]? = some (some (.ref fo)) ∧ t σZ HZ fun vs H1 => vs.length = ps.length ∧ H1 k = some (CodeO k (X.env.qual ++ "<lambda>")) ∧ tb (startF N vs (js.map (slotAt σ))) H1 Q) := by
  refine ⟨fun pinsZ sZ σZ HZ Q IZ ⟨slot, rest⟩ => ?_⟩
  have same : ∀ {pn : List (Addr × Obj)} {τ : L2.St} {hp : Hp} {sh : Shared}, Inv (gotX X Ng qg sg g cg s H) pn τ hp sh → sh.heap.get? fo = some (PySem.W.kla_obj "<lambda>" (X.env.qual ++ "<lambda>") ar body sc (cloFrom X.env.cells sc.names []) pm k ctv) :=
    fun J => J.base.keep fo _ at_ off noF List.not_mem_nil
  have name := (pe_var (X := gotX X Ng qg sg g cg s H) (pos := p1) (i := i) hN hv h1 h2).run pinsZ sZ σZ HZ (fun val hp => val = .ref fo ∧ hp = HZ) IZ ⟨.ref fo, slot, rfl, rfl⟩
  refine wpAny_Call_Name_kw (thn name fun val s1 ⟨_, _, I1, rel, ev, eh⟩ => ?_)
  subst ev eh
  cases (show val = Value.ref fo from rel)
  refine PySem.W.callWith_F (first := []) ⟨_, _, _, _, same I1⟩ (thn (pa.run p2 pinsZ s1 σZ _ _ I1 rest) fun us s2 ⟨vs, H2, I2, rv, len, code, ht⟩ => ⟨⟨_, _, _, _, same I2⟩, land (us := us) I2 ?_⟩) h3 h4
  obtain ⟨⟨oc, fields, tq, o1, o2, o3⟩, _, _⟩ := I2.hok k _ code
  refine PySem.W.kla_callFunE room.depth (same I2) rfl S.co S.gen rfl ⟨k, oc, fields, tq, rfl, o1, o2, o3⟩ ?_
  rw [bind us (rv.length.symm.trans len)]
  refine wpAny_pure (wpAny_newFunctionEnv (fun y hy => S.nocell y hy) (fun y hy => S.par y.1 (List.of_mem_zip hy).1) (fun g1 ns1 more => ⟨I2.nolimit.fresh _ more, ?_⟩) S.kind)
  have grown : ∀ b ob, s2.heap.get? b = some ob → g1.get? b = some ob := fun b ob eb => more.extBut b ob (Nat.ne_of_lt (Heap.lt_size eb)) (Heap.get?_push_of_some _ eb)
  have J := inv_startN (CX := L2.CX0) (E := L2.E0) (tk := s2.toks + (ps.zip us).length) (F := lamF X ar sc k) (f := fo) S room.hd I2.env0 len rv (cells_stay I2.base (cells_of I cp)) ns1 grown
  refine PySem.W.kla_codeExpr (wpAny_mono ((inner _ _ s2 H2 (room.deeper _)).run [] _ _ H2 Q J ht) (fun _ s3 ⟨w3, H3, J3, r3, q3⟩ => ?_) fun _ _ bad => bad)
  exact ⟨w3, H3, J3.os, J3.bare, J3.base, J3.hok, r3, q3⟩
end
/-- what the def that got the lambda makes of its calls: TT -/
def Gives2 (X : Cx) (Ng : List Str) (x : Str) (sg : Scope) (g : Addr) (cg : Value) (bg : List Stmt) (a : Str) (q : Str) (ps : List Str) (m : Nat) (TT : (List V → Hp → VK → Prop) → V → Hp → VK → Prop) : Prop :=
  ∀ (fo k : Addr) (s : Shared) (H : Hp) (v : V) (Q : VK) (tl : List V → Hp → VK → Prop),
    (∀ (p1 p2 : Pos) (e : Expr) (es : List Expr) (t : TA), PA (gotX X Ng x sg g cg s H) (e :: es) t →
      starEach (e :: es) (envOfC x sg s.heap.objs.size g cg) = (false, eval e (envOfC x sg s.heap.objs.size g cg)) :: starEach es (envOfC x sg s.heap.objs.size g cg) → (backTo p2 (starEach es (envOfC x sg s.heap.objs.size g cg))).any (·.1) = false →
      PE (gotX X Ng x sg g cg s H) (.Call (.Name a p1) (e :: es) [] p2) (fun σZ HZ Q => σZ[1]? = some (some (.ref fo)) ∧ t σZ HZ fun vs H1 => vs.length = ps.length ∧ H1 k = some (CodeO k q) ∧ tl vs H1 Q)) →
    Room (m + 1) (X.A.deeper (envOfC x sg s.heap.objs.size g cg)) → H k = some (CodeO k q) → TT tl v H Q →
    ∃ t, PSs (gotX X Ng x sg g cg s H) bg t ∧ t { nx := fun _ H' => Q .non H', rt := Q } (L2.start Ng [v, .ref fo]) H
def tLam2 (T : List (Addr × Str)) (N : List Str) (js : List Nat) (TT : (List V → Hp → VK → Prop) → V → Hp → VK → Prop) (te : TE) (t : TE) : TE := fun σ H Q => te σ H fun v H0 => Tabs T H0 ∧ ∀ H1, ExtN H0 H1 → Tabs T H1 → TT (fun vs H' Q' => t (startF N vs (js.map (slotAt σ))) H' Q') v H1 Q
section
variable {X : Cx}
/-- x(e, lambda ..: body) -/
theorem pe_lamcall2 {T : List (Addr × Str)} {TT : (List V → Hp → VK → Prop) → V → Hp → VK → Prop} {x a0 a : Str} {g c tab : Addr} {m : Nat} {pg : Arguments} {bg : List Stmt} {sg : Scope} {dV kV doc pm cdv ct oc : Value} {an od : Option Addr} {osl : Array (Option Value)} {N Ng ps fr : List Str} {js : List Nat}
    {ar : Arguments} {body e : Expr} {sc : Scope} {te t : TE} {p0 p1 p2 : Pos} (gx : Gl X x) (mx : X.mg x = some (.ref g)) (kx : PySem.W.keepIn X.K (.ref g) = true)
    (look : X.K.lookup g = some ⟨oc, od, .func (PySem.W.fnOf x x pg bg sg dV kV doc pm an cdv ct), osl⟩) (code : PySem.W.codeIn X.K cdv x = true) (bx : L2.Binds X.K (PySem.W.fnOf x x pg bg sg dV kV doc pm an cdv ct) [a0, a] []) (Sg : FnScope Ng [a0, a] sg) (second : Ng[1]? = some a) (seen : Vis sg a)
    (gives : Gives2 X Ng x sg g cdv bg a (X.env.qual ++ "<lambda>") ps m TT) (pe : PE X e te)
    (own : TabB X.base X.mg c tab) (mine : X.env.code = .ref c) (inT : (tab, X.env.qual ++ "<lambda>") ∈ T) (sole : ∀ p ∈ T, p.1 = tab → p.2 = X.env.qual ++ "<lambda>") (room : Room (m + 2) X.A)
    (S : NScope N ps fr sc) (held : ndefB X.env.scope sc fr = true) (slots : js.map (fun j => X.N[j]?) = fr.map some) (plain : defaultsOf ar X.env = ([], []))
    (bind : ∀ (q : Str) (cl : List (Str × Addr)) (pm cv ctv : Value) (us : List Value), us.length = ps.length → bindArgs (PySem.W.kla_fn "<lambda>" q ar body sc cl pm cv ctv) ⟨us, []⟩ = pure (ps.zip us))
    (inner : ∀ (A : Around) (outer : List Env) (sh : Shared) (hp : Hp) (fo k : Addr), Room m (A.deeper (envF (lamF X ar sc k) fo sh.heap.objs.size)) → PE (lamX X N ar sc fo k A outer sh hp) body t)
    (h0 : (x == ("__debug__" : Str)) = false := by decide) (h1 : (a == ("__debug__" : Str)) = false := by decide) (h2 : (a == ("__classdict__" : Str)) = false := by decide)
    (h3 : starEach (e :: [.Lambda ar body sc p1]) X.env = (false, eval e X.env) :: starEach [.Lambda ar body sc p1] X.env := by rfl) :
    PE X (.Call (.Name x p0) [e, .Lambda ar body sc p1] [] p2) (tLam2 T N js TT te t) := by
  refine ⟨fun pins s σ H Q I reading => wpAny_Call_Name_kw (ld_glob I gx mx (PySem.W.callWith_K (h₀ := X.base) I.ok.mod.kin kx ?_ h3 (by rfl)) h0)⟩
  rw [h3]
  show wpAny _ _ (spliced ((false, eval e X.env) :: backTo p2 (starEach [.Lambda ar body sc p1] X.env))) _ _ s
  refine Calls.spliced_cons (thn (pe.run pins s σ H _ I reading) fun u s0 ⟨v, H0, I0, r0, tabs0, later⟩ => ?_)
  show wpAny _ _ (spliced ((false, eval (.Lambda ar body sc p1) X.env) :: backTo p2 (starEach [] X.env))) _ _ s0
  refine Calls.spliced_cons (lam_make2 I0 own mine inT sole tabs0 plain (fun y hy e => (ndef_free held y hy e).elim (fun z => I0.ok.has _ (.inl z)) fun z => I0.ok.has _ (.inr z)) fun fo k pmF ctF H1 s1 I1 grown tabs1 at_ off noF codeK => Calls.spliced_nil ⟨I1.kIn, land I1 ?_⟩)
  refine run_ofS (N := Ng) (ps := [a0, a]) (us := [u, .ref fo]) (vs := [v, .ref fo]) look code Sg room I1.env0 (bx s1 [u, .ref fo] I1.kIn rfl) (.cons r0 (.cons rfl .nil)) rfl fun room1 => ?_
  obtain ⟨ts, run, told⟩ := gives fo k s1 H1 v Q _ (fun q1 q2 e1 es1 t1 pa he hp => pe_lact (i := 1) (js := js) I1 S (Caps.made I1.ok (ndef_free held) (ndef_fr held) slots) at_ off noF (fun us hl => bind _ _ _ _ _ us hl) room1 (fun A outer sh hp2 r2 => inner A outer sh hp2 fo k r2) second seen pa h1 h2 he hp) room1 codeK (later H1 grown tabs1)
  exact ⟨ts, run.nox, told⟩
end
end LmY
set_option Elab.async false
set_option linter.all false
set_option maxRecDepth 100000
set_option maxHeartbeats 3900000
/-! The end of a law whose defs want to know that no repr is under way around them: its def is run from the caller alone. -/
namespace Gd
open PySem PySem.Spec PyProof.Rows L2 LamX LmY
section
variable {P : Program} {w : World} {K : PySem.W.Frag} {mg mb : Str → Option Value} {k : Nat} {fa scr : Addr} {cs : List (Addr × Addr)} {st : Shared} {vs : List Value} {ns : List Int}
/-- what stands in the heap ahead of the law's call -/
structure Ahead (K : PySem.W.Frag) (mg mb : Str → Option Value) (cs : List (Addr × Addr)) (scr : Addr) (vs : List Value) (st : Shared) : Prop where
  kin : K.In st.heap
  glob : st.heap.Ns mainGlobals mg
  blt : st.heap.Ns builtinsNs mb
  boot : ∀ x : Str, x ≠ "__name__" → mb x = bootBuiltins x
  lim : st.heap.NoLimit
  gens : st.gens = #[]
  tabs : ∀ p ∈ cs, st.heap.get? p.2 = some { cls := .none, data := .fields #[] }
  offK : ∀ p ∈ cs, K.lookup p.2 = none
  codes : ∀ p ∈ cs, PySem.W.CodeHd st.heap p.1 p.2
  mod : ∃ (bm : Addr) (ob : Obj), mg "__builtins__" = some (.ref bm) ∧ bm ≠ builtinsNs ∧ st.heap.get? bm = some ob ∧ ob.cls = .type "module" ∧ ob.dict = some builtinsNs ∧ ob.data = .plain
  list : st.heap.get? scr = some { cls := .type "list", data := .seq vs.toArray }
/-- tracked are the script and the tables at most -/
structure Few (K : PySem.W.Frag) (cs : List (Addr × Addr)) (scr : Addr) (H : Hp) : Prop where
  only : ∀ b, H b ≠ none → b = scr ∨ ∃ p ∈ cs, p.2 = b
  notK : H scr ≠ none → K.lookup scr = none
theorem untracked (W : Ahead K mg mb cs scr vs st) {H : Hp} (F : Few K cs scr H) {b : Addr} {ob : Obj} (at_ : st.heap.get? b = some ob) (n1 : ∀ us m, ob.data ≠ .seq us m) (n2 : ob.data ≠ .fields #[]) : H b = none := by
  refine Decidable.byContradiction fun z => ?_
  rcases F.only b z with rfl | ⟨p, hp, rfl⟩
  · rw [W.list] at at_
    cases at_
    exact n1 _ _ rfl
  · rw [W.tabs p hp] at at_
    cases at_
    exact n2 rfl
theorem hid_ns (W : Ahead K mg mb cs scr vs st) {H : Hp} (F : Few K cs scr H) {b : Addr} {m : Str → Option Value} (h : st.heap.Ns b m) : (hidT st.heap H).Ns b m := by
  obtain ⟨ob, es, ep, at_, dat, rest⟩ := h
  refine ⟨ob, es, ep, hidT_get at_ (untracked W F at_ (fun us m z => ?_) fun z => ?_), dat, rest⟩ <;> (rw [dat] at z; cases z)
theorem hid_in (W : Ahead K mg mb cs scr vs st) {H : Hp} (F : Few K cs scr H) : K.In (hidT st.heap H) := fun b ob e => by
  refine hidT_get (W.kin b ob e) (Decidable.byContradiction fun z => ?_)
  rcases F.only b z with rfl | ⟨p, hp, rfl⟩
  · rw [F.notK z] at e
    cases e
  · rw [W.offK p hp] at e
    cases e
theorem hid_tab (W : Ahead K mg mb cs scr vs st) {H : Hp} (F : Few K cs scr H) : ∀ p ∈ cs, TabB (hidT st.heap H) mg p.1 p.2 := fun p hp => by
  have here := W.tabs p hp
  have plainG : ∀ {b : Addr} {ob : Obj}, st.heap.get? b = some ob → (∃ es ep, ob.data = .dict es ep) → b ≠ p.2 := fun e ⟨es, ep, d⟩ z => by
    rw [z, here] at e
    cases e
    cases d
  refine ⟨?_, ?_, ?_⟩
  · obtain ⟨ob, us, file, tf, flags, tg, inF, text, tt, e1, r1, r2, r3, rest⟩ := W.codes p hp
    refine ⟨ob, us, file, tf, flags, tg, inF, text, tt, hidT_get e1 (untracked W F e1 (fun us m z => ?_) fun z => ?_), r1, r2, r3, rest⟩
    · rw [r2] at z
      cases z
    · rw [r2] at z
      cases z
      simp at r3
  · obtain ⟨bm, ob, b1, b2, b3, b4, b5, b6⟩ := W.mod
    refine ⟨bm, ob, b1, b2, fun z => ?_, fun z => ?_, hidT_get b3 (untracked W F b3 (fun us m z => ?_) fun z => ?_), b4, b5, b6⟩
    · obtain ⟨og, es, ep, e, dat, _⟩ := W.glob
      rw [z, e] at b3
      cases b3
      rw [dat] at b6
      cases b6
    · rw [z, here] at b3
      cases b3
      cases b6
    · rw [b6] at z
      cases z
    · rw [b6] at z
      cases z
  · obtain ⟨og, es, ep, e, dat, _⟩ := W.glob
    exact plainG e ⟨es, ep, dat⟩
theorem hid_env (W : Ahead K mg mb cs scr vs st) {H : Hp} (F : Few K cs scr H) (hok : HOk P w H st.heap) : Env0 P w K mg (hidT st.heap H) callerA [] st H :=
  ⟨rfl, ⟨hid_in W F, hid_ns W F W.glob, ⟨mb, hid_ns W F W.blt, W.boot⟩, let ⟨mc, c1, c2⟩ := W.lim; ⟨mc, hid_ns W F c1, c2⟩⟩, fun b ob e => of_hidT e, Nat.le_of_eq (hidT_size _ _), trivial, fun b hb => (List.not_mem_nil (show b ∈ ([] : List Addr) from hb)).elim, hok, .of_eq W.gens⟩
/-- what is told of the heap behind the call -/
theorem behind (W : Ahead K mg mb cs scr vs st) {H : Hp} (F : Few K cs scr H) (hok : HOk P w H st.heap) (tb : ∀ p ∈ cs, H p.2 = some (.tbl #[])) (fz : H scr = none ∨ ∃ ob xs, H scr = some (.frz ob (.lst xs))) {r : Result} {s' : Shared}
    (told : CR L2.CX0 [] P w H st (fun v _ => v = .bl true) L2.E0 r s') : r = .ok (.ret (.bool true)) ∧ OldK st.heap s'.heap ∧ s'.os = st.os ∧ AllBare s'.gens := by
  match r, told with
  | .error _, told => exact (show False from told).elim
  | .ok .next, told => exact (show False from told).elim
  | .ok .brk, told => exact (show False from told).elim
  | .ok .cont, told => exact (show False from told).elim
  | .ok (.ret u), told =>
    obtain ⟨v, H2, os, bare, un, hok2, rel, isT⟩ := told
    have isT : v = .bl true := isT
    subst isT
    obtain rfl : u = Value.bool true := rel
    have noE : ∀ b : Addr, b ∉ ([] : List Addr) := fun _ => List.not_mem_nil
    have grown : ∀ p ∈ cs, ∃ more : Array Value, s'.heap.get? p.2 = some { cls := .none, data := .fields more } := fun p hp => by
      obtain ⟨more, e⟩ := un.tbls p.2 #[] (tb p hp)
      exact ⟨_, hok2 p.2 _ e⟩
    have stays : ∀ b ob, (¬ ∃ p ∈ cs, p.2 = b) → st.heap.get? b = some ob → s'.heap.get? b = some ob := fun b ob far e => by
      by_cases z : H b = none
      · exact un.keep b ob e z (noE b) (noE b)
      · rcases F.only b z with rfl | h
        · rcases fz with f | ⟨o2, xs, f⟩
          · exact absurd f z
          · obtain ⟨e1, _⟩ := hok _ _ f
            obtain ⟨e2, _⟩ := hok2 _ _ (un.frzs _ _ _ f)
            rw [e] at e1
            cases e1
            exact e2
        · exact absurd h far
    refine ⟨rfl, ⟨fun b ob e => ?_, fun b ob e => ?_⟩, os, bare⟩
    · by_cases h : ∃ p ∈ cs, p.2 = b
      · obtain ⟨p, hp, rfl⟩ := h
        obtain ⟨more, hm⟩ := grown p hp
        rw [W.tabs p hp] at e
        cases e
        exact .inr (.inl ⟨((W.codes p hp).tab (W.tabs p hp)).isCodeTable, rfl, #[], more, rfl, by rw [Array.empty_append]; exact hm⟩)
      · exact .inl (stays b ob h e)
    · by_cases h : ∃ p ∈ cs, p.2 = b
      · obtain ⟨p, hp, rfl⟩ := h
        obtain ⟨more, hm⟩ := grown p hp
        exact ⟨_, hm⟩
      · exact ⟨ob, stays b ob h e⟩
open Classical in
/-- THE END: the law's def by its run from the caller alone -/
theorem end_at (W : Ahead K mg mb cs scr vs st) (are : IntsAre vs ns) (short : ns.length ≤ sizeLine)
    (run : ∀ (base : Heap) (H : Hp), K.In base → base.Ns mainGlobals mg → (∀ p ∈ cs, TabB base mg p.1 p.2) → (∀ p ∈ cs, H p.2 = some (.tbl #[])) → SqL K H scr (ns.map V.int) → Env0 P w K mg base callerA [] st H →
      codeAny (model P w) callerA (.call (.ref fa) ⟨[.ref scr], []⟩) (CR L2.CX0 [] P w H st (fun v _ => v = .bl true) L2.E0) st) :
    codeAny (model P w) callerA (.call (.ref fa) ⟨[.ref scr], []⟩) (fun r s' => r = .ok (.ret (.bool true)) ∧ OldK st.heap s'.heap ∧ s'.os = st.os ∧ AllBare s'.gens) st := by
  have rv := vals_ints are
  have same := are.length
  have scrT : ¬ ∃ p ∈ cs, p.2 = scr := fun ⟨p, hp, e⟩ => by
    have z := W.tabs p hp
    rw [e, W.list] at z
    cases z
  have go : ∀ H : Hp, (∀ b, (∃ p ∈ cs, p.2 = b) → H b = some (.tbl #[])) → (∀ b, (¬ ∃ p ∈ cs, p.2 = b) → b ≠ scr → H b = none) → (H scr = none ∨ (K.lookup scr = none ∧ H scr = some (.frz { cls := .type "list", data := .seq vs.toArray } (.lst (ns.map V.int))))) → SqL K H scr (ns.map V.int) →
      codeAny (model P w) callerA (.call (.ref fa) ⟨[.ref scr], []⟩) (fun r s' => r = .ok (.ret (.bool true)) ∧ OldK st.heap s'.heap ∧ s'.os = st.os ∧ AllBare s'.gens) st := by
    intro H isTab noneElse atScr seq
    have few : Few K cs scr H := ⟨fun b z => by
      by_cases h : ∃ p ∈ cs, p.2 = b
      · exact .inr h
      · exact .inl (Decidable.byContradiction fun n => z (noneElse b h n)), fun z => (atScr.resolve_left z).1⟩
    have hok : HOk P w H st.heap := fun b ob e => by
      by_cases h : ∃ p ∈ cs, p.2 = b
      · rw [isTab b h] at e
        cases e
        obtain ⟨p, hp, rfl⟩ := h
        exact W.tabs p hp
      · by_cases n : b = scr
        · subst n
          rcases atScr with z | ⟨_, z⟩
          · rw [z] at e
            cases e
          · rw [z] at e
            cases e
            exact ⟨W.list, by rw [List.length_map]; exact short, vs, _, rv, W.list⟩
        · rw [noneElse b h n] at e
          cases e
    have tb : ∀ p ∈ cs, H p.2 = some (.tbl #[]) := fun p hp => isTab p.2 ⟨p, hp, rfl⟩
    exact codeAny_mono (run _ H (hid_in W few) (hid_ns W few W.glob) (hid_tab W few) tb seq (hid_env W few hok)) fun r s' told => behind W few hok tb (atScr.imp id fun z => ⟨_, _, z.2⟩) told
  cases hk : K.lookup scr with
  | some ob =>
    have e := W.kin scr ob hk
    rw [W.list] at e
    cases e
    exact go (fun b => if ∃ p ∈ cs, p.2 = b then some (.tbl #[]) else none) (fun b h => if_pos h) (fun b h _ => if_neg h) (.inl (if_neg scrT)) (.inr ⟨_, vs.toArray, _, hk, rfl, rfl, rfl, by rw [List.size_toArray, same]; exact short, by simpa using rv⟩)
  | none =>
    refine go (fun b => if b = scr then some (.frz { cls := .type "list", data := .seq vs.toArray } (.lst (ns.map V.int))) else if ∃ p ∈ cs, p.2 = b then some (.tbl #[]) else none) (fun b h => ?_) (fun b h n => ?_) (.inr ⟨hk, if_pos rfl⟩) (.inl (.inr ⟨_, if_pos rfl⟩))
    · exact (if_neg (fun z => scrT (by rw [← z]; exact h))).trans (if_pos h)
    · exact (if_neg n).trans (if_neg h)
end
end Gd
set_option Elab.async false
set_option linter.all false
set_option maxRecDepth 100000
set_option maxHeartbeats 3900000
/-! Defs that are run where no repr is under way; repr of data. -/
namespace Gd
open PySem PySem.Spec PyProof.Rows L2 LamX LmY
/-- as FnOk, where no repr is under way around the call -/
structure FnG (P : Program) (w : World) (K : PySem.W.Frag) (mg : Str → Option Value) (base : Heap) (k : Nat) (f : Addr) (fd : FuncData) (ps : List Str) (sp : Sp) : Prop where
  len : ∀ vs H Q E, sp vs H Q E → vs.length = ps.length
  run : ∀ (A : Around) (outer : List Env) (s : Shared) (H : Hp) (args : Args) (us : List Value) (vs : List V) (Q : VK), A.guards = some [] → Room k A → Env0 P w K mg base A outer s H → BindsTo s fd args (ps.zip us) → Vals vs us → sp vs H Q L2.E0 →
    codeAny (model P w) A (.call (.ref f) args) (CR L2.CX0 outer P w H s Q L2.E0) s
section
variable {P : Program} {w : World} {K : PySem.W.Frag} {mg : Str → Option Value} {base : Heap}
/-- a def of the text, by its body -/
theorem okG {x : Str} {st : Stmt} {f : Addr} {fd : FuncData} {N ps : List Str} {k : Nat} {sp : Sp} (F : Fun K x x st f fd) (S : FnScope N ps (defScope st)) (len : ∀ vs H Q E, sp vs H Q E → vs.length = ps.length)
    (body : ∀ (cdv : Value) (A : Around) (outer : List Env) (s : Shared) (H : Hp) (vs : List V) (Q : VK), A.guards = some [] → Room k (A.deeper (envOfC x (defScope st) s.heap.objs.size f cdv)) → sp vs H Q L2.E0 →
      ∃ t, PSs (cxOf L2.CX0 P w K mg base N x (defScope st) f cdv A outer s H L2.E0).nox (defBody st) t ∧ t { nx := fun _ H' => Q .non H', rt := Q } (L2.start N vs) H) : FnG P w K mg base (k + 1) f fd ps sp := by
  obtain ⟨oc, od, kV, doc, pm, an, cdv, ct, osl, rfl, look, code⟩ := F.ex
  refine ⟨len, fun A outer s H args us vs Q gu room e0 bind rel h => ?_⟩
  refine run_ofS look code S room e0 bind rel (len _ _ _ _ h) fun room1 => ?_
  obtain ⟨t, run, told⟩ := body cdv A outer s H vs Q gu room1 h
  exact ⟨t, run.nox, told⟩
/-- FnOk is more -/
theorem FnG.of {k : Nat} {f : Addr} {fd : FuncData} {ps : List Str} {sp : Sp} (F : FnOk P w K mg base L2.CX0 k f fd ps sp) : FnG P w K mg base k f fd ps sp := ⟨F.len, fun A outer s H args us vs Q _ room e0 bind rel h => F.run A outer s H args us vs Q L2.E0 room e0 bind rel h⟩
end
section
variable {X : Cx}
/-- x(e, ..), x such a def -/
theorem pe_callG {k : Nat} {f : Addr} {fd : FuncData} {ps : List Str} {sp : Sp} {x : Str} {p pos : Pos} {e : Expr} {es : List Expr} {t : TA} (F : FnG X.prog X.w X.K X.mg X.base k f fd ps sp) (gu : X.A.guards = some []) (room : Room k X.A) (gl : Gl X x) (mx : X.mg x = some (.ref f)) (kx : PySem.W.keepIn X.K (.ref f) = true)
    (bind : L2.Binds X.K fd ps []) (pa : PA X (e :: es) t) (h0 : (x == ("__debug__" : Str)) = false := by decide)
    (h1 : starEach (e :: es) X.env = (false, eval e X.env) :: starEach es X.env := by rfl) (h2 : (backTo pos (starEach es X.env)).any (·.1) = false := by rfl) :
    PE X (.Call (.Name x p) (e :: es) [] pos) (fun σ H Q => t σ H fun vs H1 => sp vs H1 Q L2.E0) := by
  refine ⟨fun pins s σ H Q I reading => wpAny_Call_Name_kw (ld_glob I gl mx (PySem.W.callWith_K (h₀ := X.base) I.ok.mod.kin kx (thn (pa.run pos pins s σ H _ I reading) fun us s1 ⟨vs, H1, I1, rel, q⟩ => ⟨I1.kIn, land (us := us) I1 ?_⟩) h1 h2) h0)⟩
  have given := bind s1 us I1.kIn (by rw [List.append_nil]; exact rel.length.symm.trans (F.len _ _ _ _ q))
  rw [List.append_nil] at given
  exact F.run X.A X.stack s1 H1 ⟨us, []⟩ us vs Q gu room I1.env0 given rel q
/-- repr of data, no repr being under way -/
theorem cr_reprD (gu : X.A.guards = some []) (un : X.A.units + 64 < cLine) : CallR X (.builtin "repr") (fun xs H Q => ∃ (a : Addr) (d : PyData), xs = [.ref a] ∧ Dp X.K H (.ref a) d ∧ d.showable = true ∧ d.hasDict = false ∧ d.depth ≤ 60 ∧ d.shown.length ≤ sizeLine ∧ Q (.str d.shown) H) := by
  intro pins s σ H xs us Q I rel ⟨a, d, ex, dp, sh, nd, dd, fits, q⟩
  subst ex
  rw [Vals.ref1 rel]
  obtain ⟨as, rd⟩ := Dp.reads I d (.ref a) (.ref a) dp rfl
  exact repr_of_reads' rd sh (fun e => by rw [nd] at e; cases e) gu (by omega) (fun _ _ e => e) (fun h' u tk kp => ⟨.str d.shown, H, I.kept kp, ⟨u, rfl⟩, q⟩) fits
end
/-- what the end wants of the law's def -/
def LawG (l : PySem.W.OpenLaw) (w : World) (K : PySem.W.Frag) (k n : Nat) (x : Str) (mg : Str → Option Value) (fa : Addr) (h : Heap) : Prop :=
  ∃ (fd : FuncData) (cs : List (Addr × Addr)) (sp : Sp), (∀ p ∈ cs, h.get? p.2 = some { cls := .none, data := .fields #[] }) ∧ (∀ p ∈ cs, K.lookup p.2 = none) ∧ (∀ p ∈ cs, PySem.W.CodeHd h p.1 p.2) ∧ (∀ (s : Shared) (u : Value), BindsTo s fd ⟨[u], []⟩ [(x, u)]) ∧
    (∀ (H : Hp) (a : Addr) (ns : List Int), ns.length ≤ n → (∀ z ∈ ns, Builtin.Int.intBits z ≤ 1048576) → (∀ p ∈ cs, H p.2 = some (.tbl #[])) → SqL K H a (ns.map V.int) → sp [.ref a] H (fun v _ => v = .bl true) L2.E0) ∧
    ∀ base : Heap, K.In base → base.Ns mainGlobals mg → (∀ p ∈ cs, TabB base mg p.1 p.2) → FnG l.prog w K mg base k fa fd [x] sp
/-- the end of a law some defs of which say repr, or hold lambdas: these ones' tables are still empty -/
theorem walk_guard {l : PySem.W.OpenLaw} {n k : Nat} {q : Program} {loose : List Str} {XP : (Str → Option Value) → Heap → Prop} {YP : World → Heap → Prop} {d : DefRec} {K : Params → PySem.W.Frag} {x : Str} (nms : List Str)
    (hn : l.most = some n) (line : n ≤ sizeLine) (hdf : d.params.defaults = []) (room : Room k callerA) (recs : ∀ nm ∈ nms, ((recsOf q).any fun e => e.name == nm) = true) (hY : ∀ (w : World) (h : Heap), YP w h → (K w.params).In h)
    (F : ∀ (w : World) (mg : Str → Option Value) (fa : Addr) (h : Heap), YP w h → (K w.params).In h → h.Ns mainGlobals mg → mg d.name = some (.ref fa) → (∀ nm ∈ nms, ∀ fw, mg nm = some (.ref fw) → OwnTab (K w.params) fw h) → LawG l w (K w.params) k n x mg fa h) :
    PySem.W.WalkO q loose XP YP l.row.toRowW d [] (fun f vs => PySem.call f vs) := by
  refine Att.attach_callB hn hdf fun w s0 s1 mg mb fa o pm cd doc a vs ns G Y ho hd hcd hmg hobj hints hlen hbits hg => ?_
  have KX := hY w _ Y
  have tabs : ∀ nm ∈ nms, ∀ fw, mg nm = some (.ref fw) → OwnTab (K w.params) fw s1.heap := by
    intro nm inn fw hw c P o1 fd1 e dd us sl look isF isC lookC at11
    obtain ⟨dR, mem, same⟩ := List.any_eq_true.mp (recs nm inn)
    have eN : dR.name = nm := beq_iff_eq.mp same
    obtain ⟨a2, o2, fd2, c2, P2, g1, g2, g3, g4, _, ⟨oc, vc, g5, _, g6, g7⟩, empty⟩ := G.T.tab dR mem
    rw [eN] at g1
    cases hw.symm.trans g1
    cases (KX _ _ look).symm.trans g2
    cases isF.symm.trans g3
    cases isC.symm.trans g4
    cases (KX _ _ lookC).symm.trans g5
    cases g6
    cases at11.symm.trans g7
    exact empty
  obtain ⟨fd, cs, sp, hT, nT, hC, hb, hsp, hF⟩ := F w mg fa _ Y KX G.T.g hmg tabs
  exact end_at ⟨KX, G.T.g, G.T.b, G.T.builtins, G.T.nolimit, hg, hT, nT, hC, G.T.bmain, hobj⟩ hints (Nat.le_trans hlen line) fun base H hK hG hB ht hS e0 =>
    (hF base hK hG hB).run callerA [] s1 H ⟨[.ref a], []⟩ [.ref a] [.ref a] _ rfl room e0 (hb s1 (.ref a)) (.cons rfl .nil) (hsp H a ns hlen hbits ht hS)
end Gd
set_option Elab.async false
set_option linter.all false
set_option maxRecDepth 100000
set_option maxHeartbeats 4000000
set_option pp.maxSteps 400
/-! k40: trees as data that repr writes. -/
namespace Kf
open PySem PySem.Spec PyProof.Rows L2 Sx
def datV : V → PyData
  | .int i => .int i
  | .str z => .str z
  | _ => .none
def Tr.dat : Tr → PyData
  | .leaf w x => .tuple [.str w, datV x]
  | .n0 w => .tuple [.str w]
  | .n1 w a => .tuple [.str w, a.dat]
  | .n2 w a b => .tuple [.str w, a.dat, b.dat]
theorem leaf_val {w : Str} {x : V} (ok : (Tr.leaf w x).Ok) : (∃ i, x = .int i) ∨ ∃ z, x = .str z := ok.2.elim (fun h => .inl h.1) (fun h => .inr h.1)
theorem At.dp {K : PySem.W.Frag} {H : Hp} : ∀ {t : Tr} {v : V}, t.Ok → At H t v → Dp K H v t.dat
  | .leaf w x, _, ok, ⟨p, e, h⟩ => by
    subst e
    refine .tup (.inl (.inl h)) (.cons (.str w) (.cons ?_ .nil))
    rcases leaf_val ok with ⟨i, rfl⟩ | ⟨z, rfl⟩
    · exact .int i
    · exact .str z
  | .n0 w, _, ok, ⟨p, e, h⟩ => by
    subst e
    exact .tup (.inl (.inl h)) (.cons (.str w) .nil)
  | .n1 w a, _, ok, ⟨p, y, e, h, ha⟩ => by
    subst e
    exact .tup (.inl (.inl h)) (.cons (.str w) (.cons (ha.dp ok.2) .nil))
  | .n2 w a b, _, ok, ⟨p, y, z, e, h, ha, hb⟩ => by
    subst e
    exact .tup (.inl (.inl h)) (.cons (.str w) (.cons (ha.dp ok.2.1) (.cons (hb.dp ok.2.2) .nil)))
theorem word_shown {w : Str} (h : NmOk w) (l : w.length ≤ 8) : (PyData.shown (.str w)).length ≤ 82 := by
  have all : ∀ c ∈ w.cps.toList, c < 16 ^ 8 := fun c hc => by
    have q := (Array.all_eq_true_iff_forall_mem.mp h) c (Array.mem_toList_iff.mp hc)
    have q2 : c < 0x110000 := by simpa using q
    exact Nat.lt_of_lt_of_le q2 (by decide)
  have z := StrLaws.reprText_len w all
  have e : (PyData.shown (.str w)).length = (reprText w).length := rfl
  rw [e]
  omega
theorem int_shown {n : Int} (h0 : 0 ≤ n) (h1 : n < 10 ^ 60) : (PyData.shown (.int n)).length ≤ 61 := by
  have lt : n.natAbs < 10 ^ 60 := by omega
  have e := int_text_length_le10 (k := 60) (by decide) lt
  show (Str.ofString (toString n)).length ≤ 61
  rw [PySem.ofString_length]
  exact e
theorem int_log {n : Int} (h0 : 0 ≤ n) (h1 : n < 10 ^ 60) : n.natAbs.log2 < 1920 := by
  by_cases z : n.natAbs = 0
  · rw [z]
    decide
  · refine (Nat.log2_lt z).2 ?_
    have lt : n.natAbs < 10 ^ 60 := by omega
    exact Nat.lt_of_lt_of_le lt (Nat.le_trans (show 10 ^ 60 ≤ 2 ^ 200 by decide) (Nat.pow_le_pow_right (by decide) (by decide)))
/-- what repr wants of a tree -/
structure Sh (d : PyData) (n m : Nat) : Prop where
  show_ : d.showable = true
  dict : d.hasDict = false
  deep : d.depth ≤ n
  len : d.shown.length ≤ 200 * m
theorem tup_len (ds : List PyData) : (PyData.shown (.tuple ds)).length ≤ ((PyData.shownAll ds).map (·.length)).sum + 2 * (PyData.shownAll ds).length + 3 := tupleText_len_le _
theorem sh_leaf {w : Str} {x : V} (h : LeafW w x) : Sh (Tr.dat (.leaf w x)) 1 1 := by
  have hw : NmOk w ∧ w.length ≤ 8 := by
    rcases h with ⟨e | e, _⟩ | ⟨e, _⟩ <;> subst e <;> decide +kernel
  have hv : (datV x).showable = true ∧ (datV x).hasDict = false ∧ (datV x).depth = 0 ∧ (datV x).shown.length ≤ 82 := by
    rcases h with ⟨_, n, e, h0, h1⟩ | ⟨_, z, e, h0, h1⟩
    · subst e
      exact ⟨decide_eq_true (int_log h0 h1), rfl, rfl, Nat.le_trans (int_shown h0 h1) (by decide)⟩
    · subst e
      exact ⟨rfl, rfl, rfl, word_shown h0 h1⟩
  have hs := word_shown hw.1 hw.2
  refine ⟨?_, ?_, ?_, ?_⟩
  · show (true && ((datV x).showable && true)) = true
    rw [hv.1]
    rfl
  · show (false || ((datV x).hasDict || false)) = false
    rw [hv.2.1]
    rfl
  · show max 0 (max (datV x).depth 0) + 1 ≤ 1
    rw [hv.2.2.1]
    exact Nat.le_refl 1
  · have z := tup_len [.str w, datV x]
    have e : ((PyData.shownAll [.str w, datV x]).map (·.length)).sum = (PyData.shown (.str w)).length + ((datV x).shown.length + 0) := rfl
    have e2 : (PyData.shownAll [.str w, datV x]).length = 2 := rfl
    have l := hv.2.2.2
    show (PyData.shown (.tuple [.str w, datV x])).length ≤ 200 * 1
    omega
theorem sh_tree : ∀ (t : Tr) (k : Str), t.Wf k → Sh t.dat t.deep t.size
  | .leaf w x, k, h => sh_leaf h.2
  | .n0 w, k, h => by
    have hw : NmOk w ∧ w.length ≤ 8 := table_nm _ h
    have hs := word_shown hw.1 hw.2
    refine ⟨rfl, rfl, Nat.le_refl 1, ?_⟩
    have z := tup_len [.str w]
    have e : ((PyData.shownAll [.str w]).map (·.length)).sum = (PyData.shown (.str w)).length + 0 := rfl
    have e2 : (PyData.shownAll [.str w]).length = 1 := rfl
    show (PyData.shown (.tuple [.str w])).length ≤ 200 * 1
    omega
  | .n1 w a, k, h => by
    obtain ⟨k1, hr, ha⟩ := h
    have hw : NmOk w ∧ w.length ≤ 8 := table_nm _ hr
    have hs := word_shown hw.1 hw.2
    have A := sh_tree a k1 ha
    refine ⟨?_, ?_, ?_, ?_⟩
    · show (true && (a.dat.showable && true)) = true
      rw [A.show_]
      rfl
    · show (false || (a.dat.hasDict || false)) = false
      rw [A.dict]
      rfl
    · show max 0 (max a.dat.depth 0) + 1 ≤ a.deep + 1
      have := A.deep
      omega
    · have z := tup_len [.str w, a.dat]
      have e : ((PyData.shownAll [.str w, a.dat]).map (·.length)).sum = (PyData.shown (.str w)).length + (a.dat.shown.length + 0) := rfl
      have e2 : (PyData.shownAll [.str w, a.dat]).length = 2 := rfl
      have l := A.len
      show (PyData.shown (.tuple [.str w, a.dat])).length ≤ 200 * (a.size + 1)
      omega
  | .n2 w a b, k, h => by
    obtain ⟨k1, k2, hr, ha, hb⟩ := h
    have hw : NmOk w ∧ w.length ≤ 8 := table_nm _ hr
    have hs := word_shown hw.1 hw.2
    have A := sh_tree a k1 ha
    have B := sh_tree b k2 hb
    refine ⟨?_, ?_, ?_, ?_⟩
    · show (true && (a.dat.showable && (b.dat.showable && true))) = true
      rw [A.show_, B.show_]
      rfl
    · show (false || (a.dat.hasDict || (b.dat.hasDict || false))) = false
      rw [A.dict, B.dict]
      rfl
    · show max 0 (max a.dat.depth (max b.dat.depth 0)) + 1 ≤ max a.deep b.deep + 1
      have := A.deep
      have := B.deep
      omega
    · have z := tup_len [.str w, a.dat, b.dat]
      have e : ((PyData.shownAll [.str w, a.dat, b.dat]).map (·.length)).sum = (PyData.shown (.str w)).length + (a.dat.shown.length + (b.dat.shown.length + 0)) := rfl
      have e2 : (PyData.shownAll [.str w, a.dat, b.dat]).length = 3 := rfl
      have l := A.len
      have l2 := B.len
      show (PyData.shown (.tuple [.str w, a.dat, b.dat])).length ≤ 200 * (a.size + b.size + 1)
      omega
theorem sh_fits {t : Tr} {k : Str} (h : t.Wf k) (d : t.deep ≤ 14) : t.dat.showable = true ∧ t.dat.hasDict = false ∧ t.dat.depth ≤ 60 ∧ t.dat.shown.length ≤ sizeLine := by
  have S := sh_tree t k h
  refine ⟨S.show_, S.dict, Nat.le_trans S.deep (by omega), Nat.le_trans S.len ?_⟩
  have z := size_deep t
  have p : 2 ^ t.deep ≤ 2 ^ 14 := Nat.pow_le_pow_right (by decide) d
  have e : (2 : Nat) ^ 14 = 16384 := by decide
  have : 200 * t.size ≤ 3276800 := by omega
  exact Nat.le_trans this (by decide)
/-- two truths in a list -/
theorem sh_two (a b : Bool) : (PyData.list [.bool a, .bool b]).showable = true ∧ (PyData.list [.bool a, .bool b]).hasDict = false ∧ (PyData.list [.bool a, .bool b]).depth ≤ 60 ∧ (PyData.list [.bool a, .bool b]).shown.length ≤ sizeLine := by
  refine ⟨rfl, rfl, show 1 ≤ 60 by decide, Nat.le_trans (m := 100) ?_ (by decide)⟩
  cases a <;> cases b <;> decide +kernel
end Kf
set_option Elab.async false
set_option linter.all false
set_option maxRecDepth 100000
set_option maxHeartbeats 8000000
set_option pp.maxSteps 400
/-! k40: the law. -/
namespace Kf
open PySem PySem.Spec PyProof.Rows L2 Sx RZ Gd
abbrev sLaw : Stmt := top 20
abbrev lawN : List Str := ["script", "k", "feed", "some", "saying", "kept", "found", "one"]
theorem scLaw : FnScope lawN ["script"] (defScope sLaw) := ⟨rfl, rfl, rfl, by decide +kernel, rfl, by decide +kernel, by decide +kernel⟩
theorem lo62 {r : Int} (h : 0 ≤ r) : -(2 ^ 62) ≤ r := Int.le_trans (by decide) h
theorem hi62 {r : Int} (h : r ≤ 1000) : r < 2 ^ 62 := Int.lt_of_le_of_lt h (by decide)
def spLaw (K : PySem.W.Frag) : Sp := fun vs H Q _ => ∃ (a : Addr) (ns : List Int), vs = [.ref a] ∧ SqL K H a (ns.map V.int) ∧ ns.length ≤ 63 ∧ (∀ z ∈ ns, Builtin.Int.intBits z ≤ 1048576) ∧ ∀ H', Q (.bl true) H'
theorem same_seq {K : PySem.W.Frag} {a : Addr} {H H' : Hp} {xs : List V} (b : Same H H') (h : SqL K H a xs) : SqL K H' a xs := by
  rcases h with (h | ⟨o, h⟩) | h
  · exact .inl (.inl (b _ _ h))
  · exact .inl (.inr ⟨o, b _ _ h⟩)
  · exact .inr h
theorem same_of {f : Addr} {H H1 H2 : Hp} (a : Same H H1) (n : H f = none) (b : But f H1 H2) : Same H H2 := fun c o e => b c o (ne_of_none e n) (a _ _ e)
/-- a row of sayings -/
def Good (d : Nat) (t : Tr) : Prop := t.Wf kS ∧ t.deep ≤ d
section
variable {P : Program} {w : World} {K : PySem.W.Frag} {mg : Str → Option Value} {base : Heap}
structure Calls (P : Program) (w : World) (K : PySem.W.Frag) (mg : Str → Option Value) (base : Heap) (ff fs fl fe fo iF iS lF lS : Addr) (df ds dl de dd jF jS xF xS : FuncData) : Prop where
  Fd : FnOk P w K mg base CX0 1 ff df ["script", "k"] (spFeed K)
  bFd : L2.Binds K df ["script", "k"] []
  kFd : PySem.W.keepIn K (.ref ff) = true
  mFd : mg "_law_feed" = some (.ref ff)
  S : FnOk P w K mg base CX0 10 fs ds ["feed", "deep", "names", "around"] (spSaying 4)
  bS : L2.Binds K ds ["feed", "deep", "names", "around"] []
  qS : PySem.W.keepIn K (.ref fs) = true
  mS : mg "_law_saying" = some (.ref fs)
  L : FnOk P w K mg base CX0 9 fl dl ["feed", "deep", "names", "around"] (spFlat 4)
  bL : L2.Binds K dl ["feed", "deep", "names", "around"] []
  kL : PySem.W.keepIn K (.ref fl) = true
  mL : mg "_law_flat" = some (.ref fl)
  E : FnOk P w K mg base CX0 12 fe de ["feed", "deep", "around", "left"] (spSeen 5)
  bE : L2.Binds K de ["feed", "deep", "around", "left"] []
  kE : PySem.W.keepIn K (.ref fe) = true
  mE : mg "_law_seen" = some (.ref fe)
  O : FnOk P w K mg base CX0 10 fo dd ["feed", "saying"] (spOt 8)
  bO : L2.Binds K dd ["feed", "saying"] []
  kO : PySem.W.keepIn K (.ref fo) = true
  mO : mg "_law_otherwise" = some (.ref fo)
  A : FnOk P w K mg base CX0 2 iF jF ["saying"] (spQ flatB)
  bA : L2.Binds K jF ["saying"] []
  kA : PySem.W.keepIn K (.ref iF) = true
  mA : mg "is_flat" = some (.ref iF)
  B : FnOk P w K mg base CX0 3 iS jS ["saying"] (spQ seenB)
  bB : L2.Binds K jS ["saying"] []
  kB : PySem.W.keepIn K (.ref iS) = true
  mB : mg "is_seen" = some (.ref iS)
  C : FnOk P w K mg base CX0 20 lF xF ["saying"] (spL flatB 20)
  bC : L2.Binds K xF ["saying"] []
  kC : PySem.W.keepIn K (.ref lF) = true
  mC : mg "_law_is_flat" = some (.ref lF)
  D : FnOk P w K mg base CX0 40 lS xS ["saying"] (spL seenB 20)
  bD : L2.Binds K xS ["saying"] []
  kD : PySem.W.keepIn K (.ref lS) = true
  mD : mg "_law_is_seen" = some (.ref lS)
  zRange : mg "range" = none
  zMax : mg "max" = none
  zMin : mg "min" = none
  zLen : mg "len" = none
  zRepr : mg "repr" = none
abbrev nsA : List Str := ["x", "n"]
abbrev nsB : List Str := ["x"]
theorem okA : (∀ z ∈ nsA, NmOk z) ∧ ∀ z ∈ nsA, z.length ≤ 8 := by decide +kernel
theorem okB : (∀ z ∈ nsB, NmOk z) ∧ ∀ z ∈ nsB, z.length ≤ 8 := by decide +kernel
theorem size_few {t : Tr} (d : t.deep ≤ 11) : t.size ≤ 4000 := by
  have z := size_deep t
  have p : 2 ^ t.deep ≤ 2 ^ 11 := Nat.pow_le_pow_right (by decide) d
  have e : (2 : Nat) ^ 11 = 2048 := by decide
  omega
theorem ok_law {f ff fs fl fe fo iF iS lF lS : Addr} {fd df ds dl de dd jF jS xF xS : FuncData} (F : Fun K "law" "law" sLaw f fd) (C : Calls P w K mg base ff fs fl fe fo iF iS lF lS df ds dl de dd jF jS xF xS) : FnG P w K mg base 41 f fd ["script"] (spLaw K) := by
  refine okG F scLaw (fun vs H Q E h => ?_) (fun cdv A outer s H vs Q gu hr h => ?_)
  · obtain ⟨a, ns, rfl, _⟩ := h
    rfl
  obtain ⟨a, ns, rfl, hS, hlen, hb, q⟩ := h
  have h1 : Room 1 _ := hr.mono (by decide)
  have h2 : Room 2 _ := hr.mono (by decide)
  have h3 : Room 3 _ := hr.mono (by decide)
  have h9 : Room 9 _ := hr.mono (by decide)
  have h10 : Room 10 _ := hr.mono (by decide)
  have h12 : Room 12 _ := hr.mono (by decide)
  have h20 : Room 20 _ := hr.mono (by decide)
  have u1 : (A.deeper (envOfC "law" (defScope sLaw) s.heap.objs.size f cdv)).units + 64 < cLine := by
    have := hr.units
    omega
  refine ⟨_, pss_cons (ps_for PassesOwn.never rfl (pi_range1 (by rfl) C.zRange (pa_cons (pe_callB (call_max2 rfl) (by rfl) C.zMax (by decide +kernel) (pa_cons pe_int (pa_cons (pe_callB (call_min2 rfl) (by rfl) C.zMin (by decide +kernel) (pa_cons pe_int (pa_cons (pe_callB call_len_seq (by rfl) C.zLen PySem.boot_len (pa_cons (pv 0) pa_nil)) pa_nil))) pa_nil))) pa_nil)) (pg_name (i := 1) scLaw.nd rfl (.inl rfl))
      (pss_cons (ps_set (i := 2) scLaw.nd rfl (.inr rfl) (pe_call C.Fd h1 (by rfl) C.mFd C.kFd C.bFd .nil pass0 (pa_cons (pv 0) (pa_cons (pv 1) pa_nil))))
      (pss_cons (ps_set (i := 3) scLaw.nd rfl (.inl rfl) (pe_lst (pa_cons (pe_call C.S h10 (by rfl) C.mS C.qS C.bS .nil pass0 (pa_cons (pv 2) (pa_cons pe_int (pa_cons (pe_lst (pa_cons pe_str (pa_cons pe_str pa_nil))) (pa_cons pe_int pa_nil)))))
        (pa_cons (pe_call C.L h9 (by rfl) C.mL C.kL C.bL .nil pass0 (pa_cons (pv 2) (pa_cons pe_int (pa_cons (pe_lst (pa_cons pe_str pa_nil)) (pa_cons pe_int pa_nil)))))
        (pa_cons (pe_call C.E h12 (by rfl) C.mE C.kE C.bE .nil pass0 (pa_cons (pv 2) (pa_cons pe_int (pa_cons pe_int (pa_cons pe_int pa_nil))))) pa_nil)))))
      (pss_cons (ps_set (i := 3) scLaw.nd rfl (.inl rfl) (pe_op op_cat (pv 3) (pe_lc (own := [("one", 7)]) (g := gName 7) (tt := tYes) rfl scLaw.nd (pi_list (pv 3))
        (blkOk_by (N := lawN) (sc := defScope sLaw) (by decide +kernel)) (fun _ _ _ _ _ => pg_name (i := 7) scLaw.nd rfl (Or.inl rfl)) (fun _ _ _ _ _ => pts_nil)
        (fun _ _ _ _ _ => pe_call C.O h10 (by rfl) C.mO C.kO C.bO .nil pass0 (pa_cons (pv 2) (pa_cons (pv 7) pa_nil))))))
      (pss_one (ps_for PassesOwn.never rfl (pi_list (pv 3)) (pg_name (i := 4) scLaw.nd rfl (.inl rfl))
        (pss_cons (ps_set (i := 5) scLaw.nd rfl (.inl rfl) (pe_callB (cr_reprD gu u1) (by rfl) C.zRepr (by decide +kernel) (pa_cons (pv 4) pa_nil)))
        (pss_cons (ps_set (i := 6) scLaw.nd rfl (.inl rfl) (pe_lst (pa_cons (pe_call C.A h2 (by rfl) C.mA C.kA C.bA .nil pass0 (pa_cons (pv 4) pa_nil)) (pa_cons (pe_call C.B h3 (by rfl) C.mB C.kB C.bB .nil pass0 (pa_cons (pv 4) pa_nil)) pa_nil))))
        (pss_one (ps_if (PW.pt (pw_or (pt_cmpR op_ne (pe_callB (cr_reprD gu u1) (by rfl) C.zRepr (by decide +kernel) (pa_cons (pv 6) pa_nil)) (pe_callB (cr_reprD gu u1) (by rfl) C.zRepr (by decide +kernel) (pa_cons (pe_lst (pa_cons (pe_call C.C h20 (by rfl) C.mC C.kC C.bC .nil pass0 (pa_cons (pv 4) pa_nil)) (pa_cons (pe_call C.D hr (by rfl) C.mD C.kD C.bD .nil pass0 (pa_cons (pv 4) pa_nil)) pa_nil))) pa_nil)) (nomark _))
          (pw_or1 (pt_cmpR op_ne (pe_callB (cr_reprD gu u1) (by rfl) C.zRepr (by decide +kernel) (pa_cons (pv 4) pa_nil)) (pv 5) (nomark _))))) (pss_one (ps_ret pe_bl)) pss_nil))))))))))
    (pss_one (ps_ret (pe_and (pe_cmpR op_isBl (pe_call C.A h2 (by rfl) C.mA C.kA C.bA .nil pass0 (pa_cons (pe_tup (pa_cons pe_str pa_nil)) pa_nil)) pe_bl (nomark _))
      (pe_one (pe_cmpR op_isBl (pe_call C.B h3 (by rfl) C.mB C.kB C.bB .nil pass0 (pa_cons (pe_tup (pa_cons pe_str (pa_cons (pe_tup (pa_cons pe_str pa_nil)) pa_nil))) pa_nil)) pe_bl (nomark _)))))), ?_⟩
  have bounds : ∀ n : Int, 0 ≤ n → (2 : Int) ≤ (if (if n < 6 then n else 6) > 2 then (if n < 6 then n else 6) else 2) ∧ (if (if n < 6 then n else 6) > 2 then (if n < 6 then n else 6) else 2) ≤ 6 := fun n _ => by
    split
    · split <;> omega
    · omega
  obtain ⟨bn1, bn2⟩ := bounds ((ns.map V.int).length : Nat) (Int.natCast_nonneg _)
  refine ⟨_, rfl, a, _, rfl, .inl hS, _, _, rfl, _, _, rfl, _, rfl, lo62 (by omega), hi62 (by omega), ?_⟩
  generalize (if (if (((ns.map V.int).length : Nat) : Int) < 6 then (((ns.map V.int).length : Nat) : Int) else 6) > 2 then (if (((ns.map V.int).length : Nat) : Int) < 6 then (((ns.map V.int).length : Nat) : Int) else 6) else 2) = turns at bn1 bn2 ⊢
  refine for_range (lo := 0) (n := turns.toNat) (fun i σ H' => ∃ y1 y2 y3 y4 y5 y6 y7 : Option V, σ = [some (.ref a), y1, y2, y3, y4, y5, y6, y7] ∧ Same H H')
    ⟨none, none, none, none, none, none, none, rfl, fun _ _ e => e⟩ ?_ ?_
  · rintro i σ H0 hi ⟨y1, y2, y3, y4, y5, y6, y7, rfl, e0⟩
    refine ⟨_, rfl, _, rfl, a, ns, i, (by show [V.ref a, V.int (0 + (i : Int))] = _; rw [Int.zero_add]), same_seq e0 hS, hb, by omega, fun f H1 s1 nf hF1 => ?_⟩
    -- three sayings
    refine ⟨_, rfl, (by show 2 ≤ sizeLine; decide), fun l nl => ?_⟩
    have nlf : l ≠ f := hF1.ne nl
    have hF1' : FeedAt (upd H1 l (.lst (nsA.map V.str))) f := hF1.same (same_new nl)
    refine ⟨f, l, nsA, 0, 3, rfl, by decide, nlf, ⟨upd_same, by decide, okA.1, okA.2⟩, by decide, hF1', fun u1 w1 H2 m1 a1 b1 hF2 => ?_⟩
    refine ⟨_, rfl, (by show 1 ≤ sizeLine; decide), fun l2 nl2 => ?_⟩
    have nlf2 : l2 ≠ f := hF2.ne nl2
    have hF2' : FeedAt (upd H2 l2 (.lst (nsB.map V.str))) f := hF2.same (same_new nl2)
    refine ⟨f, l2, nsB, 0, 3, rfl, by decide, nlf2, ⟨upd_same, by decide, okB.1, okB.2⟩, by decide, hF2', fun u2 w2 H3 m2 a2 b2 hF3 => ?_⟩
    refine ⟨_, rfl, f, 4, 0, 3, rfl, by decide, by decide, hF3, fun u3 w3 H4 m3 a3 b3 hF4 => ?_⟩
    refine ⟨(by show 3 ≤ sizeLine; decide), fun g ng => ?_⟩
    have bb4 : But f H1 H4 := (((but_same (same_new nl)).trans b1).trans ((but_same (same_new nl2)).trans b2)).trans b3
    have k24 : Tups H2 H4 := ((tups_same (same_new nl2)).trans (hF2'.tups b2)).trans (hF3.tups b3)
    have k34 : Tups H3 H4 := hF3.tups b3
    have A1 := a1.keep k24
    have A2 := a2.keep k34
    have S4 : Same H0 H4 := same_of s1 nf bb4
    clear bb4 k24 k34 a1 a2 b1 b2 b3 hF2' hF1' hF2 hF3 nl nl2
    have s5 : Same H4 (upd H4 g (.lst [w1, w2, w3])) := same_new ng
    generalize hH5 : upd H4 g (.lst [w1, w2, w3]) = H5 at s5
    have hg5 : H5 g = some (.lst [w1, w2, w3]) := by rw [← hH5, upd_same]
    have ngf : g ≠ f := hF4.ne ng
    have rows : All2 (At H5) [u1, u2, u3] [w1, w2, w3] := .cons (A1.keep (tups_same s5)) (.cons (A2.keep (tups_same s5)) (.one (a3.keep (tups_same s5))))
    have good : ∀ t ∈ [u1, u2, u3], Good 8 t := by
      intro t ht
      rcases List.mem_cons.mp ht with e | ht
      · rw [e]
        exact ⟨m1.wf, Nat.le_trans m1.dp (by decide)⟩
      rcases List.mem_cons.mp ht with e | ht
      · rw [e]
        exact ⟨m2.wf, Nat.le_trans m2.dp (by decide)⟩
      · rw [List.mem_singleton.mp ht]
        exact ⟨m3.wf, Nat.le_trans m3.dp (by decide)⟩
    have hF5 : FeedAt H5 f := hF4.same s5
    have S5 : Same H0 H5 := S4.trans s5
    generalize hts : [u1, u2, u3] = ts at rows good
    generalize hws : [w1, w2, w3] = ws at rows hg5
    have lw : ws.length = 3 := by rw [← hws]; rfl
    clear A1 A2 a3 m1 m2 m3 hF4 hH5 s5 S4 ng hts hws
    -- and three more
    refine ⟨_, rfl, _, rfl, g, rfl, ⟨_, .inl (.inl hg5)⟩, fun D nD => ?_⟩
    refine lc_list (K := K) (a := g) (xs := ws) (fun i H' => ∃ (us : List Tr) (acc : List V), H' D = some (.lst acc) ∧ But f H5 H' ∧ FeedAt H' f ∧ All2 (At H') us acc ∧ (∀ t ∈ us, Good 9 t) ∧ acc.length = i)
      ⟨[], [], upd_same, but_same (same_new nD), hF5.same (same_new nD), .nil, (fun t h => by cases h), rfl⟩ (fun i H' _ ⟨_, _, _, b, _⟩ => .inl (.inl (b _ _ ngf hg5))) ?_ ?_
    · rintro j x H6 hx ⟨us, acc, hD, b6, hF6, all, gd, la⟩
      obtain ⟨t, ht, hat⟩ := rows.get hx
      have gt := good t (List.mem_of_getElem? ht)
      have lj : j < 3 := by
        have z := (List.getElem?_eq_some_iff.mp hx).1
        omega
      refine ⟨rfl, ?_⟩
      refine ⟨_, rfl, _, rfl, f, x, t, rfl, hat.keep (hF5.tups b6), gt.1, gt.2, hF6, fun u v H7 m7 a7 b7 hF7 => ?_⟩
      have nDf : D ≠ f := hF5.ne nD
      have hD7 := b7 _ _ nDf hD
      have k7 := hF6.tups b7
      have k8 : Tups H7 (upd H7 D (.lst (acc ++ [v]))) := tups_put fun xs z => by
        rw [hD7] at z
        cases z
      refine ⟨acc, hD7, line_of (by omega), us ++ [u], acc ++ [v], upd_same, fun c o n e => ?_, ?_, ((all.mono fun a c h => h.keep (k7.trans k8)).app (.one (a7.keep k8))), fun t2 h2 => ?_, by rw [List.length_append, la]; rfl⟩
      · rw [upd_ne (ne_of_none e nD)]
        exact b7 _ _ n (b6 _ _ n e)
      · obtain ⟨x1, y1, e1, q1⟩ := hF7
        exact ⟨x1, y1, by rw [upd_ne nDf.symm]; exact e1, q1⟩
      · rcases List.mem_append.mp h2 with z | z
        · exact gd t2 z
        · rw [List.mem_singleton.mp z]
          exact ⟨m7.wf, Nat.le_trans m7.dp (Nat.succ_le_succ gt.2)⟩
    · rintro H6 ⟨us, acc, hD, b6, hF6, all, gd, la⟩
      have hg6 := b6 _ _ ngf hg5
      refine ⟨g, D, ws, acc, rfl, rfl, hg6, hD, (by rw [lw, la, lw]; decide), fun r nr => ?_⟩
      have s7 : Same H6 (upd H6 r (.lst (ws ++ acc))) := same_new nr
      have k56 := hF5.tups b6
      have all6 : All2 (At (upd H6 r (.lst (ws ++ acc)))) (ts ++ us) (ws ++ acc) := (rows.mono fun a c h => (h.keep k56).keep (tups_same s7)).app (all.mono fun a c h => h.keep (tups_same s7))
      have good6 : ∀ t ∈ ts ++ us, Good 9 t := fun t h => (List.mem_append.mp h).elim (fun z => ⟨(good t z).1, Nat.le_trans (good t z).2 (by decide)⟩) (gd t)
      have S6 : Same H0 (upd H6 r (.lst (ws ++ acc))) := (same_of S5 (f := f) (by exact nf) b6).trans s7
      generalize hH7 : upd H6 r (.lst (ws ++ acc)) = H7 at all6 S6
      have hr7 : H7 r = some (.lst (ws ++ acc)) := by rw [← hH7, upd_same]
      clear hH7 s7 k56 hF6 all b6 hD hg6 nr
      -- one by one
      refine ⟨_, rfl, r, rfl, ⟨_, .inl (.inl hr7)⟩, for_list (K := K) (a := r) (xs := ws ++ acc) (fun j σ H' => ∃ y4 y5 y6 y7 : Option V, σ = [some (.ref a), some (.int (0 + (i : Int))), some (.ref f), some (.ref r), y4, y5, y6, y7] ∧ Same H7 H')
        ⟨_, _, _, _, rfl, fun _ _ e => e⟩ (fun j σ H' _ ⟨_, _, _, _, _, sm⟩ => .inl (.inl (sm _ _ hr7))) ?_ ?_⟩
      · rintro j x σ H8 hx ⟨y4, y5, y6, y7, rfl, sm⟩
        obtain ⟨t, ht, hat0⟩ := all6.get hx
        obtain ⟨wf, dp⟩ := good6 t (List.mem_of_getElem? ht)
        have hat := hat0.keep (tups_same sm)
        have hO := wf_ok wf
        obtain ⟨f1, f2, f3, f4⟩ := sh_fits wf (by omega)
        obtain ⟨p, _, rfl, _⟩ := hat.view hO
        refine ⟨_, rfl, p, t.dat, rfl, hat.dp hO, f1, f2, f3, f4, ?_⟩
        refine ⟨_, rfl, _, t, rfl, hat, wf, size_few (by omega), fun H9 s9 => ?_⟩
        have hat9 := hat.keep (tups_same s9)
        refine ⟨_, rfl, _, t, rfl, hat9, wf, size_few (by omega), fun Ha sa => ⟨(by show 2 ≤ sizeLine; decide), fun ga na => ?_⟩⟩
        have sb : Same Ha (upd Ha ga (.lst [.bl (flatB t), .bl (seenB t)])) := same_new na
        have hata := (hat9.keep (tups_same sa)).keep (tups_same sb)
        obtain ⟨g1, g2, g3, g4⟩ := sh_two (flatB t) (seenB t)
        refine ⟨_, rfl, ga, _, rfl, .lst (.inl (.inl upd_same)) (.cons (.bl _) (.cons (.bl _) .nil)), g1, g2, g3, g4, ?_⟩
        refine ⟨_, rfl, _, t, rfl, hata, wf, by omega, fun Hc sc => ?_⟩
        have hatc := hata.keep (tups_same sc)
        refine ⟨_, rfl, _, t, rfl, hatc, wf, by omega, fun Hd sd => ⟨(by show 2 ≤ sizeLine; decide), fun gd nd => ?_⟩⟩
        have se : Same Hd (upd Hd gd (.lst [.bl (flatB t), .bl (seenB t)])) := same_new nd
        have hate := (hatc.keep (tups_same sd)).keep (tups_same se)
        refine ⟨gd, _, rfl, .lst (.inl (.inl upd_same)) (.cons (.bl _) (.cons (.bl _) .nil)), g1, g2, g3, g4, ?_⟩
        refine ⟨rfl, _, rfl, iteNS rfl ?_⟩
        refine ⟨_, rfl, p, t.dat, rfl, hate.dp hO, f1, f2, f3, f4, _, rfl, rfl, _, rfl, iteNS rfl ?_⟩
        exact ⟨_, _, _, _, rfl, ((((sm.trans s9).trans sa).trans sb).trans sc).trans (sd.trans se)⟩
      · rintro σ H8 ⟨y4, y5, y6, y7, rfl, sm⟩
        exact ⟨_, _, _, _, _, _, _, rfl, (e0.trans S6).trans sm⟩
  · rintro σ H0 ⟨y1, y2, y3, y4, y5, y6, y7, rfl, e0⟩
    refine ⟨(by show 1 ≤ sizeLine; decide), fun p np => ?_⟩
    refine ⟨.ref p, .n0 "no", rfl, ⟨p, rfl, upd_same⟩, no_row, by decide, fun H2 s2 => ⟨true, true, rfl, rfl, _, rfl, ?_⟩⟩
    refine iteT ?_
    refine ⟨(by show 1 ≤ sizeLine; decide), fun p2 np2 => ⟨(by show 2 ≤ sizeLine; decide), fun p3 np3 => ?_⟩⟩
    have s3 : Same (upd H2 p2 (.tup [.str "no"])) (upd (upd H2 p2 (.tup [.str "no"])) p3 (.tup [.str "all", .ref p2])) := same_new np3
    refine ⟨.ref p3, .n1 "all" (.n0 "no"), rfl, ⟨p3, _, rfl, upd_same, p2, rfl, s3 _ _ upd_same⟩, ⟨kS, all_row, no_row⟩, by decide, fun H3 s4 => ⟨false, false, rfl, rfl, ?_⟩⟩
    exact q _
end
end Kf
set_option Elab.async false
set_option linter.all false
set_option maxRecDepth 100000
/-! The top, the end. -/
namespace Kf
open PySem PySem.Spec PyProof.Rows L2 Sx Gd
theorem all_mk {l : PySem.W.OpenLaw} {w : World} {K : PySem.W.Frag} {h : Heap} {mg : Str → Option Value} {fa f1 f2 f3 f4 f5 f6 f7 f8 f9 f10 f11 f12 f13 f14 f15 f16 : Addr} (X : K.In h) (G : h.Ns mainGlobals mg) (hfa : mg "law" = some (.ref fa))
    {od1 an1 od2 an2 od3 an3 od4 an4 od5 an5 od6 an6 od7 an7 od8 an8 od9 an9 od10 an10 od11 an11 od12 an12 od13 an13 od14 an14 od15 an15 od16 an16 : Option Addr} {sl1 sl2 sl3 sl4 sl5 sl6 sl7 sl8 sl9 sl10 sl11 sl12 sl13 sl14 sl15 sl16 : Array (Option Value)} {oc1 kV1 dc1 pm1 cd1 ct1 oc2 kV2 dc2 pm2 cd2 ct2 oc3 kV3 dc3 pm3 cd3 ct3 oc4 kV4 dc4 pm4 cd4 ct4 oc5 kV5 dc5 pm5 cd5 ct5 oc6 kV6 dc6 pm6 cd6 ct6 oc7 kV7 dc7 pm7 cd7 ct7 oc8 kV8 dc8 pm8 cd8 ct8 oc9 kV9 dc9 pm9 cd9 ct9 oc10 kV10 dc10 pm10 cd10 ct10 oc11 kV11 dc11 pm11 cd11 ct11 oc12 kV12 dc12 pm12 cd12 ct12 oc13 kV13 dc13 pm13 cd13 ct13 oc14 kV14 dc14 pm14 cd14 ct14 oc15 kV15 dc15 pm15 cd15 ct15 oc16 kV16 dc16 pm16 cd16 ct16 : Value}
    (a1 : PySem.W.nsIn K mainGlobals "sayings_of" = some (some (.ref f1))) (l1 : K.lookup f1 = some ⟨oc1, od1, .func (PySem.W.fnOf "sayings_of" "sayings_of" (defArgs sOf) (defBody sOf) (defScope sOf) .none kV1 dc1 pm1 an1 cd1 ct1), sl1⟩) (c1 : PySem.W.codeIn K cd1 "sayings_of" = true) (k1 : PySem.W.keepIn K (.ref f1) = true)
    (a2 : PySem.W.nsIn K mainGlobals "is_flat" = some (some (.ref f2))) (l2 : K.lookup f2 = some ⟨oc2, od2, .func (PySem.W.fnOf "is_flat" "is_flat" (defArgs sFlatQ) (defBody sFlatQ) (defScope sFlatQ) .none kV2 dc2 pm2 an2 cd2 ct2), sl2⟩) (c2 : PySem.W.codeIn K cd2 "is_flat" = true) (k2 : PySem.W.keepIn K (.ref f2) = true)
    (a3 : PySem.W.nsIn K mainGlobals "is_seen" = some (some (.ref f3))) (l3 : K.lookup f3 = some ⟨oc3, od3, .func (PySem.W.fnOf "is_seen" "is_seen" (defArgs sSeenQ) (defBody sSeenQ) (defScope sSeenQ) .none kV3 dc3 pm3 an3 cd3 ct3), sl3⟩) (c3 : PySem.W.codeIn K cd3 "is_seen" = true) (k3 : PySem.W.keepIn K (.ref f3) = true)
    (a4 : PySem.W.nsIn K mainGlobals "_law_feed" = some (some (.ref f4))) (l4 : K.lookup f4 = some ⟨oc4, od4, .func (PySem.W.fnOf "_law_feed" "_law_feed" (defArgs sFeed) (defBody sFeed) (defScope sFeed) .none kV4 dc4 pm4 an4 cd4 ct4), sl4⟩) (c4 : PySem.W.codeIn K cd4 "_law_feed" = true) (k4 : PySem.W.keepIn K (.ref f4) = true)
    (a5 : PySem.W.nsIn K mainGlobals "_law_take" = some (some (.ref f5))) (l5 : K.lookup f5 = some ⟨oc5, od5, .func (PySem.W.fnOf "_law_take" "_law_take" (defArgs sTake) (defBody sTake) (defScope sTake) .none kV5 dc5 pm5 an5 cd5 ct5), sl5⟩) (c5 : PySem.W.codeIn K cd5 "_law_take" = true) (k5 : PySem.W.keepIn K (.ref f5) = true)
    (a6 : PySem.W.nsIn K mainGlobals "_law_pick" = some (some (.ref f6))) (l6 : K.lookup f6 = some ⟨oc6, od6, .func (PySem.W.fnOf "_law_pick" "_law_pick" (defArgs sPick) (defBody sPick) (defScope sPick) .none kV6 dc6 pm6 an6 cd6 ct6), sl6⟩) (c6 : PySem.W.codeIn K cd6 "_law_pick" = true) (k6 : PySem.W.keepIn K (.ref f6) = true)
    (a7 : PySem.W.nsIn K mainGlobals "_law_leaf" = some (some (.ref f7))) (l7 : K.lookup f7 = some ⟨oc7, od7, .func (PySem.W.fnOf "_law_leaf" "_law_leaf" (defArgs sLeaf) (defBody sLeaf) (defScope sLeaf) .none kV7 dc7 pm7 an7 cd7 ct7), sl7⟩) (c7 : PySem.W.codeIn K cd7 "_law_leaf" = true) (k7 : PySem.W.keepIn K (.ref f7) = true)
    (a8 : PySem.W.nsIn K mainGlobals "_law_term" = some (some (.ref f8))) (l8 : K.lookup f8 = some ⟨oc8, od8, .func (PySem.W.fnOf "_law_term" "_law_term" (defArgs sTerm) (defBody sTerm) (defScope sTerm) .none kV8 dc8 pm8 an8 cd8 ct8), sl8⟩) (c8 : PySem.W.codeIn K cd8 "_law_term" = true) (k8 : PySem.W.keepIn K (.ref f8) = true)
    (a9 : PySem.W.nsIn K mainGlobals "_law_saying" = some (some (.ref f9))) (l9 : K.lookup f9 = some ⟨oc9, od9, .func (PySem.W.fnOf "_law_saying" "_law_saying" (defArgs sSaying) (defBody sSaying) (defScope sSaying) .none kV9 dc9 pm9 an9 cd9 ct9), sl9⟩) (c9 : PySem.W.codeIn K cd9 "_law_saying" = true) (k9 : PySem.W.keepIn K (.ref f9) = true)
    (a10 : PySem.W.nsIn K mainGlobals "_law_flat" = some (some (.ref f10))) (l10 : K.lookup f10 = some ⟨oc10, od10, .func (PySem.W.fnOf "_law_flat" "_law_flat" (defArgs sFlat) (defBody sFlat) (defScope sFlat) .none kV10 dc10 pm10 an10 cd10 ct10), sl10⟩) (c10 : PySem.W.codeIn K cd10 "_law_flat" = true) (k10 : PySem.W.keepIn K (.ref f10) = true)
    (a11 : PySem.W.nsIn K mainGlobals "_law_small" = some (some (.ref f11))) (l11 : K.lookup f11 = some ⟨oc11, od11, .func (PySem.W.fnOf "_law_small" "_law_small" (defArgs sSmall) (defBody sSmall) (defScope sSmall) .none kV11 dc11 pm11 an11 cd11 ct11), sl11⟩) (c11 : PySem.W.codeIn K cd11 "_law_small" = true) (k11 : PySem.W.keepIn K (.ref f11) = true)
    (a12 : PySem.W.nsIn K mainGlobals "_law_seen" = some (some (.ref f12))) (l12 : K.lookup f12 = some ⟨oc12, od12, .func (PySem.W.fnOf "_law_seen" "_law_seen" (defArgs sSeen) (defBody sSeen) (defScope sSeen) .none kV12 dc12 pm12 an12 cd12 ct12), sl12⟩) (c12 : PySem.W.codeIn K cd12 "_law_seen" = true) (k12 : PySem.W.keepIn K (.ref f12) = true)
    (a13 : PySem.W.nsIn K mainGlobals "_law_is_flat" = some (some (.ref f13))) (l13 : K.lookup f13 = some ⟨oc13, od13, .func (PySem.W.fnOf "_law_is_flat" "_law_is_flat" (defArgs sLF) (defBody sLF) (defScope sLF) .none kV13 dc13 pm13 an13 cd13 ct13), sl13⟩) (c13 : PySem.W.codeIn K cd13 "_law_is_flat" = true) (k13 : PySem.W.keepIn K (.ref f13) = true)
    (a14 : PySem.W.nsIn K mainGlobals "_law_is_seen" = some (some (.ref f14))) (l14 : K.lookup f14 = some ⟨oc14, od14, .func (PySem.W.fnOf "_law_is_seen" "_law_is_seen" (defArgs sLS) (defBody sLS) (defScope sLS) .none kV14 dc14 pm14 an14 cd14 ct14), sl14⟩) (c14 : PySem.W.codeIn K cd14 "_law_is_seen" = true) (k14 : PySem.W.keepIn K (.ref f14) = true)
    (a15 : PySem.W.nsIn K mainGlobals "_law_otherwise" = some (some (.ref f15))) (l15 : K.lookup f15 = some ⟨oc15, od15, .func (PySem.W.fnOf "_law_otherwise" "_law_otherwise" (defArgs sOt) (defBody sOt) (defScope sOt) .none kV15 dc15 pm15 an15 cd15 ct15), sl15⟩) (c15 : PySem.W.codeIn K cd15 "_law_otherwise" = true) (k15 : PySem.W.keepIn K (.ref f15) = true)
    (a16 : PySem.W.nsIn K mainGlobals "law" = some (some (.ref f16))) (l16 : K.lookup f16 = some ⟨oc16, od16, .func (PySem.W.fnOf "law" "law" (defArgs sLaw) (defBody sLaw) (defScope sLaw) .none kV16 dc16 pm16 an16 cd16 ct16), sl16⟩) (c16 : PySem.W.codeIn K cd16 "law" = true) (k16 : PySem.W.keepIn K (.ref f16) = true)
    (zrange : PySem.W.nsIn K mainGlobals "range" = some none)
    (zmax : PySem.W.nsIn K mainGlobals "max" = some none)
    (zmin : PySem.W.nsIn K mainGlobals "min" = some none)
    (zlen : PySem.W.nsIn K mainGlobals "len" = some none)
    (zabs : PySem.W.nsIn K mainGlobals "abs" = some none)
    (zint : PySem.W.nsIn K mainGlobals "int" = some none)
    (zzip : PySem.W.nsIn K mainGlobals "zip" = some none)
    (zrepr : PySem.W.nsIn K mainGlobals "repr" = some none)
    {FV ga1 gb1 ga2 gb2 ga3 gb3 ga4 gb4 ga5 gb5 ga6 gb6 ga7 gb7 ga8 gb8 ga9 gb9 ga10 gb10 : Addr} {da1 db1 da2 db2 da3 db3 da4 db4 da5 db5 da6 db6 da7 db7 da8 db8 da9 db9 da10 db10 : Option Addr} {sa1 sb1 sa2 sb2 sa3 sb3 sa4 sb4 sa5 sb5 sa6 sb6 sa7 sb7 sa8 sb8 sa9 sb9 sa10 sb10 : Array (Option Value)} {nF na1 nb1 na2 nb2 na3 nb3 na4 nb4 na5 nb5 na6 nb6 na7 nb7 na8 nb8 na9 nb9 na10 nb10 : Nat} {ta1 tb1 ta2 tb2 tc2 ta3 tb3 tc3 ta4 tb4 tc4 ta5 ta6 tb6 tc6 ta7 tb7 tc7 ta8 tb8 tc8 ta9 tb9 ta10 tb10 : Tok} {es : Array DictEntry} (aF : PySem.W.nsIn K mainGlobals "FORMS" = some (some (.ref FV))) (oF : K.lookup FV = some ⟨.type "dict", none, .dict es nF, #[]⟩) (litF : PySem.W.KeysLit w.params es.toList) (lowF : (FV == sysModules) = false)
    (n1 : PySem.W.nsIn K FV "next" = some (some (.ref ga1))) (p1 : K.lookup ga1 = some ⟨.type "tuple", da1, .seq #[.str "term" ta1, .ref gb1] na1, sa1⟩) (q1 : K.lookup gb1 = some ⟨.type "tuple", db1, .seq #[.str "term" tb1] nb1, sb1⟩)
    (n2 : PySem.W.nsIn K FV "plus" = some (some (.ref ga2))) (p2 : K.lookup ga2 = some ⟨.type "tuple", da2, .seq #[.str "term" ta2, .ref gb2] na2, sa2⟩) (q2 : K.lookup gb2 = some ⟨.type "tuple", db2, .seq #[.str "term" tb2, .str "term" tc2] nb2, sb2⟩)
    (n3 : PySem.W.nsIn K FV "times" = some (some (.ref ga3))) (p3 : K.lookup ga3 = some ⟨.type "tuple", da3, .seq #[.str "term" ta3, .ref gb3] na3, sa3⟩) (q3 : K.lookup gb3 = some ⟨.type "tuple", db3, .seq #[.str "term" tb3, .str "term" tc3] nb3, sb3⟩)
    (n4 : PySem.W.nsIn K FV "same" = some (some (.ref ga4))) (p4 : K.lookup ga4 = some ⟨.type "tuple", da4, .seq #[.str "saying" ta4, .ref gb4] na4, sa4⟩) (q4 : K.lookup gb4 = some ⟨.type "tuple", db4, .seq #[.str "term" tb4, .str "term" tc4] nb4, sb4⟩)
    (n5 : PySem.W.nsIn K FV "no" = some (some (.ref ga5))) (p5 : K.lookup ga5 = some ⟨.type "tuple", da5, .seq #[.str "saying" ta5, .ref gb5] na5, sa5⟩) (q5 : K.lookup gb5 = some ⟨.type "tuple", db5, .seq #[] nb5, sb5⟩)
    (n6 : PySem.W.nsIn K FV "and" = some (some (.ref ga6))) (p6 : K.lookup ga6 = some ⟨.type "tuple", da6, .seq #[.str "saying" ta6, .ref gb6] na6, sa6⟩) (q6 : K.lookup gb6 = some ⟨.type "tuple", db6, .seq #[.str "saying" tb6, .str "saying" tc6] nb6, sb6⟩)
    (n7 : PySem.W.nsIn K FV "or" = some (some (.ref ga7))) (p7 : K.lookup ga7 = some ⟨.type "tuple", da7, .seq #[.str "saying" ta7, .ref gb7] na7, sa7⟩) (q7 : K.lookup gb7 = some ⟨.type "tuple", db7, .seq #[.str "saying" tb7, .str "saying" tc7] nb7, sb7⟩)
    (n8 : PySem.W.nsIn K FV "if" = some (some (.ref ga8))) (p8 : K.lookup ga8 = some ⟨.type "tuple", da8, .seq #[.str "saying" ta8, .ref gb8] na8, sa8⟩) (q8 : K.lookup gb8 = some ⟨.type "tuple", db8, .seq #[.str "saying" tb8, .str "saying" tc8] nb8, sb8⟩)
    (n9 : PySem.W.nsIn K FV "all" = some (some (.ref ga9))) (p9 : K.lookup ga9 = some ⟨.type "tuple", da9, .seq #[.str "saying" ta9, .ref gb9] na9, sa9⟩) (q9 : K.lookup gb9 = some ⟨.type "tuple", db9, .seq #[.str "saying" tb9] nb9, sb9⟩)
    (n10 : PySem.W.nsIn K FV "some" = some (some (.ref ga10))) (p10 : K.lookup ga10 = some ⟨.type "tuple", da10, .seq #[.str "saying" ta10, .ref gb10] na10, sa10⟩) (q10 : K.lookup gb10 = some ⟨.type "tuple", db10, .seq #[.str "saying" tb10] nb10, sb10⟩)
    {FL : Addr} {ddL : Option Addr} {slL : Array (Option Value)} {nL : Nat} {t1 t2 t3 t4 : Tok} (aL : PySem.W.nsIn K mainGlobals "FLAT" = some (some (.ref FL))) (oL : K.lookup FL = some ⟨.type "tuple", ddL, .seq #[.str "same" t1, .str "no" t2, .str "and" t3, .str "if" t4] nL, slL⟩) :
    LawG l w K 41 63 "script" mg fa h := by
  have e := hfa.symm.trans (PySem.W.mg_of X G a16)
  cases e
  have F1 := fun_mk (st := sOf) l1 c1 k1
  have b1 := F1.binds (ps := ["saying"]) fun _ _ _ _ _ _ us hl => match us, hl with | [_], _ => rfl
  have m1 := PySem.W.mg_of X G a1
  have F2 := fun_mk (st := sFlatQ) l2 c2 k2
  have b2 := F2.binds (ps := ["saying"]) fun _ _ _ _ _ _ us hl => match us, hl with | [_], _ => rfl
  have m2 := PySem.W.mg_of X G a2
  have F3 := fun_mk (st := sSeenQ) l3 c3 k3
  have b3 := F3.binds (ps := ["saying"]) fun _ _ _ _ _ _ us hl => match us, hl with | [_], _ => rfl
  have m3 := PySem.W.mg_of X G a3
  have F4 := fun_mk (st := sFeed) l4 c4 k4
  have b4 := F4.binds (ps := ["script", "k"]) fun _ _ _ _ _ _ us hl => match us, hl with | [_, _], _ => rfl
  have m4 := PySem.W.mg_of X G a4
  have F5 := fun_mk (st := sTake) l5 c5 k5
  have b5 := F5.binds (ps := ["feed", "many"]) fun _ _ _ _ _ _ us hl => match us, hl with | [_, _], _ => rfl
  have m5 := PySem.W.mg_of X G a5
  have F6 := fun_mk (st := sPick) l6 c6 k6
  have b6 := F6.binds (ps := ["feed", "some"]) fun _ _ _ _ _ _ us hl => match us, hl with | [_, _], _ => rfl
  have m6 := PySem.W.mg_of X G a6
  have F7 := fun_mk (st := sLeaf) l7 c7 k7
  have b7 := F7.binds (ps := ["feed", "names", "around"]) fun _ _ _ _ _ _ us hl => match us, hl with | [_, _, _], _ => rfl
  have m7 := PySem.W.mg_of X G a7
  have F8 := fun_mk (st := sTerm) l8 c8 k8
  have b8 := F8.binds (ps := ["feed", "deep", "names", "around"]) fun _ _ _ _ _ _ us hl => match us, hl with | [_, _, _, _], _ => rfl
  have m8 := PySem.W.mg_of X G a8
  have F9 := fun_mk (st := sSaying) l9 c9 k9
  have b9 := F9.binds (ps := ["feed", "deep", "names", "around"]) fun _ _ _ _ _ _ us hl => match us, hl with | [_, _, _, _], _ => rfl
  have m9 := PySem.W.mg_of X G a9
  have F10 := fun_mk (st := sFlat) l10 c10 k10
  have b10 := F10.binds (ps := ["feed", "deep", "names", "around"]) fun _ _ _ _ _ _ us hl => match us, hl with | [_, _, _, _], _ => rfl
  have m10 := PySem.W.mg_of X G a10
  have F11 := fun_mk (st := sSmall) l11 c11 k11
  have b11 := F11.binds (ps := ["feed", "deep", "names", "around"]) fun _ _ _ _ _ _ us hl => match us, hl with | [_, _, _, _], _ => rfl
  have m11 := PySem.W.mg_of X G a11
  have F12 := fun_mk (st := sSeen) l12 c12 k12
  have b12 := F12.binds (ps := ["feed", "deep", "around", "left"]) fun _ _ _ _ _ _ us hl => match us, hl with | [_, _, _, _], _ => rfl
  have m12 := PySem.W.mg_of X G a12
  have F13 := fun_mk (st := sLF) l13 c13 k13
  have b13 := F13.binds (ps := ["saying"]) fun _ _ _ _ _ _ us hl => match us, hl with | [_], _ => rfl
  have m13 := PySem.W.mg_of X G a13
  have F14 := fun_mk (st := sLS) l14 c14 k14
  have b14 := F14.binds (ps := ["saying"]) fun _ _ _ _ _ _ us hl => match us, hl with | [_], _ => rfl
  have m14 := PySem.W.mg_of X G a14
  have F15 := fun_mk (st := sOt) l15 c15 k15
  have b15 := F15.binds (ps := ["feed", "saying"]) fun _ _ _ _ _ _ us hl => match us, hl with | [_, _], _ => rfl
  have m15 := PySem.W.mg_of X G a15
  have F16 := fun_mk (st := sLaw) l16 c16 k16
  have m16 := PySem.W.mg_of X G a16
  have grange := PySem.W.mg_none_of X G zrange
  have gmax := PySem.W.mg_none_of X G zmax
  have gmin := PySem.W.mg_none_of X G zmin
  have glen := PySem.W.mg_none_of X G zlen
  have gabs := PySem.W.mg_none_of X G zabs
  have gint := PySem.W.mg_none_of X G zint
  have gzip := PySem.W.mg_none_of X G zzip
  have grepr := PySem.W.mg_none_of X G zrepr
  refine ⟨PySem.W.fnOf "law" "law" (defArgs sLaw) (defBody sLaw) (defScope sLaw) .none kV16 dc16 pm16 an16 cd16 ct16, [], spLaw K, fun p hp => (List.not_mem_nil hp).elim, fun p hp => (List.not_mem_nil hp).elim, fun p hp => (List.not_mem_nil hp).elim, fun s v => .of_eq rfl,
    fun H a ns hl hb _ hS => ⟨a, ns, rfl, hS, hl, hb, fun _ => rfl⟩, fun base _ _ _ => ?_⟩
  have form : ∀ wd k ks, (wd, k, ks) ∈ table → ∃ fa fb, PySem.W.nsIn K FV wd = some (some (.ref fa)) ∧ (∀ H, SqT K H fa [.str k, .ref fb]) ∧ ∀ H, SqT K H fb (ks.map V.str) := by
    intro wd k ks hm
    rcases List.mem_cons.mp hm with e | hm
    · cases e
      exact ⟨_, _, n1, fun H => .inr ⟨_, _, _, p1, rfl, rfl, (by show 2 ≤ sizeLine; decide), .cons ⟨_, rfl⟩ (.cons rfl .nil)⟩, fun H => .inr ⟨_, _, _, q1, rfl, rfl, (by show 1 ≤ sizeLine; decide), .cons ⟨_, rfl⟩ (.nil)⟩⟩
    rcases List.mem_cons.mp hm with e | hm
    · cases e
      exact ⟨_, _, n2, fun H => .inr ⟨_, _, _, p2, rfl, rfl, (by show 2 ≤ sizeLine; decide), .cons ⟨_, rfl⟩ (.cons rfl .nil)⟩, fun H => .inr ⟨_, _, _, q2, rfl, rfl, (by show 2 ≤ sizeLine; decide), .cons ⟨_, rfl⟩ (.cons ⟨_, rfl⟩ (.nil))⟩⟩
    rcases List.mem_cons.mp hm with e | hm
    · cases e
      exact ⟨_, _, n3, fun H => .inr ⟨_, _, _, p3, rfl, rfl, (by show 2 ≤ sizeLine; decide), .cons ⟨_, rfl⟩ (.cons rfl .nil)⟩, fun H => .inr ⟨_, _, _, q3, rfl, rfl, (by show 2 ≤ sizeLine; decide), .cons ⟨_, rfl⟩ (.cons ⟨_, rfl⟩ (.nil))⟩⟩
    rcases List.mem_cons.mp hm with e | hm
    · cases e
      exact ⟨_, _, n4, fun H => .inr ⟨_, _, _, p4, rfl, rfl, (by show 2 ≤ sizeLine; decide), .cons ⟨_, rfl⟩ (.cons rfl .nil)⟩, fun H => .inr ⟨_, _, _, q4, rfl, rfl, (by show 2 ≤ sizeLine; decide), .cons ⟨_, rfl⟩ (.cons ⟨_, rfl⟩ (.nil))⟩⟩
    rcases List.mem_cons.mp hm with e | hm
    · cases e
      exact ⟨_, _, n5, fun H => .inr ⟨_, _, _, p5, rfl, rfl, (by show 2 ≤ sizeLine; decide), .cons ⟨_, rfl⟩ (.cons rfl .nil)⟩, fun H => .inr ⟨_, _, _, q5, rfl, rfl, (by show 0 ≤ sizeLine; decide), .nil⟩⟩
    rcases List.mem_cons.mp hm with e | hm
    · cases e
      exact ⟨_, _, n6, fun H => .inr ⟨_, _, _, p6, rfl, rfl, (by show 2 ≤ sizeLine; decide), .cons ⟨_, rfl⟩ (.cons rfl .nil)⟩, fun H => .inr ⟨_, _, _, q6, rfl, rfl, (by show 2 ≤ sizeLine; decide), .cons ⟨_, rfl⟩ (.cons ⟨_, rfl⟩ (.nil))⟩⟩
    rcases List.mem_cons.mp hm with e | hm
    · cases e
      exact ⟨_, _, n7, fun H => .inr ⟨_, _, _, p7, rfl, rfl, (by show 2 ≤ sizeLine; decide), .cons ⟨_, rfl⟩ (.cons rfl .nil)⟩, fun H => .inr ⟨_, _, _, q7, rfl, rfl, (by show 2 ≤ sizeLine; decide), .cons ⟨_, rfl⟩ (.cons ⟨_, rfl⟩ (.nil))⟩⟩
    rcases List.mem_cons.mp hm with e | hm
    · cases e
      exact ⟨_, _, n8, fun H => .inr ⟨_, _, _, p8, rfl, rfl, (by show 2 ≤ sizeLine; decide), .cons ⟨_, rfl⟩ (.cons rfl .nil)⟩, fun H => .inr ⟨_, _, _, q8, rfl, rfl, (by show 2 ≤ sizeLine; decide), .cons ⟨_, rfl⟩ (.cons ⟨_, rfl⟩ (.nil))⟩⟩
    rcases List.mem_cons.mp hm with e | hm
    · cases e
      exact ⟨_, _, n9, fun H => .inr ⟨_, _, _, p9, rfl, rfl, (by show 2 ≤ sizeLine; decide), .cons ⟨_, rfl⟩ (.cons rfl .nil)⟩, fun H => .inr ⟨_, _, _, q9, rfl, rfl, (by show 1 ≤ sizeLine; decide), .cons ⟨_, rfl⟩ (.nil)⟩⟩
    · cases List.mem_singleton.mp hm
      exact ⟨_, _, n10, fun H => .inr ⟨_, _, _, p10, rfl, rfl, (by show 2 ≤ sizeLine; decide), .cons ⟨_, rfl⟩ (.cons rfl .nil)⟩, fun H => .inr ⟨_, _, _, q10, rfl, rfl, (by show 1 ≤ sizeLine; decide), .cons ⟨_, rfl⟩ (.nil)⟩⟩
  have T : Txt K w mg FV FL := ⟨PySem.W.mg_of X G aF, PySem.W.mg_of X G aL, fun H => .inr ⟨_, _, _, oL, rfl, rfl, (by show 4 ≤ sizeLine; decide), .cons ⟨_, rfl⟩ (.cons ⟨_, rfl⟩ (.cons ⟨_, rfl⟩ (.cons ⟨_, rfl⟩ .nil)))⟩, ⟨_, _, oF, litF, lowF⟩, form, gzip⟩
  have gTake := ok_take (P := l.prog) (w := w) (base := base) (mg := mg) (j := 0) F5
  have D : Draw l.prog w K mg base f5 f6 _ _ := ⟨gTake, b5, k5, m5, ok_pick F6 gTake b5 k5 m5 glen, b6, k6, m6⟩
  have gLeaf := ok_leaf F7 D
  have gTerm := ok_terms F8 D gLeaf b7 k7 m7 b8 m8
  have gSay := ok_sayings F9 D (gTerm 3) b8 k8 m8 b9 m9
  have gSmall := ok_smalls F11 D b11 m11
  have gFlat := ok_flats F10 D (gSmall 2) b11 k11 m11 b10 m10
  have gSeen := ok_seens F12 D (gFlat 2) b10 k10 m10 b12 m12
  have gOt := ok_ots F15 D b15 m15 gint glen
  have gFeed := ok_feed (P := l.prog) (w := w) (base := base) (j := 0) F4 glen gabs
  have gOf := ok_of (P := l.prog) (w := w) (base := base) (j := 0) F1 T
  have q1 := ok_flatQ F2 T gOf b1 k1 m1
  have q2 := ok_seenQ F3 T gOf b1 k1 m1 q1 b2 k2 m2
  have q3 := ok_LFs (P := l.prog) (w := w) (base := base) F13 b13 m13 20
  have q4 := ok_LSs F14 q3 b13 k13 m13 b14 m14 20 (Nat.le_refl 20)
  exact ok_law F16 ⟨gFeed, b4, k4, m4, gSay 4, b9, k9, m9, gFlat 4, b10, k10, m10, gSeen 5, b12, k12, m12, gOt 8, b15, k15, m15, q1, b2, k2, m2, q2, b3, k3, m3, q3, b13, k13, m13, q4, b14, k14, m14, grange, gmax, gmin, glen, grepr⟩
theorem walk {l : PySem.W.OpenLaw} {q : Program} {loose : List Str} {XP : (Str → Option Value) → Heap → Prop} {YP : World → Heap → Prop} {d : DefRec} {K : Params → PySem.W.Frag} (hn : l.most = some 63) (hdf : d.params.defaults = [])
    (hY : ∀ (w : World) (h : Heap), YP w h → (K w.params).In h)
    (F : ∀ (w : World) (mg : Str → Option Value) (fa : Addr) (h : Heap), (K w.params).In h → h.Ns mainGlobals mg → mg d.name = some (.ref fa) → LawG l w (K w.params) 41 63 "script" mg fa h) :
    PySem.W.WalkO q loose XP YP l.row.toRowW d [] (fun f vs => PySem.call f vs) :=
  walk_guard [] hn (by decide) hdf ⟨rfl, by decide, by decide⟩ (fun nm h => (List.not_mem_nil h).elim) hY (fun w mg fa h _ KX G hm _ => F w mg fa h KX G hm)
end Kf
open PySem PySem.W PyProof.Rows in
set_option maxRecDepth 100000 in
set_option maxHeartbeats 0 in
theorem PySem.Challenge.cw_prooffruit_k40_flat_and_seen_holds : PySem.Challenge.rw_prooffruit_k40_flat_and_seen.Holds := by
  w_on; o_law; k_head; (case hw => w_witness2)
  k_fill
  refine Kf.walk (l := PySem.Challenge.rw_prooffruit_k40_flat_and_seen) rfl rfl (fun w h Y => PySem.W.kIn_of Y) ?F
  case F =>
    intro w mg fa h KX G hmg
    refine' Kf.all_mk KX G hmg ?a1 ?l1 ?c1 ?k1 ?a2 ?l2 ?c2 ?k2 ?a3 ?l3 ?c3 ?k3 ?a4 ?l4 ?c4 ?k4 ?a5 ?l5 ?c5 ?k5 ?a6 ?l6 ?c6 ?k6 ?a7 ?l7 ?c7 ?k7 ?a8 ?l8 ?c8 ?k8 ?a9 ?l9 ?c9 ?k9 ?a10 ?l10 ?c10 ?k10 ?a11 ?l11 ?c11 ?k11 ?a12 ?l12 ?c12 ?k12 ?a13 ?l13 ?c13 ?k13 ?a14 ?l14 ?c14 ?k14 ?a15 ?l15 ?c15 ?k15 ?a16 ?l16 ?c16 ?k16 ?zrange ?zmax ?zmin ?zlen ?zabs ?zint ?zzip ?zrepr ?aF ?oF ?litF ?lowF ?n1 ?p1 ?q1 ?n2 ?p2 ?q2 ?n3 ?p3 ?q3 ?n4 ?p4 ?q4 ?n5 ?p5 ?q5 ?n6 ?p6 ?q6 ?n7 ?p7 ?q7 ?n8 ?p8 ?q8 ?n9 ?p9 ?q9 ?n10 ?p10 ?q10 ?aL ?oL
    (case a1 => first | k_is | rfl)
    (case l1 => first | k_is | rfl)
    (case c1 => first | k_is | rfl)
    (case k1 => first | k_is | rfl)
    (case a2 => first | k_is | rfl)
    (case l2 => first | k_is | rfl)
    (case c2 => first | k_is | rfl)
    (case k2 => first | k_is | rfl)
    (case a3 => first | k_is | rfl)
    (case l3 => first | k_is | rfl)
    (case c3 => first | k_is | rfl)
    (case k3 => first | k_is | rfl)
    (case a4 => first | k_is | rfl)
    (case l4 => first | k_is | rfl)
    (case c4 => first | k_is | rfl)
    (case k4 => first | k_is | rfl)
    (case a5 => first | k_is | rfl)
    (case l5 => first | k_is | rfl)
    (case c5 => first | k_is | rfl)
    (case k5 => first | k_is | rfl)
    (case a6 => first | k_is | rfl)
    (case l6 => first | k_is | rfl)
    (case c6 => first | k_is | rfl)
    (case k6 => first | k_is | rfl)
    (case a7 => first | k_is | rfl)
    (case l7 => first | k_is | rfl)
    (case c7 => first | k_is | rfl)
    (case k7 => first | k_is | rfl)
    (case a8 => first | k_is | rfl)
    (case l8 => first | k_is | rfl)
    (case c8 => first | k_is | rfl)
    (case k8 => first | k_is | rfl)
    (case a9 => first | k_is | rfl)
    (case l9 => first | k_is | rfl)
    (case c9 => first | k_is | rfl)
    (case k9 => first | k_is | rfl)
    (case a10 => first | k_is | rfl)
    (case l10 => first | k_is | rfl)
    (case c10 => first | k_is | rfl)
    (case k10 => first | k_is | rfl)
    (case a11 => first | k_is | rfl)
    (case l11 => first | k_is | rfl)
    (case c11 => first | k_is | rfl)
    (case k11 => first | k_is | rfl)
    (case a12 => first | k_is | rfl)
    (case l12 => first | k_is | rfl)
    (case c12 => first | k_is | rfl)
    (case k12 => first | k_is | rfl)
    (case a13 => first | k_is | rfl)
    (case l13 => first | k_is | rfl)
    (case c13 => first | k_is | rfl)
    (case k13 => first | k_is | rfl)
    (case a14 => first | k_is | rfl)
    (case l14 => first | k_is | rfl)
    (case c14 => first | k_is | rfl)
    (case k14 => first | k_is | rfl)
    (case a15 => first | k_is | rfl)
    (case l15 => first | k_is | rfl)
    (case c15 => first | k_is | rfl)
    (case k15 => first | k_is | rfl)
    (case a16 => first | k_is | rfl)
    (case l16 => first | k_is | rfl)
    (case c16 => first | k_is | rfl)
    (case k16 => first | k_is | rfl)
    (case zrange => first | k_is | rfl)
    (case zmax => first | k_is | rfl)
    (case zmin => first | k_is | rfl)
    (case zlen => first | k_is | rfl)
    (case zabs => first | k_is | rfl)
    (case zint => first | k_is | rfl)
    (case zzip => first | k_is | rfl)
    (case zrepr => first | k_is | rfl)
    (case aF => first | k_is | rfl)
    (case oF => first | k_is | rfl)
    (case litF => first | k_is | exact ⟨⟨_, _, rfl, rfl⟩, ⟨_, _, rfl, rfl⟩, ⟨_, _, rfl, rfl⟩, ⟨_, _, rfl, rfl⟩, ⟨_, _, rfl, rfl⟩, ⟨_, _, rfl, rfl⟩, ⟨_, _, rfl, rfl⟩, ⟨_, _, rfl, rfl⟩, ⟨_, _, rfl, rfl⟩, ⟨_, _, rfl, rfl⟩, trivial⟩)
    (case lowF => first | k_is | rfl)
    (case n1 => first | k_is | rfl)
    (case p1 => first | k_is | rfl)
    (case q1 => first | k_is | rfl)
    (case n2 => first | k_is | rfl)
    (case p2 => first | k_is | rfl)
    (case q2 => first | k_is | rfl)
    (case n3 => first | k_is | rfl)
    (case p3 => first | k_is | rfl)
    (case q3 => first | k_is | rfl)
    (case n4 => first | k_is | rfl)
    (case p4 => first | k_is | rfl)
    (case q4 => first | k_is | rfl)
    (case n5 => first | k_is | rfl)
    (case p5 => first | k_is | rfl)
    (case q5 => first | k_is | rfl)
    (case n6 => first | k_is | rfl)
    (case p6 => first | k_is | rfl)
    (case q6 => first | k_is | rfl)
    (case n7 => first | k_is | rfl)
    (case p7 => first | k_is | rfl)
    (case q7 => first | k_is | rfl)
    (case n8 => first | k_is | rfl)
    (case p8 => first | k_is | rfl)
    (case q8 => first | k_is | rfl)
    (case n9 => first | k_is | rfl)
    (case p9 => first | k_is | rfl)
    (case q9 => first | k_is | rfl)
    (case n10 => first | k_is | rfl)
    (case p10 => first | k_is | rfl)
    (case q10 => first | k_is | rfl)
    (case aL => first | k_is | rfl)
    (case oL => first | k_is | rfl)
