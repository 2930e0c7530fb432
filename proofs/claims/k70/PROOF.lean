import PyProof.Rows.All
import Wide.All
import OpenK.AllK
import Wide.FinOn
import HandS.ForMost
import HandS.SetKeys
import HandS.SetFor
import HandS.Strs
import HandS.More
import HandS.Wide
import HandS.IsInst
import HandS.TupAny
import HandS.EndBits
import HandS.WideBits
import HandS.AnyAll
import HandS.Zip
import HandS.Lambda
import HandS.Nested
import HandS.Star
import HandS.Flow
import HandS.Conv
import HandS.EndTab
import PyProof.ReprRoads
import HandS.EndOwn
import PyProof.ReprLen
import PyProof.ReprLoop
import HandS.Comp
import HandS.Style
import HandS.Steps
import PySem.Challenge.RW_prooffruit_k70_sayings_doubled
set_option Elab.async false
set_option linter.all false
set_option maxRecDepth 100000
set_option maxHeartbeats 4000000
/-! Sets of texts, whatever the world's order of them is: set(), set(a list), add, sorted. -/
namespace Sx
open PySem PySem.Spec PyProof.Rows L2
/-- the text of an entry -/
def tx (e : Int × Value) : Str := match e.2 with
  | .str k _ => k
  | _ => Str.empty
def Ent (w : World) (e : Int × Value) : Prop := ∃ k tk, e = (hashStr w k, Value.str k tk)
/-- one text more -/
def ins (k : Str) (ks : List Str) : List Str := if k ∈ ks then ks else k :: ks
theorem ins_mem {k j : Str} {ks : List Str} : j ∈ ins k ks ↔ j = k ∨ j ∈ ks := by
  unfold ins
  split
  · rename_i h
    exact ⟨.inr, fun q => q.elim (fun e => e ▸ h) (fun q => q)⟩
  · exact List.mem_cons
theorem ins_nodup {k : Str} {ks : List Str} (h : ks.Nodup) : (ins k ks).Nodup := by
  unfold ins
  split
  · exact h
  · rename_i q
    exact List.nodup_cons.mpr ⟨q, h⟩
theorem ins_len {k : Str} {ks : List Str} : (ins k ks).length ≤ ks.length + 1 := by
  unfold ins
  split
  · omega
  · exact Nat.le_refl _
/-- the set's table: its rows are the texts ks, it can be walked -/
structure Rows (w : World) (es : Array (Int × Value)) (t : SetTable) (ks : List Str) : Prop where
  ent : ∀ e ∈ es.toList, Ent w e
  perm : (es.toList.map tx).Perm ks
  nd : ks.Nodup
  few : es.size < scanBound
  fit : t.fits es.size = true
  ris : Ris t.place.toList
  led : w.params.followText "set-order" = true ∨ t.led = true
def SetS (w : World) (h : Heap) (a : Addr) (ks : List Str) : Prop := ∃ o es ep t, h.get? a = some o ∧ o.ExactSet ∧ o.data = .set es ep t ∧ Rows w es t ks
section
variable {P : Program} {w : World} {h h' : Heap} {a : Addr} {ks : List Str} {es : Array (Int × Value)} {t : SetTable}
theorem SetS.stay (R : SetS w h a ks) (k : ∀ o, h.get? a = some o → h'.get? a = some o) : SetS w h' a ks := by
  obtain ⟨o, es, ep, t, ho, z⟩ := R
  exact ⟨o, es, ep, t, k o ho, z⟩
theorem Rows.size (r : Rows w es t ks) : es.size = ks.length := by
  have q := r.perm.length_eq
  rw [List.length_map, Array.length_toList] at q
  exact q
theorem ent_is {e : Int × Value} (g : Ent w e) (k : Str) : (PySem.strKind P w).is k e.2 = true ↔ tx e = k := by
  obtain ⟨j, tk, rfl⟩ := g
  show (j == k) = true ↔ j = k
  exact beq_iff_eq
theorem Rows.elems (r : Rows w es t ks) : ElemsOf (PySem.strKind P w) es.toList := by
  intro e he
  obtain ⟨k, tk, rfl⟩ := r.ent e he
  exact ⟨⟨k, strKind_is P w k tk, rfl⟩, rfl⟩
theorem Rows.mem (r : Rows w es t ks) (k : Str) : k ∈ ks ↔ ∃ e ∈ es.toList, (PySem.strKind P w).is k e.2 = true := by
  rw [← r.perm.mem_iff, List.mem_map]
  exact ⟨fun ⟨e, he, q⟩ => ⟨e, he, (ent_is (r.ent e he) k).2 q⟩, fun ⟨e, he, q⟩ => ⟨e, he, (ent_is (r.ent e he) k).1 q⟩⟩
theorem SetS.of (R : SetS w h a ks) : h.SetOf (PySem.strKind P w) a (fun k => decide (k ∈ ks)) ks.length := by
  obtain ⟨o, es, ep, t, ho, hx, hd, r⟩ := R
  exact ⟨o, es, ep, t, ho, hx, hd, r.elems, fun k => by rw [decide_eq_true_iff]; exact r.mem k, r.few, r.fit, r.size⟩
theorem rows_new (w : World) : Rows w #[] (.fresh 0 0 (!w.params.followText "set-order")) [] where
  ent := fun e he => by simp at he
  perm := List.Perm.refl _
  nd := List.nodup_nil
  few := by decide
  fit := rfl
  ris := List.Pairwise.nil
  led := by
    show _ ∨ (!w.params.followText "set-order") = true
    cases w.params.followText "set-order" with
    | true => exact .inl rfl
    | false => exact .inr rfl
end
section
variable {P : Program} {w : World} {A : Around} {E : Value → Shared → Prop} {s : Shared} {a : Addr} {ks : List Str}
/-- the table is stored, and laid anew where it is too full -/
theorem stored {gave : Bool → Sem Unit} (hg : ∀ (b : Bool) (z : Shared) (Y : Unit → Shared → Prop), Y () z → wpAny (model P w) A (gave b) Y E z)
    {o : Obj} {es0 es : Array (Int × Value)} {ep : Nat} {t0 t : SetTable} (ho : s.heap.get? a = some o) (hx : o.ExactSet) (hd : o.data = .set es0 ep t0) (r : Rows w es t ks) {dummy : Bool} {Z : Option Bool → Shared → Prop}
    (hZ : ∀ h', Heap.SameBut a s.heap h' → SetS w h' a ks → Z (some true) { s with heap := h' }) :
    wpAny (model P w) A (do
        storeSet a es t
        if (!dummy && t.tooFull) = true then do
            gave (relayAll t es (SetTable.grown es.size)).2.2
            storeSet a (relayAll t es (SetTable.grown es.size)).1 (relayAll t es (SetTable.grown es.size)).2.1
            pure (some true)
          else pure (some true)) Z E s := by
  have first := Heap.SameBut.update s.heap a (Obj.putSet es t)
  have o1 := store_at (es' := es) (t' := t) ho hd
  refine wpAny_bind (wpAny_storeSet_of ho hd ?_ (fits_of_scanBound r.few))
  by_cases full : (!dummy && t.tooFull) = true
  · rw [if_pos full]
    have r2 : Rows w (relayAll t es (SetTable.grown es.size)).1 (relayAll t es (SetTable.grown es.size)).2.1 ks := by
      have pm := relayAll_perm t es (SetTable.grown es.size)
      have sz : (relayAll t es (SetTable.grown es.size)).1.size = es.size := by
        have q := pm.length_eq
        rw [Array.length_toList, Array.length_toList] at q
        exact q
      exact ⟨fun e he => r.ent e (pm.mem_iff.mp he), (pm.map tx).trans r.perm, r.nd, Nat.lt_of_le_of_lt (Nat.le_of_eq sz) r.few, relayAll_fits _ _ _, relayAll_ris _ _ _, r.led.imp (fun z => z) fun z => (relayAll_led _ _ _).trans z⟩
    refine wpAny_bind (hg _ _ _ (wpAny_bind (wpAny_storeSet_of o1 rfl ?_ (fits_of_scanBound r2.few))))
    exact wpAny_pure (hZ _ (first.trans (Heap.SameBut.update _ a _)) ⟨_, _, _, _, store_at o1 rfl, hx, rfl, r2⟩)
  · rw [if_neg full]
    exact wpAny_pure (hZ _ first ⟨_, _, _, _, o1, hx, rfl, r⟩)
theorem plain_off {w : World} {es : Array (Int × Value)} {t : SetTable} {ks : List Str} (r : Rows w es t ks) : Rows w es { t with plain := false } ks :=
  ⟨r.ent, r.perm, r.nd, r.few, SetTable.fits_plain_off r.fit, r.ris, r.led⟩
/-- a text whose hash is known is added -/
theorem add_at {k : Str} {tk : Tok} {Z : Bool → Shared → Prop} (R : SetS w s.heap a ks) (room : ks.length + 1 < scanBound)
    (hZ : ∀ b h', Heap.SameBut a s.heap h' → SetS w h' a (ins k ks) → Z b { s with heap := h' }) : wpAny (model P w) A (setAddHashed a (.str k tk) (hashStr w k)) Z E s := by
  obtain ⟨o, es, ep, t, ho, hx, hd, r⟩ := R
  have hel : ElemsOf (PySem.strKind P w) es.toList := r.elems
  have hscan : byScan (Value.str k tk) es = true := byScan_of rfl r.few hel
  unfold setAddHashed setAddHashedIn
  refine wpAny_holding (wpAny_bind (wpAny_setState_of ho hd r.fit ?_))
  dsimp only
  rw [hscan]
  simp only [↓reduceIte]
  unfold setAddByScan
  refine wpAny_bind (wpAny_bind (wpAny_rule (wpAny_bind (wpAny_setScan_of (knd := PySem.strKind P w) (k := k) (strKind_is P w k tk) ho hd r.fit hel ?_))))
  cases found : List.findIdx? (fun e => (PySem.strKind P w).is k e.2) es.toList with
  | some j =>
    obtain ⟨lt, hit, _⟩ := List.findIdx?_eq_some_iff_getElem.mp found
    have there : k ∈ ks := (r.mem (P := P) k).2 ⟨_, List.getElem_mem lt, hit⟩
    refine wpAny_pure (wpAny_pure (hZ _ s.heap (Heap.SameBut.refl a s.heap) ⟨o, es, ep, t, ho, hx, hd, ?_⟩))
    unfold ins
    rw [if_pos there]
    exact r
  | none =>
    have away : k ∉ ks := fun z => by
      obtain ⟨e, he, hit⟩ := (r.mem (P := P) k).1 z
      have no := List.findIdx?_eq_none_iff.mp found e he
      rw [hit] at no
      cases no
    have pm0 := layNew_perm t es (hashStr w k) (.str k tk)
    rw [Array.toList_push] at pm0
    have pm := pm0.trans (List.perm_append_singleton (hashStr w k, Value.str k tk) es.toList)
    have r1 : Rows w (layNew t es (hashStr w k) (.str k tk)).1 (layNew t es (hashStr w k) (.str k tk)).2.1 (ins k ks) := by
      have sz : (layNew t es (hashStr w k) (.str k tk)).1.size = ks.length + 1 := by
        have q := pm.length_eq
        rw [Array.length_toList, List.length_cons, Array.length_toList, r.size] at q
        exact q
      refine ⟨fun e he => ?_, ?_, ins_nodup r.nd, Nat.lt_of_le_of_lt (Nat.le_of_eq sz) room, layNew_fits _ _ _ _, layNew_ris _ _ _ _ r.ris, r.led.imp (fun z => z) fun z => (layNew_led _ _ _ _).trans z⟩
      · rcases List.mem_cons.mp (pm.mem_iff.mp he) with z | z
        · exact ⟨k, tk, z⟩
        · exact r.ent e z
      · unfold ins
        rw [if_neg away]
        exact (pm.map tx).trans (List.Perm.cons k r.perm)
    have gw : ∀ (b : Bool) (z : Shared) (Y : Unit → Shared → Prop), Y () z → wpAny (model P w) A (match b with | true => rule "set.scan.the-table-gave-way" | false => pure ()) Y E z := by
      intro b z Y q
      cases b with
      | true => exact wpAny_rule q
      | false => exact wpAny_pure q
    have goal2 : ∀ h', Heap.SameBut a s.heap h' → SetS w h' a (ins k ks) → Z true { s with heap := h' } := fun h' sb r' => hZ true h' sb r'
    dsimp only
    change wpAny _ _ _ _ _ _
    generalize layNew t es (hashStr w k) (.str k tk) = L at r1 ⊢
    obtain ⟨es1, t1, dummy, gave⟩ := L
    dsimp only at r1 ⊢
    refine wpAny_bind (gw _ _ _ ?_)
    by_cases pl : t1.plain = true
    · rw [if_pos pl]
      refine wpAny_bind ?_
      rw [hashByValue_scannable 8 (show (Value.str k tk).scannable = true from rfl)]
      refine wpAny_pure ?_
      refine stored gw ho hx hd (ks := ins k ks) ?_ fun h' sb r' => wpAny_pure (goal2 h' sb r')
      split
      · exact r1
      · exact plain_off r1
    · rw [if_neg pl]
      refine wpAny_bind (wpAny_pure ?_)
      simp only [↓reduceIte]
      exact stored gw ho hx hd (ks := ins k ks) r1 fun h' sb r' => wpAny_pure (goal2 h' sb r')
end
/-- the texts of the first i are put in, one by one -/
def insAll (ks : List Str) : List Str → List Str
  | [] => ks
  | x :: r => insAll (ins x ks) r
theorem insAll_mem {j : Str} : ∀ (xs ks : List Str), j ∈ insAll ks xs ↔ j ∈ xs ∨ j ∈ ks
  | [], ks => by simp [insAll]
  | x :: r, ks => by
    rw [insAll, insAll_mem r, ins_mem, List.mem_cons]
    constructor
    · rintro (h | h | h)
      · exact .inl (.inr h)
      · exact .inl (.inl h)
      · exact .inr h
    · rintro ((h | h) | h)
      · exact .inr (.inl h)
      · exact .inl h
      · exact .inr (.inr h)
theorem insAll_len : ∀ (xs ks : List Str), (insAll ks xs).length ≤ ks.length + xs.length
  | [], ks => Nat.le_refl _
  | x :: r, ks => by
    have h1 := insAll_len r (ins x ks)
    have h2 := ins_len (k := x) (ks := ks)
    rw [insAll, List.length_cons]
    omega
section
variable {P : Program} {w : World} {A : Around} {E : Value → Shared → Prop} {s : Shared}
/-- set.update's own loop over a walk that yields texts -/
theorem feed_loop {I : Addr} {fp wr : List Addr} {G : Array GenState → Array GenState → Prop} {n : Nat} {Y : Nat → Value → Prop} {St : Nat → Shared → Prop} {Z : Result → Shared → Prop}
    (W : WalksS P w A.in1 I fp wr G n Y St) (S : Addr) (out : S ∉ fp) (texts : List Str) (hn : texts.length = n) (hb : n + 1 < scanBound) (hY : ∀ i v, Y i v → ∃ k tk, texts[i]? = some k ∧ v = .str k tk) :
    ∀ (left : Nat) (i : Nat) (ks : List Str) (s : Shared), i + left = n → St i s → SetS w s.heap S ks → ks.length ≤ i →
      (∀ s', Moved (S :: wr) G s s' → SetS w s'.heap S (insAll ks (texts.drop i)) → Z (.ok (.ret .none)) s') → codeAny (model P w) A (.builtin "set.update.loop" ⟨[.ref S, .ref I], []⟩) Z s := by
  have quietS : S ∉ wr := fun z => out (W.sub _ z)
  have more : ∀ b ∈ wr, b ∈ S :: wr := fun b hb => List.mem_cons_of_mem _ hb
  intro left
  induction left with
  | zero =>
    intro i ks s hi hst hS _ hZ
    have e0 : texts.drop i = [] := List.drop_eq_nil_of_le (by omega)
    rw [e0] at hZ
    have e1 : i = n := by omega
    rw [e1] at hst
    refine codeAny_builtin F.entry_set_update_loop ?_
    rw [Around.under_plainId F.plain_set_update_loop _]
    show wpAny _ A.in1 (pyNext (.ref I) >>= _) _ _ s
    refine wpAny_bind (W.done s _ _ hst fun s' mv => wpAny_pure (hZ s' (mv.mono more) (hS.stay fun o e => mv.heap S o quietS e)))
  | succ left ih =>
    intro i ks s hi hst hS hk hZ
    have lt : i < n := by omega
    refine codeAny_builtin F.entry_set_update_loop ?_
    rw [Around.under_plainId F.plain_set_update_loop _]
    show wpAny _ A.in1 (pyNext (.ref I) >>= _) _ _ s
    refine wpAny_bind (W.item i s _ _ lt hst fun v s1 hv hst1 mv => ?_)
    obtain ⟨k, tk, hk1, rfl⟩ := hY i v hv
    have hS1 : SetS w s1.heap S ks := hS.stay fun o e => mv.heap S o quietS e
    have ed : texts.drop i = k :: texts.drop (i + 1) := by
      obtain ⟨lt2, e2⟩ := List.getElem?_eq_some_iff.mp hk1
      rw [← e2]
      exact List.drop_eq_getElem_cons lt2
    rw [ed] at hZ
    show wpAny _ A.in1 (holding [Value.str k tk] (setAdd S (.str k tk)) >>= _) _ _ s1
    unfold setAdd
    refine wpAny_bind (wpAny_holding (wpAny_holding (wpAny_bind ((PySem.strKind P w).pyHash (k := k) (strKind_is P w k tk) ?_))))
    refine add_at (s := { s1 with toks := s1.toks + 1 }) hS1 (by omega) fun b h' sb hS2 => ?_
    refine wpAny_pure ⟨plainId_quiet F.plain_set_update_loop _, ih (i + 1) (ins k ks) _ (by omega) (W.frame _ s1 _ _ hst1 (Nat.le_succ _) fun c hc o e => ?_) hS2 ?_ fun s2 mv2 hS3 => ?_⟩
    · have away : c ≠ S := fun z => out (z ▸ hc)
      rw [sb.2 c away]
      exact e
    · have := ins_len (k := k) (ks := ks)
      omega
    · refine hZ s2 (Moved.trans W.gtrans ((mv.mono more).then_heap (Nat.le_succ _) fun c o hc e => ?_) mv2) hS3
      have away : c ≠ S := fun z => hc (z ▸ List.mem_cons_self)
      rw [sb.2 c away]
      exact e
/-- the empty set, as it is made -/
abbrev bare (w : World) : Obj := { cls := .type "set", dict := none, data := .set #[] 0 (.fresh 0 0 (!w.params.followText "set-order")) }
theorem bare_holds {h : Heap} {a : Addr} (ho : h.get? a = some (bare w)) : SetS w h a [] := ⟨_, _, _, _, ho, ⟨rfl, rfl, rfl⟩, rfl, rows_new w⟩
set_option maxHeartbeats 8000000 in
theorem set_of_list {l : Addr} {items : Array Value} (texts : List Str) {Z : Value → Shared → Prop} (hh : A.handled = none) (hl : s.heap.IsList l items) (ht : StrsAre items.toList texts) (hb : texts.length + 1 < scanBound)
    (hZ : ∀ (h' : Heap) (tk : Nat), SetS w h' s.heap.objs.size (insAll [] texts) → (∀ b o, s.heap.get? b = some o → h'.get? b = some o) → Z (.ref s.heap.objs.size) { s with heap := h', toks := tk }) :
    wpAny (model P w) A (call (.type "set") [.ref l]) Z E s := by
  have count : texts.length = items.size := by
    have q := StrsAre.len_eq ht
    rw [Array.length_toList] at q
    exact q.symm
  obtain ⟨c, tl, hmro⟩ := F.called_set.mro
  have made := F.called_set.made
  have sub := F.called_set.sub
  have noType := F.called_set.notType
  have can := F.called_set.canCreate
  have tcall := F.typeCall_set_1 (.ref l)
  refine wpAny_call (codeAny_of_tree ?_)
  show wpAny _ _ (callAny (.type "set") _) _ _ _
  refine wpAny_pure ⟨Code.quiet_builtin _ (by decide +kernel), codeAny_builtin F.entry_type_call ?_⟩
  rw [Around.under_plain (weight_type_call_type "set" [.ref l] []) rfl]
  repeat (any_goals (first | assumption | wp_step))
  refine codeAny_mono (code_set_led1 (.ref l) (E := E) (Q₁ := fun v z => v = .ref s.heap.objs.size ∧ z = { s with heap := s.heap.push (bare w) }) ⟨rfl, rfl⟩) fun r z hr => ?_
  match r, hr with
  | .error _, hr => exact hr
  | .ok .next, hr => exact hr.elim
  | .ok .brk, hr => exact hr.elim
  | .ok .cont, hr => exact hr.elim
  | .ok (.ret _), hr =>
    obtain ⟨rfl, rfl⟩ := hr
    have hS : (s.heap.push (bare w)).get? s.heap.objs.size = some (bare w) := Heap.get?_push_size _ rfl
    have isSet : Shared.TypeIs { s with heap := s.heap.push (bare w) } (.ref s.heap.objs.size) "set" := ⟨_, hS, rfl⟩
    have initL := F.called_set.init.lookup
    have initB := F.called_set.init.bind (.ref s.heap.objs.size)
    repeat (any_goals (first | assumption | wp_step))
    refine codeAny_mono (codeAny_call_builtin (R := wants (fun v z => v = .none ∧ ∃ h' tk, z = { s with heap := h', toks := tk } ∧ SetS w h' s.heap.objs.size (insAll [] texts) ∧ ∀ b o, s.heap.get? b = some o → h'.get? b = some o) E)
      F.called_set.init.plain F.entry_set_init (check_set_init_1 isSet ?_)) fun r z hr => ?_
    · have hl1 : (s.heap.push (bare w)).IsList l items := hl.push _
      obtain ⟨⟨_, dd, _, sl⟩, hol, rfl, nl, rfl⟩ := id hl
      have hol1 : (s.heap.push (bare w)).get? l = some ⟨.type "list", dd, .seq items nl, sl⟩ := Heap.get?_push_of_some _ hol
      have sub1 := F.sub_list_set
      have sub2 := F.sub_list_frozenset
      have unlike : (Value.type "list" == Value.type "dict") = false := by decide
      unfold Builtin.«set.__init__» noKeywords Builtin.Frozenset.updateFrom
      generalize hPI : pyIter = PI
      wp_walk
      subst hPI
      refine wpAny_pyIter_list hl1 (wpAny_bind (wpAny_runValue ?_))
      have old : l < s.heap.objs.size := Heap.lt_size hol
      have sz1 : (s.heap.push (bare w)).objs.size = s.heap.objs.size + 1 := Heap.size_push ..
      have apart : l ≠ (s.heap.push (bare w)).objs.size := by
        rw [sz1]
        exact Nat.ne_of_lt (Nat.lt_succ_of_lt old)
      have out : s.heap.objs.size ∉ [(s.heap.push (bare w)).objs.size, l] := by
        intro z
        rcases List.mem_cons.mp z with z | z
        · rw [sz1] at z
          omega
        · exact absurd old (by rw [← List.mem_singleton.mp z]; exact Nat.lt_irrefl _)
      have texty : ∀ (i : Nat) (v : Value), items[i]? = some v → ∃ k tk, texts[i]? = some k ∧ v = .str k tk := fun i v hv => by
        have hi : i < texts.length := by
          rw [count]
          exact (Array.getElem?_eq_some_iff.mp hv).1
        obtain ⟨tk, e⟩ := SS.strs_at ht i v (by rw [Array.getElem?_toList]; exact hv)
        refine ⟨texts[i], tk, List.getElem?_eq_getElem hi, ?_⟩
        rw [e, List.getD_eq_getElem?_getD, List.getElem?_eq_getElem hi]
        rfl
      have hh3 : A.in1.in1.in1.handled = none := by simp [hh]
      refine feed_loop ((Walks.list hh3 _ l apart items).toS) s.heap.objs.size out texts count (by rw [← count]; exact hb) texty items.size 0 [] _ (Nat.zero_add _) ⟨⟨_, Heap.get?_push_size _ rfl, rfl, rfl⟩, hl1.push _⟩
        (bare_holds (Heap.get?_push_of_some _ hS)) (Nat.le_refl _) fun s' mv hS' => ?_
      obtain ⟨h', g', d', tk', os'⟩ := s'
      have eg : g' = s.gens := mv.gens
      have ed : d' = s.drawn := mv.drawn
      have eo : os' = s.os := mv.os
      subst eg ed eo
      show wpAny _ _ _ _ _ _
      refine wpAny_pure ?_
      show wpAny _ _ (ret Value.none) _ _ _
      refine wpAny_pure ⟨rfl, h', tk', rfl, hS', fun b o e => ?_⟩
      have lt := Heap.lt_size e
      refine mv.heap b o (fun z => ?_) (Heap.get?_push_of_some _ (Heap.get?_push_of_some _ e))
      rcases List.mem_cons.mp z with z | z
      · rw [z] at lt
        exact Nat.lt_irrefl _ lt
      · have z2 := List.mem_singleton.mp z
        have lt2 : b < (s.heap.push (bare w)).objs.size := by
          rw [sz1]
          exact Nat.lt_succ_of_lt lt
        rw [z2] at lt2
        exact Nat.lt_irrefl _ lt2
    · match r, hr with
      | .error _, hr => exact hr
      | .ok .next, hr => exact hr.elim
      | .ok .brk, hr => exact hr.elim
      | .ok .cont, hr => exact hr.elim
      | .ok (.ret _), hr =>
        obtain ⟨rfl, h', tk, rfl, hS', keep⟩ := hr
        repeat (any_goals (first | assumption | wp_step))
        exact hZ _ _ hS' keep
/-- the texts of values that are texts -/
theorem texts_of : ∀ (vs : List Value), (∀ v ∈ vs, ∃ k tk, v = Value.str k tk) → ∃ ks, StrsAre vs ks ∧ ks = vs.map fun v => tx (0, v)
  | [], _ => ⟨[], .nil, rfl⟩
  | v :: vs, h => by
    obtain ⟨k, tk, rfl⟩ := h v List.mem_cons_self
    obtain ⟨ks, h1, h2⟩ := texts_of vs fun u hu => h u (List.mem_cons_of_mem _ hu)
    exact ⟨k :: ks, .cons k tk h1, by rw [h2]; rfl⟩
theorem sorted_of_set {a : Addr} {ks : List Str} {Z : Value → Shared → Prop} (R : SetS w s.heap a ks) (hh : A.handled = none) (few : ks.length < 64)
    (hZ : ∀ s' p (out : Array Value) (c : Nat) (ys : List Str), (∀ b o, s.heap.get? b = some o → s'.heap.get? b = some o) → s'.gens = s.gens → s'.os = s.os → s.heap.objs.size ≤ p →
      s'.heap.get? p = some (seqObj "list" out c) → StrsAre out.toList ys → ys.Perm ks → sortedS ys = true → Z (.ref p) s') :
    wpAny (model P w) A (call (.builtin "sorted") [.ref a]) Z E s := by
  obtain ⟨o, es, ep, t, ho, hx, hd, r⟩ := R
  refine Calls.call_function_entry kind_sorted plain_sorted entry_sorted (args_sorted1 _) ?_
  unfold Builtin.«sorted»
  refine wpAny_bind (m := checkCount "sorted" 1 1 _) (wpAny_pure ?_)
  refine wpAny_bind (collect_set (A := A.in1) hh ⟨o, ho, hx.1, hd⟩ r.fit r.few r.ris r.led fun s1 vs keep more g1 o1 pm => ?_)
  obtain ⟨texts, isT, eT⟩ := texts_of vs fun v hv => by
    obtain ⟨e, he, q⟩ := List.mem_map.mp (pm.mem_iff.mp hv)
    obtain ⟨k, tk, ee⟩ := r.ent e he
    exact ⟨k, tk, by rw [← q, ee]⟩
  have pT : texts.Perm ks := by
    refine List.Perm.trans ?_ r.perm
    rw [eT]
    have q := pm.map fun v => tx (0, v)
    rw [List.map_map] at q
    exact q
  have len : vs.length = ks.length := by
    rw [StrsAre.len_eq isT]
    exact pT.length_eq
  have line : vs.length ≤ sizeLine := by
    rw [len, sizeLine_eq]
    omega
  have hL : (s1.heap.push (seqObj "list" vs.toArray 0)).get? s1.heap.objs.size = some (seqObj "list" vs.toArray 0) := Heap.get?_push_size _ rfl
  refine wpAny_bind (wpAny_newList ?_ line)
  refine wpAny_bind (wpAny_holding (wpAny_call_entry slot_list_sort ⟨_, hL, rfl⟩ entry_list_sort (list_sort_treeK strKind_oneLt hL isT.keysOf (fun v₁ v₂ rest e => keyKind_strs (by rw [← e]; exact isT)) (by rw [len]; exact few) fun st hp hs => ?_) (args_list_sort _)))
  obtain ⟨ys, y1, y2, y3⟩ := sorted_out_str isT hp hs
  obtain ⟨c, hc⟩ := sortedHeap_at (vs := vs) (out := (arrOf st).map (·.2)) hL
  refine ⟨_, rfl, wpAny_pure ⟨_, rfl, hZ _ s1.heap.objs.size _ c ys (fun b u e => ?_) g1 o1 more hc y1 (y2.trans pT) y3⟩⟩
  have q := keep b u e
  have lt := Heap.lt_size q
  show (sortedHeap (s1.heap.push (seqObj "list" vs.toArray 0)) s1.heap.objs.size vs _).get? b = some u
  rw [sortedHeap_old (Nat.ne_of_lt lt) (by rw [Heap.size_push]; exact Nat.lt_succ_of_lt lt)]
  exact Heap.get?_push_of_some _ q
end
end Sx
set_option Elab.async false
set_option linter.all false
set_option maxRecDepth 100000
set_option maxHeartbeats 4000000
/-! The rules over sets of texts. -/
namespace Sx
open PySem PySem.Spec PyProof.Rows L2
/-- a set of the texts ks stands at a -/
def SetX (w : World) (a : Addr) (ks : List Str) : HO := .ext fun h => SetS w h a ks
section
variable {X : Cx}
theorem setX_new {w : World} {P : Program} {H : Hp} {h : Heap} {a : Addr} {ks : List Str} (R : SetS w h a ks) : ObjOk P w H h a (SetX w a ks) := by
  have ⟨o, _, _, _, ho, _⟩ := R
  exact ⟨R, ⟨o, ho⟩, fun _ _ r k => SetS.stay r k⟩
theorem setX_get {pins : List (Addr × Obj)} {σ : L2.St} {H : Hp} {s : Shared} {a : Addr} {ks : List Str} (I : Inv X pins σ H s) (e : H a = some (SetX X.w a ks)) : SetS X.w s.heap a ks := (I.hok a _ e).1
/-- set() -/
def rNewX (w : World) : List V → Hp → VK → Prop := fun xs H Q => xs = [] ∧ ∀ p, H p = none → Q (.ref p) (upd H p (SetX w p []))
theorem cr_newX : CallR X (.type "set") (rNewX X.w) := by
  intro pins s σ H xs us Q I r ⟨e, q⟩
  subst e
  cases r
  refine setR_new fun _ => ⟨.ref _, upd H s.heap.objs.size (SetX X.w s.heap.objs.size []), ?_, rfl, q _ (I.hok.fresh (Nat.le_refl _))⟩
  exact I.laid (t' := s.toks) (fun b u e => Heap.get?_push_of_some _ e) (Nat.le_refl _) (setX_new (bare_holds (Heap.get?_push_size _ rfl)))
/-- set(a list of texts) -/
def rOfX (K : PySem.W.Frag) (w : World) : List V → Hp → VK → Prop := fun xs H Q => ∃ (l : Addr) (texts : List Str), xs = [.ref l] ∧ SqL K H l (texts.map V.str) ∧ texts.length + 1 < scanBound ∧
  ∀ p, H p = none → Q (.ref p) (upd H p (SetX w p (insAll [] texts)))
theorem cr_ofX (hc : X.calm = true) : CallR X (.type "set") (rOfX X.K X.w) := by
  intro pins s σ H xs us Q I r ⟨l, texts, e, hq, few, q⟩
  subst e
  rw [Vals.ref1 r]
  obtain ⟨its, rv, pl, _⟩ := I.list hq
  refine set_of_list texts (I.ok.hd hc) pl.isList (by simpa using strsAre_of rv) few fun h' tk hS keep => ?_
  exact ⟨.ref _, upd H s.heap.objs.size (SetX X.w s.heap.objs.size (insAll [] texts)), I.laid (t' := tk) keep (Nat.le_refl _) (setX_new hS), rfl, q _ (I.hok.fresh (Nat.le_refl _))⟩
/-- found.add(text) -/
def rAddX (w : World) : V → List V → Hp → VK → Prop := fun x xs H Q => ∃ (a : Addr) (k : Str) (ks : List Str), x = V.ref a ∧ xs = [V.str k] ∧ H a = some (SetX w a ks) ∧ ks.length + 1 < scanBound ∧ Q .non (upd H a (SetX w a (ins k ks)))
theorem mt_addX : MtR X "set.add" (rAddX X.w) := by
  intro pins s σ H x xs v us Q I rx rxs ⟨a, k, ks, e1, e2, ha, room, q⟩
  subst e1 e2
  cases rx
  obtain ⟨u, rfl, tk, rfl⟩ := vals1 rxs
  have R := setX_get I ha
  refine wpAny_call_entry F.slot_set_add (R.of (P := X.prog)).typeIs F.entry_set_add ?_ (F.args_set_add_2 _ _)
  unfold Builtin.«set.add» Builtin.Frozenset.oneOther
  simp only [List.isEmpty_nil, bind_assoc]
  unfold Builtin.Frozenset.addrOf setAdd
  refine wpAny_bind (wpAny_pure ?_)
  try dsimp only
  refine wpAny_bind (wpAny_pure ?_)
  try dsimp only
  refine wpAny_bind (wpAny_holding (wpAny_bind ((PySem.strKind X.prog X.w).pyHash (strKind_is X.prog X.w k tk) ?_)))
  refine add_at (s := { s with toks := s.toks + 1 }) R room fun b h' sb new => ?_
  show wpAny _ _ (ret Value.none) _ _ _
  have there : ∃ u, h'.get? a = some u := by
    obtain ⟨o, _, _, _, ho, _⟩ := new
    exact ⟨o, ho⟩
  exact wpAny_pure ⟨_, rfl, .non, upd H a (SetX X.w a (ins k ks)), I.write (e := a) (t' := s.toks + 1) (by rw [ha]; trivial) (.inl rfl) (fun c u hc hu => (sb.2 c hc).trans hu) there (setX_new new), rfl, q⟩
def tAddX (w : World) (to : TE) (t : TA) : TE := fun σ H Q => to σ H fun x H1 => (∃ a ks, x = V.ref a ∧ H1 a = some (SetX w a ks)) ∧ t σ H1 fun xs H2 => rAddX w x xs H2 Q
theorem pe_addX {o e : Expr} {to : TE} {t : TA} {apos cpos : Pos} (ho : PE X o to) (ha : PA X [e] t)
    (h1 : attributeBase o "add" X.env (eval o X.env) = eval o X.env := by rfl)
    (h2 : ((backTo cpos (starEach [e] X.env)).all (fun x => !x.1) && (backToKw cpos (keywordEach [] X.env)).all (fun x => x.1.isSome) && decide ([e].length + ([] : List Keyword).length + (if ([] : List Keyword).isEmpty then 0 else 1) < 30)) = true := by rfl)
    (h3 : (apos.endLine == cpos.line) = true := by rfl) (h4 : starEach [e] X.env = (false, eval e X.env) :: starEach [] X.env := by rfl) (h5 : (backTo cpos (starEach [] X.env)).any (·.1) = false := by rfl) :
    PE X (.Call (.Attribute o "add" apos) [e] [] cpos) (tAddX X.w to t) := by
  refine ⟨fun pins s σ H Q I h => wpAny_Call_method_late h1 h2 h3 rfl (thn (ho.run pins s σ H _ I h) fun v s1 ⟨x, H1, I1, r1, ⟨a, ks, ex, hka⟩, q1⟩ => ?_)⟩
  subst ex
  cases r1
  have R := (setX_get I1 hka).of (P := X.prog)
  have run := ha.run cpos pins s1 σ H1 _ I1 q1
  refine ⟨"set", "set.add", F.plainAttrs_set, F.slot_set_add, F.type_set_add, R.typeIs, R.noDict, ?_⟩
  rw [h4] at run ⊢
  refine Calls.callWith_builtin (by show (false || (backTo cpos (starEach [] X.env)).any (·.1)) = false; rw [h5]; rfl) (Calls.evalArgs_plain (thn run fun us s2 ⟨vs, H2, I2, r2, q2⟩ => ?_))
  exact mt_addX pins s2 σ H2 (.ref a) vs (.ref a) us Q I2 rfl r2 q2
/-- sorted(a set of texts) -/
def rSortX (w : World) : List V → Hp → VK → Prop := fun vs H Q => ∃ (a : Addr) (ks : List Str), vs = [V.ref a] ∧ H a = some (SetX w a ks) ∧ ks.length < 64 ∧
  ∀ (ys : List Str) (p : Addr), ys.Perm ks → ys.Nodup → sortedS ys = true → H p = none → Q (.ref p) (upd H p (.lst (ys.map V.str)))
theorem cr_sortX (hc : X.calm = true) : CallR X (.builtin "sorted") (rSortX X.w) := by
  intro pins s σ H vs us Q I r ⟨a, ks, e, ha, few, q⟩
  subst e
  rw [Vals.ref1 r]
  have R := setX_get I ha
  have nd : ks.Nodup := by
    obtain ⟨_, _, _, _, _, _, _, rows⟩ := R
    exact rows.nd
  refine sorted_of_set R (I.ok.hd hc) few fun s' p out c ys keep g1 o1 old hp y1 y2 y3 => ?_
  have line : (ys.map V.str).length ≤ sizeLine := by
    rw [List.length_map, y2.length_eq]
    exact small64 few
  have free : H p = none := I.hok.fresh old
  have J : Inv X pins σ (upd H p (.lst (ys.map V.str))) { s with heap := s'.heap, gens := s'.gens, drawn := s'.drawn, toks := s'.toks } :=
    I.call (ch := []) (Un.laid keep old free) (I.hok.laid keep old ⟨line, out.toList, c, vals_of_strs y1, hp⟩) (by rw [g1]; exact I.bare) (fun _ z => nomatch z)
  have back : s' = { s with heap := s'.heap, gens := s'.gens, drawn := s'.drawn, toks := s'.toks } := by
    cases s'
    cases s
    cases o1
    rfl
  rw [back]
  exact ⟨.ref p, _, J, rfl, q ys p y2 (y2.nodup_iff.mpr nd) y3 free⟩
end
end Sx
set_option Elab.async false
set_option linter.all false
set_option maxRecDepth 100000
set_option maxHeartbeats 4000000
/-! Trees, heaps: what the defs of these laws share. -/
namespace Kf
open PySem PySem.Spec PyProof.Rows L2 Sx
/-! ### lists, pair by pair -/
inductive All2 {α β : Type} (F : α → β → Prop) : List α → List β → Prop
  | nil : All2 F [] []
  | cons {a : α} {b : β} {l : List α} {m : List β} : F a b → All2 F l m → All2 F (a :: l) (b :: m)
section
variable {α β : Type} {F G : α → β → Prop}
theorem All2.len : ∀ {l : List α} {m : List β}, All2 F l m → l.length = m.length
  | _, _, .nil => rfl
  | _, _, .cons _ t => congrArg Nat.succ t.len
theorem All2.app : ∀ {l l2 : List α} {m m2 : List β}, All2 F l m → All2 F l2 m2 → All2 F (l ++ l2) (m ++ m2)
  | _, _, _, _, .nil, h => h
  | _, _, _, _, .cons r t, h => .cons r (t.app h)
theorem All2.mono (f : ∀ a b, F a b → G a b) : ∀ {l : List α} {m : List β}, All2 F l m → All2 G l m
  | _, _, .nil => .nil
  | _, _, .cons r t => .cons (f _ _ r) (t.mono f)
theorem All2.one {a : α} {b : β} (h : F a b) : All2 F [a] [b] := .cons h .nil
theorem All2.rev : ∀ {l : List α} {m : List β}, All2 F l m → All2 F l.reverse m.reverse
  | _, _, .nil => .nil
  | _, _, .cons r t => by
    rw [List.reverse_cons, List.reverse_cons]
    exact t.rev.app (.one r)
theorem All2.last {l : List α} {m : List β} {y : β} (h : All2 F l (m ++ [y])) : ∃ k x, l = k ++ [x] ∧ All2 F k m ∧ F x y := by
  have q := h.rev
  rw [List.reverse_append, List.reverse_singleton, List.singleton_append] at q
  generalize hr : l.reverse = r at q
  cases q with
  | @cons x _ k _ r t =>
    have t2 := t.rev
    rw [List.reverse_reverse] at t2
    refine ⟨k.reverse, x, ?_, t2, r⟩
    have e := congrArg List.reverse hr
    rw [List.reverse_reverse, List.reverse_cons] at e
    exact e
theorem All2.get : ∀ {l : List α} {m : List β} {i : Nat} {y : β}, All2 F l m → m[i]? = some y → ∃ x, l[i]? = some x ∧ F x y
  | _, _, _, _, .nil, h => by simp at h
  | _, _, 0, _, .cons r _, h => ⟨_, rfl, (Option.some.inj h) ▸ r⟩
  | _, _, i + 1, _, .cons _ t, h => t.get (i := i) (by simpa using h)
end
/-! ### heaps -/
/-- all but what stands at f is as it was -/
def But (f : Addr) (H H' : Hp) : Prop := ∀ b o, b ≠ f → H b = some o → H' b = some o
/-- all tuples stand -/
def Tups (H H' : Hp) : Prop := ∀ b xs, H b = some (.tup xs) → H' b = some (.tup xs)
section
variable {f : Addr} {H H1 H2 : Hp} {p : Addr} {o : HO}
theorem But.refl (f : Addr) (H : Hp) : But f H H := fun _ _ _ e => e
theorem But.trans (a : But f H H1) (b : But f H1 H2) : But f H H2 := fun c u n e => b c u n (a c u n e)
theorem but_same (a : Same H H1) : But f H H1 := fun c u _ e => a c u e
theorem But.new (a : But f H H1) (h : H1 p = none) : But f H (upd H1 p o) := fun c u n e => by
  have q := a c u n e
  rw [upd_ne (ne_of_none q h)]
  exact q
theorem But.own (a : But f H H1) : But f H (upd H1 f o) := fun c u n e => by
  rw [upd_ne n]
  exact a c u n e
theorem same_new (h : H p = none) : Same H (upd H p o) := fun b u q => by
  rw [upd_ne (ne_of_none q h)]
  exact q
theorem same_put (s : Same H H1) (h : H1 p = none) : Same H (upd H1 p o) := fun b u q => by
  rw [upd_ne (ne_of_none (s b u q) h)]
  exact s b u q
theorem Tups.refl (H : Hp) : Tups H H := fun _ _ e => e
theorem Tups.trans (a : Tups H H1) (b : Tups H1 H2) : Tups H H2 := fun c u e => b c u (a c u e)
theorem tups_same (a : Same H H1) : Tups H H1 := fun c u e => a c _ e
theorem But.tups {xs : List V} (a : But f H H1) (h : H f = some (.lst xs)) : Tups H H1 := fun c u e => a c _ (fun z => by
  rw [z, h] at e
  cases e) e
theorem tups_put (h : ∀ xs, H p ≠ some (.tup xs)) : Tups H (upd H p o) := fun c u e => by
  rw [upd_ne (fun z => h u (by rw [← z]; exact e))]
  exact e
end
/-! ### trees -/
inductive Tr where
  | leaf (w : Str) (x : V)
  | n0 (w : Str)
  | n1 (w : Str) (a : Tr)
  | n2 (w : Str) (a b : Tr)
abbrev leafVs : List V := [.str "num", .str "name", .str "bound"]
abbrev bindVs : List V := [.str "all", .str "some"]
def leafy (w : Str) : Bool := inV (.str w) leafVs
def binds (w : Str) : Bool := inV (.str w) bindVs
/-- how many stand around the parts -/
def inner (w : Str) (r : Nat) : Nat := if binds w = true then r + 1 else r
def Tr.word : Tr → Str
  | .leaf w _ => w
  | .n0 w => w
  | .n1 w _ => w
  | .n2 w _ _ => w
def Tr.kids : Tr → List Tr
  | .leaf _ _ => []
  | .n0 _ => []
  | .n1 _ a => [a]
  | .n2 _ a b => [a, b]
/-- the tree t is the value v -/
def At (H : Hp) : Tr → V → Prop
  | .leaf w x, v => ∃ p, v = .ref p ∧ H p = some (.tup [.str w, x])
  | .n0 w, v => ∃ p, v = .ref p ∧ H p = some (.tup [.str w])
  | .n1 w a, v => ∃ p y, v = .ref p ∧ H p = some (.tup [.str w, y]) ∧ At H a y
  | .n2 w a b, v => ∃ p y z, v = .ref p ∧ H p = some (.tup [.str w, y, z]) ∧ At H a y ∧ At H b z
theorem At.keep {H H' : Hp} (k : Tups H H') : ∀ {t : Tr} {v : V}, At H t v → At H' t v
  | .leaf _ _, _, ⟨p, e, h⟩ => ⟨p, e, k _ _ h⟩
  | .n0 _, _, ⟨p, e, h⟩ => ⟨p, e, k _ _ h⟩
  | .n1 _ _, _, ⟨p, y, e, h, a⟩ => ⟨p, y, e, k _ _ h, a.keep k⟩
  | .n2 _ _ _, _, ⟨p, y, z, e, h, a, b⟩ => ⟨p, y, z, e, k _ _ h, a.keep k, b.keep k⟩
/-- leaves by their words -/
def Tr.Ok : Tr → Prop
  | .leaf w x => leafy w = true ∧ ((∃ i, x = .int i) ∧ w ≠ "name" ∨ (∃ z, x = .str z) ∧ w = "name")
  | .n0 w => leafy w = false
  | .n1 w a => leafy w = false ∧ a.Ok
  | .n2 w a b => leafy w = false ∧ a.Ok ∧ b.Ok
/-- how far within one another -/
def Tr.deep : Tr → Nat
  | .leaf _ _ => 1
  | .n0 _ => 1
  | .n1 _ a => a.deep + 1
  | .n2 _ a b => max a.deep b.deep + 1
def Tr.size : Tr → Nat
  | .leaf _ _ => 1
  | .n0 _ => 1
  | .n1 _ a => a.size + 1
  | .n2 _ a b => a.size + b.size + 1
theorem size_deep : ∀ t : Tr, t.size + 1 ≤ 2 ^ t.deep
  | .leaf _ _ => Nat.le_refl _
  | .n0 _ => Nat.le_refl _
  | .n1 _ a => by
    have h := size_deep a
    have p : 2 ^ (a.deep + 1) = 2 ^ a.deep * 2 := Nat.pow_succ _ _
    show a.size + 1 + 1 ≤ 2 ^ (a.deep + 1)
    omega
  | .n2 _ a b => by
    have h := size_deep a
    have h2 := size_deep b
    have p : 2 ^ (max a.deep b.deep + 1) = 2 ^ (max a.deep b.deep) * 2 := Nat.pow_succ _ _
    have q1 : 2 ^ a.deep ≤ 2 ^ (max a.deep b.deep) := Nat.pow_le_pow_right (by decide) (Nat.le_max_left _ _)
    have q2 : 2 ^ b.deep ≤ 2 ^ (max a.deep b.deep) := Nat.pow_le_pow_right (by decide) (Nat.le_max_right _ _)
    show a.size + b.size + 1 + 1 ≤ 2 ^ (max a.deep b.deep + 1)
    omega
def Tr.names : Tr → List Str
  | .leaf w x => if w = "name" then (match x with | .str z => [z] | _ => []) else []
  | .n0 _ => []
  | .n1 _ a => a.names
  | .n2 _ a b => a.names ++ b.names
theorem names_size : ∀ t : Tr, t.names.length ≤ t.size
  | .leaf w x => by
    show (if w = "name" then (match x with | .str z => [z] | _ => []) else ([] : List Str)).length ≤ 1
    split
    · cases x <;> simp
    · simp
  | .n0 _ => Nat.zero_le _
  | .n1 _ a => Nat.le_succ_of_le (names_size a)
  | .n2 _ a b => by
    have h1 := names_size a
    have h2 := names_size b
    show (a.names ++ b.names).length ≤ a.size + b.size + 1
    rw [List.length_append]
    omega
/-! ### the pieces, parts ahead of the whole, from the left; each with how many all and some stand around it -/
def Tr.post : Tr → Nat → List (Tr × Nat)
  | .leaf w x, r => [(.leaf w x, r)]
  | .n0 w, r => [(.n0 w, r)]
  | .n1 w a, r => a.post (inner w r) ++ [(.n1 w a, r)]
  | .n2 w a b, r => a.post (inner w r) ++ b.post (inner w r) ++ [(.n2 w a b, r)]
theorem post_len : ∀ (t : Tr) (r : Nat), (t.post r).length = t.size
  | .leaf _ _, _ => rfl
  | .n0 _, _ => rfl
  | .n1 w a, r => by
    show (a.post _ ++ [_]).length = a.size + 1
    rw [List.length_append, post_len a]
    rfl
  | .n2 w a b, r => by
    show (a.post _ ++ b.post _ ++ [_]).length = a.size + b.size + 1
    rw [List.length_append, List.length_append, post_len a, post_len b]
    rfl
theorem post_kids (t : Tr) (r : Nat) : t.post r = (t.kids.flatMap fun a => a.post (inner t.word r)) ++ [(t, r)] := by
  cases t with
  | leaf w x => rfl
  | n0 w => rfl
  | n1 w a => simp [Tr.post, Tr.kids, Tr.word]
  | n2 w a b => simp [Tr.post, Tr.kids, Tr.word]
/-- what a whole list of pieces has for names -/
def leafName : Tr → List Str
  | .leaf w x => Tr.names (.leaf w x)
  | _ => []
theorem post_names : ∀ (t : Tr) (r : Nat), ((t.post r).flatMap fun (e : Tr × Nat) => leafName e.1) = t.names
  | .leaf w x, r => by simp [Tr.post, leafName]
  | .n0 w, r => by simp [Tr.post, leafName, Tr.names]
  | .n1 w a, r => by
    show ((a.post _ ++ [_]).flatMap fun (e : Tr × Nat) => leafName e.1) = a.names
    rw [List.flatMap_append, post_names a]
    simp [leafName]
  | .n2 w a b, r => by
    show ((a.post _ ++ b.post _ ++ [_]).flatMap fun (e : Tr × Nat) => leafName e.1) = a.names ++ b.names
    rw [List.flatMap_append, List.flatMap_append, post_names a, post_names b]
    simp [leafName]
theorem post_ok : ∀ (t : Tr) (r : Nat), t.Ok → ∀ e ∈ t.post r, e.1.Ok
  | .leaf w x, r, h, e, he => by
    rw [List.mem_singleton.mp he]
    exact h
  | .n0 w, r, h, e, he => by
    rw [List.mem_singleton.mp he]
    exact h
  | .n1 w a, r, h, e, he => by
    rcases List.mem_append.mp he with z | z
    · exact post_ok a _ h.2 e z
    · rw [List.mem_singleton.mp z]
      exact h
  | .n2 w a b, r, h, e, he => by
    rcases List.mem_append.mp he with z | z
    · rcases List.mem_append.mp z with z | z
      · exact post_ok a _ h.2.1 e z
      · exact post_ok b _ h.2.2 e z
    · rw [List.mem_singleton.mp z]
      exact h
theorem no_leaf {w : Str} (h : leafy w = false) (z : leafy w = true) : False := by
  rw [h] at z
  cases z
/-- a tree's own tuple -/
theorem At.view {H : Hp} {t : Tr} {v : V} (h : At H t v) (ok : t.Ok) : ∃ p vs, v = .ref p ∧ H p = some (.tup (.str t.word :: vs)) ∧ vs.length ≤ 2 ∧ (leafy t.word = false → All2 (At H) t.kids vs) ∧ (leafy t.word = true → ∃ x, t = .leaf t.word x ∧ vs = [x]) := by
  cases t with
  | leaf w x =>
    obtain ⟨p, e, h⟩ := h
    exact ⟨p, [x], e, h, Nat.le_succ 1, fun z => (no_leaf z ok.1).elim, fun _ => ⟨x, rfl, rfl⟩⟩
  | n0 w =>
    obtain ⟨p, e, h⟩ := h
    exact ⟨p, [], e, h, Nat.zero_le 2, fun _ => .nil, fun z => (no_leaf ok z).elim⟩
  | n1 w a =>
    obtain ⟨p, y, e, h, ha⟩ := h
    exact ⟨p, [y], e, h, Nat.le_succ 1, fun _ => .one ha, fun z => (no_leaf ok.1 z).elim⟩
  | n2 w a b =>
    obtain ⟨p, y, z, e, h, ha, hb⟩ := h
    exact ⟨p, [y, z], e, h, Nat.le_refl 2, fun _ => .cons ha (.one hb), fun q => (no_leaf ok.1 q).elim⟩
theorem kids_ok {t : Tr} (ok : t.Ok) : ∀ a ∈ t.kids, a.Ok := by
  cases t with
  | leaf w x => intro a h; cases h
  | n0 w => intro a h; cases h
  | n1 w a =>
    intro c h
    rw [List.mem_singleton.mp h]
    exact ok.2
  | n2 w a b =>
    intro c h
    rcases List.mem_cons.mp h with z | z
    · rw [z]
      exact ok.2.1
    · rw [List.mem_singleton.mp z]
      exact ok.2.2
/-! ### sorted lists of texts -/
theorem nodup_le : ∀ (ks ms : List Str), ks.Nodup → (∀ k ∈ ks, k ∈ ms) → ks.length ≤ ms.length
  | [], _, _, _ => Nat.zero_le _
  | k :: r, ms, nd, h => by
    obtain ⟨n1, n2⟩ := List.nodup_cons.mp nd
    have hk : k ∈ ms := h k List.mem_cons_self
    have q := nodup_le r (ms.erase k) n2 fun j hj => (List.mem_erase_of_ne (fun z : j = k => n1 (z ▸ hj))).mpr (h j (List.mem_cons_of_mem _ hj))
    rw [List.length_erase_of_mem hk] at q
    have pos : 0 < ms.length := List.length_pos_of_mem hk
    rw [List.length_cons]
    omega
def Le (a b : Str) : Prop := ltCps b.cps.toList a.cps.toList = false
theorem rising_pairs : ∀ (p : Str) (l : List Str), risingS p l = true → (∀ (a b c : Str), Le a b → Le b c → Le a c) → (p :: l).Pairwise Le
  | p, [], _, _ => List.pairwise_singleton _ _
  | p, x :: r, h, tr => by
    have h' : (!ltCps x.cps.toList p.cps.toList && risingS x r) = true := h
    rw [Bool.and_eq_true] at h'
    have q := rising_pairs x r h'.2 tr
    have px : Le p x := by
      unfold Le
      simpa using h'.1
    refine List.pairwise_cons.mpr ⟨fun y hy => ?_, q⟩
    rcases List.mem_cons.mp hy with z | z
    · rw [z]
      exact px
    · exact tr _ _ _ px (List.rel_of_pairwise_cons q z)
theorem le_iff (a b : Str) : Le a b ↔ a.cps.toList ≤ b.cps.toList := by
  unfold Le
  rw [ltCps_eq]
  simp
theorem le_trans3 (a b c : Str) (h1 : Le a b) (h2 : Le b c) : Le a c := by
  rw [le_iff] at *
  exact List.le_trans h1 h2
theorem le_anti (a b : Str) (h1 : Le a b) (h2 : Le b a) : a = b := by
  rw [le_iff] at *
  have q := List.le_antisymm h1 h2
  cases a with
  | mk x =>
    cases b with
    | mk y =>
      have q' : x.toList = y.toList := q
      rw [Array.toList_inj.mp q']
theorem one_order : ∀ (l m : List Str), l.Pairwise Le → m.Pairwise Le → l.Nodup → m.Nodup → (∀ x, x ∈ l ↔ x ∈ m) → l = m
  | [], [], _, _, _, _, _ => rfl
  | [], y :: m, _, _, _, _, h => by
    have := (h y).2 List.mem_cons_self
    cases this
  | x :: l, [], _, _, _, _, h => by
    have := (h x).1 List.mem_cons_self
    cases this
  | x :: l, y :: m, pl, pm, nl, nm, h => by
    obtain ⟨l1, l2⟩ := List.pairwise_cons.mp pl
    obtain ⟨m1, m2⟩ := List.pairwise_cons.mp pm
    obtain ⟨k1, k2⟩ := List.nodup_cons.mp nl
    obtain ⟨j1, j2⟩ := List.nodup_cons.mp nm
    have exy : x = y := by
      rcases List.mem_cons.mp ((h x).1 List.mem_cons_self) with z | z
      · exact z
      · rcases List.mem_cons.mp ((h y).2 List.mem_cons_self) with q | q
        · exact q.symm
        · exact le_anti _ _ (l1 y q) (m1 x z)
    subst exy
    rw [one_order l m l2 m2 k2 j2 fun z => ?_]
    constructor
    · intro hz
      rcases List.mem_cons.mp ((h z).1 (List.mem_cons_of_mem _ hz)) with e | e
      · exact absurd (e ▸ hz) k1
      · exact e
    · intro hz
      rcases List.mem_cons.mp ((h z).2 (List.mem_cons_of_mem _ hz)) with e | e
      · exact absurd (e ▸ hz) j1
      · exact e
theorem sorted_pairs : ∀ l : List Str, sortedS l = true → l.Pairwise Le
  | [], _ => List.Pairwise.nil
  | x :: r, h => rising_pairs x r h le_trans3
end Kf
set_option Elab.async false
set_option linter.all false
set_option maxRecDepth 100000
set_option maxHeartbeats 4000000
/-! all(a test that reads a name of the module, for each sign of a text). -/
namespace Gx
open PySem PySem.Spec PyProof.Rows L2 GxR
/-- the test of a sign, where the module's names stand as mg says -/
def Test (prog : Program) (w : World) (mg : Str → Option Value) (scope : Scope) (x : Str) (elt : Expr) (pb : Nat → Bool) : Prop :=
  ∀ (ce : Env) (B : Around) (EE : Value → Shared → Prop) (n : Nat) (tk : Tok) (z : Shared) (m : Str → Option Value), ce.scope = scope → ce.globals = mainGlobals → z.heap.Ns mainGlobals mg → z.heap.Ns ce.locals m → m x = some (.str ⟨#[n]⟩ tk) →
    wpAny (model prog w) B (eval elt ce) (fun y z2 => y = .bool (pb n) ∧ Keeps z z2) EE z
/-- sign in LETTERS -/
def among (letters : Str) (n : Nat) : Bool := !(Builtin.Str.occurrences letters ⟨#[n]⟩ 0 letters.length 1).isEmpty
theorem test_in {prog : Program} {w : World} {mg : Str → Option Value} {scope : Scope} {x g letters : Str} {tl : Tok} {p1 p2 p3 : Pos} (hk : scope.kind = .function) (hx : scope.names.lookup x = some .local) (hg : scope.names.lookup g = some .globalImplicit)
    (hv : mg g = some (.str letters tl)) (d1 : (x == ("__debug__" : Str)) = false := by decide) (d2 : (g == ("__debug__" : Str)) = false := by decide) : Test prog w mg scope x (.Compare (.Name x p1) [.In] [.Name g p2] p3) (among letters) := by
  intro ce B EE n tk z m es eg ng nl hm
  have kf : ce.scope.kind = .function := by
    rw [es]
    exact hk
  refine wpAny_Compare1 (wpAny_Name (wpAny_loadName_local kf (show ce.scope.names.lookup x = some .local by rw [es]; exact hx) nl hm ?_) d1)
  refine Calls.Name_function_global kf (show ce.scope.names.lookup g = some .globalImplicit by rw [es]; exact hg) (Calls.loadGlobal_global (by rw [eg]; exact ng) hv ?_) d2
  exact PyProof.Rows.in_str ⟨rfl, keeps_refl z⟩
theorem join3 {C G : Value → Heap → Nat → Prop} {M : Prop} (main : (∀ v h t, C v h t → G v h t) → M) (rest : ∀ v h t, C v h t → G v h t) : M := main rest
section
variable {X : Cx} {pins : List (Addr × Obj)} {σ : L2.St} {H : Hp} {s : Shared}
/-- the module's names stand in every heap that keeps what the base had -/
theorem mod_ns {P : Addr} {h : Heap} (I : Inv X pins σ H s) (far : mainGlobals ≠ P) (k : ∀ b u, b ≠ P → s.heap.get? b = some u → h.get? b = some u) : h.Ns mainGlobals X.mg := by
  obtain ⟨o, es, ep, ho, rest⟩ := I.mod.glob.keeps I.bk
  exact ⟨o, es, ep, k _ _ far ho, rest⟩
theorem gen_ready {c P : Addr} {elt iter : Expr} {x : Str} {px gp : Pos} {scope : Scope} {pb : Nat → Bool} {te : TE} {k : Nat} {Z : Value → Shared → Prop} {R : Str → Hp → Prop} (room : Room k X.A) (tab : TabB X.base X.mg c P) (code : X.env.code = .ref c)
    (own : GenS X.env scope x) (src : PE X iter te) (test : Test X.prog X.w X.mg scope x elt pb) (plain : ∀ v, genFold iter X.env v = pure v) (I : Inv X pins σ H s)
    (h : te σ H fun v H1 => ∃ a : Str, v = .str a ∧ TabG H1 P ∧ R a H1) (done : ∀ a H1 g z, R a H1 → Ready X pins σ H1 P a pb g z → Z (.ref g) z) :
    wpAny (model X.prog X.w) X.A (eval (.GeneratorExp elt [⟨.Name x px, iter, [], 0⟩] scope gp) X.env) Z X.xe s := by
  have deep : X.A.depth < recursionLimit := by
    have := room.dp
    omega
  refine wpAny_GeneratorExp_walksQ room.hd own.co (closure_ok own.free) own.cell own.dot own.loc own.kind deep (thn (src.run pins s σ H _ I h) fun xv s1 ⟨v, H1, I1, r1, a, ev, ⟨ps, hP, trip⟩, r⟩ => ?_) plain
  subst ev
  obtain ⟨ta, rfl⟩ := _root_.id r1
  refine wpAny_pyIter_str fun it St W start => ?_
  have tabAt : s1.heap.get? P = some { cls := .none, data := .fields ps } := I1.hok P _ hP
  have ltP := Heap.lt_size tabAt
  have up : ∀ b u, s1.heap.get? b = some u → (s1.heap.push it).get? b = some u := fun b u e => Heap.get?_push_of_some _ e
  have sz : (s1.heap.push it).objs.size = s1.heap.objs.size + 1 := Heap.size_push ..
  have cod : PySem.W.CodeHd (s1.heap.push it) c P := tab.code.keeps fun b u e => up b u (I1.bk b u e)
  have free := I1.nolimit.push it
  obtain ⟨mcs, nsCs, _⟩ := _root_.id I1.nolimit
  have ltCs : cStatics < s1.heap.objs.size := nsCs.lt
  have farCs : cStatics ≠ P := fun e => by
    obtain ⟨o1, es, ep, ho, hd, _⟩ := nsCs
    rw [e, tabAt] at ho
    cases ho
    cases hd
  refine ⟨free, ?_⟩
  -- whatever code object is taken: the table has grown by some, or not
  apply join3 (C := fun _ h3 _ => ∃ qs : Array Value, Heap.ExtBut P (s1.heap.push it) h3 ∧ (s1.heap.push it).objs.size ≤ h3.objs.size ∧ h3.get? P = some { cls := .none, data := .fields (ps ++ qs) } ∧ TriplesOk (ps ++ qs).toList)
  · intro rest
    have at2 := up P _ tabAt
    cases among : codeAmong gp ps.toList with
    | none =>
      refine wpAny_genexprCodeX code (cod.code at2 trip) (cod.tab at2) among fun c2 h3 t3 ext ge lt isc _ tabs _ => ?_
      have trip3 : TriplesOk (ps ++ #[rawInt gp.line, rawInt gp.col, .ref c2]).toList := by
        obtain ⟨_, _, _, _, _, _, _, _, _, _, _, _, _, _, _, _, _, _, _, tr, _⟩ := isc
        exact tr
      generalize Value.ref c2 = cv at *
      exact rest cv h3 t3 ⟨_, ext, Nat.le_trans ge (Nat.le_of_lt lt), tabs.2, trip3⟩
    | some cv =>
      exact wpAny_genexprCode_hit code (cod.code at2 trip) among (rest cv (s1.heap.push it) s1.toks ⟨#[], Heap.ExtBut.refl _ _, Nat.le_refl _, by rw [Array.append_empty]; exact at2, by rw [Array.append_empty]; exact trip⟩)
  · intro cv h3 t3 ⟨qs, ext, big, at3, trip3⟩
    have keep : ∀ b u, b ≠ P → s1.heap.get? b = some u → h3.get? b = some u := fun b u n e => ext b u n (up b u e)
    obtain ⟨bm, ob, b1, b2, b3, b4, b5, b6, b7, b8⟩ := tab.bm
    refine wpAny_builtinsFor (m := X.mg) (by rw [I1.ok.glob]; exact mod_ns I1 tab.gP keep) b1 b2 (keep _ _ b4 (I1.bk _ _ b5)) b6 b7 b8 ?_
    rw [sz] at big
    refine ⟨s1.heap.objs.size, [s1.heap.objs.size], [s1.heap.objs.size], a.cps.size, SignAt a, St, (fun _ => true), (fun i y => ∃ n, a.cps[i]? = some n ∧ y = .bool (pb n)), rfl, W, ?_, ?_, free.extBut ext farCs, ?_, ?_, ?_⟩
    · refine (W X.A room.hd).frame _ _ _ start fun b hb u e => ext b u ?_ e
      rw [List.mem_singleton.mp hb]
      exact Nat.ne_of_gt ltP
    · intro b hb
      rw [List.mem_singleton.mp hb]
      exact big
    · intro hb
      exact absurd (List.mem_singleton.mp hb) (Nat.ne_of_lt ltCs)
    · intro href old
      refine ⟨fun B EE i v z m _ _ nl hm kz => ?_, fun B EE i v z m _ hv _ nl hm kz => ?_⟩
      · simp only [List.forIn_nil]
        exact wpAny_pure ⟨rfl, keeps_refl z⟩
      · obtain ⟨n, tn, hn, rfl⟩ := hv
        have names : z.heap.Ns mainGlobals X.mg := by
          obtain ⟨o, es, ep, ho, others⟩ := mod_ns I1 tab.gP keep
          have lt := Heap.lt_size ho
          refine ⟨o, es, ep, kz _ (List.mem_range.mpr lt) (fun hb => ?_) o (old _ _ ho), others⟩
          obtain ⟨o1, _, _, ho1, _⟩ := I1.mod.glob.keeps I1.bk
          exact absurd (Heap.lt_size ho1) (by rw [List.mem_singleton.mp hb]; exact Nat.lt_irrefl _)
        exact wpAny_mono (test _ B EE n tn z m rfl I1.ok.glob names nl hm) (fun y z2 q => ⟨⟨n, hn, q.1⟩, q.2⟩) fun _ _ e => e
    · intro g h5 t5 gs bare gt sz5 keep5 walk at5
      simp only [GxR.passing_true, List.length_range] at walk
      refine done a H1 g _ r ⟨_, _, _, _, _, walk.in4_1, at5, fun j y z Y EE hy q => ?_, fun z mv => ?_⟩
      · obtain ⟨i, hij, n, hn, rfl⟩ := hy
        obtain ⟨lt, eij⟩ := List.getElem?_eq_some_iff.mp hij
        rw [List.getElem_range] at eij
        subst eij
        have at1 : a.cps.toList[j]? = some n := by
          rw [Array.getElem?_toList]
          exact hn
        have q2 : Y (trF pb a.cps.toList j) z := q
        rw [trF_some at1] at q2
        exact wpAny_truthy_bool q2
      · have away : ∀ b u, s1.heap.get? b = some u → b ∉ [h3.objs.size, s1.heap.objs.size] := fun b u e hb => by
          have lt := Heap.lt_size e
          rcases List.mem_cons.mp hb with z | z
          · rw [z] at lt
            exact absurd (Nat.lt_of_lt_of_le lt (Nat.le_succ _)) (Nat.not_lt_of_le big)
          · rw [List.mem_singleton.mp z] at lt
            exact Nat.lt_irrefl _ lt
        have J := inv_tab (more := qs) (h' := z.heap) (g' := z.gens) (d' := z.drawn) (t' := z.toks) I1 hP (fun b u n e => mv.heap b u (away b u e) (keep5 b u (keep b u n e)))
          (mv.heap P _ (away P _ tabAt) (keep5 P _ at3)) (AllBare.movedS (I1.bare.push bare) mv)
        rw [sh_eta s1 z mv.os] at J
        exact ⟨upd H1 P (.tbl (ps ++ qs)), ⟨⟨ps ++ qs, upd_same, trip3⟩, fun b hb => upd_ne hb⟩, J⟩
theorem pe_allG {c P : Addr} {elt iter : Expr} {x : Str} {px p pos gp : Pos} {scope : Scope} {pb : Nat → Bool} {te : TE} {k : Nat} (room : Room k X.A) (hg : Gl X "all") (hm : X.mg "all" = none) (hb : bootBuiltins "all" = some (.builtin "all"))
    (tab : TabB X.base X.mg c P) (code : X.env.code = .ref c) (own : GenS X.env scope x) (src : PE X iter te) (test : Test X.prog X.w X.mg scope x elt pb) (plain : ∀ v, genFold iter X.env v = pure v)
    (one : starEach [.GeneratorExp elt [⟨.Name x px, iter, [], 0⟩] scope gp] X.env = (false, eval (.GeneratorExp elt [⟨.Name x px, iter, [], 0⟩] scope gp) X.env) :: starEach [] X.env := by rfl) :
    PE X (.Call (.Name "all" p) [.GeneratorExp elt [⟨.Name x px, iter, [], 0⟩] scope gp] [] pos) (tAllS P pb te) := by
  refine ⟨fun pins s σ H Q I h => wpAny_Call_Name_kw (ld_blt I hg hm hb (PyProof.Rows.callWith_builtin1 ?_ one (by rfl)))⟩
  rw [one]
  show wpAny _ _ (spliced ((false, eval (.GeneratorExp elt [⟨.Name x px, iter, [], 0⟩] scope gp) X.env) :: backTo pos (starEach [] X.env))) _ _ s
  refine Calls.spliced_cons (gen_ready (R := fun a H1 => ∀ H2, Tabbed P H1 H2 → Q (.bl (a.cps.toList.all pb)) H2) room tab code own src test plain I h fun a H1 g z r ⟨fp, wr, G, F, Sg, W, begun, truth, inv⟩ => Calls.spliced_nil ?_)
  refine call_all_walkS (W.self 0 _ _ _ begun ⟨g, fp, wr, G, _, F, Sg, _, rfl, W, begun, truth, fun z2 mv => ?_⟩)
  obtain ⟨H2, tb, J⟩ := inv z2 mv
  exact ⟨.bl _, H2, J, rfl, by rw [all_signs a pb]; exact r H2 tb⟩
end
end Gx
set_option Elab.async false
set_option linter.all false
set_option maxRecDepth 100000
set_option maxHeartbeats 4000000
/-! The defs by which the law makes its inputs. -/
namespace Kf
open PySem PySem.Spec PyProof.Rows L2 Sx
def top (i : Nat) : Stmt := PySem.Challenge.pw_prooffruit_k70_sayings_doubled.main.body.getD i (.Pass ⟨0, 0, 0, 0⟩)
abbrev sFeed : Stmt := top 32
abbrev sTake : Stmt := top 33
abbrev sPick : Stmt := top 34
abbrev feedN : List Str := ["script", "k", "seed", "digits", "state"]
theorem scFeed : FnScope feedN ["script", "k"] (defScope sFeed) := ⟨rfl, rfl, rfl, by decide +kernel, rfl, by decide +kernel, by decide +kernel⟩
theorem scTake : FnScope ["feed", "many", "found"] ["feed", "many"] (defScope sTake) := ⟨rfl, rfl, rfl, by decide +kernel, rfl, by decide +kernel, by decide +kernel⟩
theorem scPick : FnScope ["feed", "some"] ["feed", "some"] (defScope sPick) := ⟨rfl, rfl, rfl, by decide +kernel, rfl, by decide +kernel, by decide +kernel⟩
/-- the feed at f: two numbers, the second below 2 ^ 61 - 1 -/
def FeedAt (H : Hp) (f : Addr) : Prop := ∃ a b : Int, H f = some (.lst [.int a, .int b]) ∧ 0 ≤ b ∧ b < 2305843009213693951
theorem FeedAt.keep {H H' : Hp} {f g : Addr} (h : FeedAt H f) (n : f ≠ g) (b : But g H H') : FeedAt H' f := by
  obtain ⟨x, y, e, q⟩ := h
  exact ⟨x, y, b _ _ n e, q⟩
theorem FeedAt.same {H H' : Hp} {f : Addr} (h : FeedAt H f) (b : Same H H') : FeedAt H' f := by
  obtain ⟨x, y, e, q⟩ := h
  exact ⟨x, y, b _ _ e, q⟩
theorem FeedAt.tups {H H' : Hp} {f : Addr} (h : FeedAt H f) (b : But f H H') : Tups H H' := by
  obtain ⟨x, y, e, q⟩ := h
  exact b.tups e
/-- a list of the call's own -/
theorem FeedAt.ne {H : Hp} {f p : Addr} (h : FeedAt H f) (e : H p = none) : p ≠ f := fun z => by
  obtain ⟨x, y, e2, q⟩ := h
  rw [z, e2] at e
  cases e
section
variable {P : Program} {w : World} {K : PySem.W.Frag} {mg : Str → Option Value} {base : Heap}
/-! ### _law_feed -/
def spFeed (K : PySem.W.Frag) : Sp := fun vs H Q _ => ∃ (a : Addr) (ns : List Int) (k : Nat), vs = [.ref a, .int (k : Int)] ∧ SqL K H a (ns.map V.int) ∧ (∀ z ∈ ns, Builtin.Int.intBits z ≤ 1048576) ∧ k ≤ 100 ∧
  ∀ p H', Same H H' → H p = none → FeedAt H' p → Q (.ref p) H'
theorem notM : (2305843009213693951 : Int) ≠ 0 := by decide
theorem modM (i : Int) : 0 ≤ i.fmod 2305843009213693951 ∧ i.fmod 2305843009213693951 < 2305843009213693951 := by
  rw [Int.fmod_eq_emod_of_nonneg _ (by decide)]
  exact ⟨Int.emod_nonneg _ (by decide), Int.emod_lt_of_pos _ (by decide)⟩
theorem seed_ok {z : Int} (h : Builtin.Int.intBits z ≤ 1048576) : CMulX z 6364136223846793005 := by
  unfold CMulX
  have e : Builtin.Int.intBits 6364136223846793005 = 63 := by decide +kernel
  rw [e]
  omega
theorem ok_feed {f : Addr} {fd : FuncData} {j : Nat} (F : Fun K "_law_feed" "_law_feed" sFeed f fd) (zList : mg "list" = none) (ma : mg "abs" = none) (zMax : mg "max" = none) : FnOk P w K mg base CX0 (j + 1) f fd ["script", "k"] (spFeed K) := by
  refine F.ok scFeed (fun vs H Q E h => ?_) (fun cdv A outer s H vs Q E hr h => ?_)
  · obtain ⟨a, ns, k, rfl, _⟩ := h
    rfl
  obtain ⟨a, ns, k, rfl, hS, hb, hk, q⟩ := h
  refine ⟨_, (pss_cons (ps_set (i := 2) scFeed.nd rfl (.inl rfl) (pe_ix ix_list (pe_op op_cat (pe_callTy call_list_of (by rfl) zList (by decide +kernel) (pa_cons (pe_slice sl_list (pv 0) (po_some (pv 1)) (po_some (pe_op op_add (pv 1) pe_int))) pa_nil)) (pe_lst (pa_cons (pe_op op_add (pe_op op_mul pe_int (pv 1)) pe_int) pa_nil))) pe_int (fun _ _ => rfl)))
    (pss_cons (ps_set (i := 3) scFeed.nd rfl (.inl rfl) (pe_callB (call_max2 rfl) (by rfl) zMax (by decide +kernel) (pa_cons pe_int (pa_cons (pe_op op_sub (pe_callB call_abs (by rfl) ma (by decide +kernel) (pa_cons (pv 2) pa_nil)) (pe_op op_pow pe_int pe_int)) pa_nil))))
    (pss_cons (ps_set (i := 4) scFeed.nd rfl (.inl rfl) (pe_op op_modN (pe_op op_add (pe_op op_add (pe_op op_mulX (pv 2) pe_int) (pe_op op_mul pe_int (pv 1))) pe_int) pe_int))
    (pss_one (ps_ret (pe_lst (pa_cons (pv 3) (pa_cons (pe_op op_modN (pe_op op_mul (pv 4) (pv 4)) pe_int) pa_nil)))))))), ?_⟩
  have two : ∀ (z : Int), Builtin.Int.intBits z ≤ 1048576 → CMulX z 6364136223846793005 ∧ CMul 7919 (k : Int) := fun z hz => ⟨seed_ok hz, .inl ⟨by decide, by decide⟩⟩
  have fin : ∀ (d x : Int) (H1 : Hp), Same H H1 → ∀ p, H1 p = none → Q (.ref p) (upd H1 p (.lst [.int d, .int (x.fmod 2305843009213693951)])) := fun d x H1 s1 p hp =>
    q p _ (same_put s1 hp) (s1.free hp) ⟨_, _, upd_same, (modM _).1, (modM _).2⟩
  refine ⟨_, rfl, _, rfl, (k : Int), rfl, _, rfl, _, _, rfl, rfl, (k : Int) + 1, rfl, a, _, rfl, hS, fun c hc => ⟨c, _, rfl, .inl (.inl (.inl upd_same)), fun l hl => ?_⟩⟩
  refine ⟨_, rfl, _, _, rfl, rfl, .inl ⟨by decide, by decide⟩, _, _, rfl, rfl, (by show 1 ≤ sizeLine; decide), fun b hb2 => ?_⟩
  have s1 := same_new (o := .lst (cutV (ns.map V.int) (some (k : Int)) (some ((k : Int) + 1)))) hc
  have s2 := same_put (o := .lst (cutV (ns.map V.int) (some (k : Int)) (some ((k : Int) + 1)))) s1 hl
  have s3 := same_put (o := .lst [.int (67 * (k : Int) + 19)]) s2 hb2
  have short : (cutV (ns.map V.int) (some (k : Int)) (some ((k : Int) + 1))).length ≤ 1 := by
    unfold cutV
    rw [show HT.sIx (ns.map V.int).length 0 (some (k : Int)) = min k (ns.map V.int).length from HT.sIx_nat _ 0 k, show (k : Int) + 1 = ((k + 1 : Nat) : Int) by omega, show HT.sIx (ns.map V.int).length (ns.map V.int).length (some ((k + 1 : Nat) : Int)) = min (k + 1) (ns.map V.int).length from HT.sIx_nat _ _ _, List.length_take]
    omega
  have nlb : l ≠ b := fun z => by
    rw [← z, upd_same] at hb2
    cases hb2
  refine ⟨l, b, _, _, rfl, rfl, (by rw [upd_ne nlb]; exact upd_same), upd_same, Nat.le_trans (Nat.add_le_add_right short 1) (by decide), fun e he => ?_⟩
  have s4 := same_put (o := .lst (cutV (ns.map V.int) (some (k : Int)) (some ((k : Int) + 1)) ++ [.int (67 * (k : Int) + 19)])) s3 he
  have item : ∃ z : Int, atI (cutV (ns.map V.int) (some (k : Int)) (some ((k : Int) + 1)) ++ [.int (67 * (k : Int) + 19)]) 0 = some (.int z) ∧ Builtin.Int.intBits z ≤ 1048576 := by
    have own : Builtin.Int.intBits (67 * (k : Int) + 19) ≤ 1048576 := by
      refine Nat.le_trans (PyProof.Rows.intBits_le (k := 20) ?_) (by decide)
      have : (67 * (k : Int) + 19).natAbs ≤ 6719 := by omega
      exact Nat.lt_of_le_of_lt this (by decide)
    cases e : cutV (ns.map V.int) (some (k : Int)) (some ((k : Int) + 1)) with
    | nil => exact ⟨_, atI_nat (j := 0) rfl, own⟩
    | cons x r =>
      have m : x ∈ ns.map V.int := by
        have m2 : x ∈ cutV (ns.map V.int) (some (k : Int)) (some ((k : Int) + 1)) := by rw [e]; exact List.mem_cons_self
        unfold cutV at m2
        exact List.mem_of_mem_drop (List.mem_of_mem_take m2)
      obtain ⟨z, hz, rfl⟩ := List.mem_map.mp m
      exact ⟨z, atI_nat (j := 0) rfl, hb z hz⟩
  obtain ⟨z, it, hz⟩ := item
  refine ⟨e, _, 0, _, rfl, rfl, .inl (.inl upd_same), it, ?_⟩
  refine ⟨_, rfl, _, rfl, _, _, rfl, rfl, ⟨by decide, by decide, by decide⟩, _, _, rfl, rfl, _, _, rfl, ?_⟩
  refine ⟨_, rfl, _, _, rfl, rfl, (two _ hz).1, _, rfl, _, _, rfl, rfl, (two _ hz).2, _, _, rfl, rfl, _, _, rfl, rfl, _, _, rfl, rfl, notM, ?_⟩
  have mi := modM (z * 6364136223846793005 + 7919 * (k : Int) + 1442695040888963407)
  exact ⟨_, rfl, _, rfl, _, rfl, _, _, rfl, rfl, (.inl ⟨Int.lt_of_lt_of_le (by decide) mi.1, Int.lt_trans mi.2 (by decide)⟩), _, _, rfl, rfl, notM, (by show 2 ≤ sizeLine; decide), fin _ _ _ s4⟩
/-! ### _law_take -/
def spTake : Sp := fun vs H Q _ => ∃ (f : Addr) (many : Int), vs = [.ref f, .int many] ∧ 0 < many ∧ many.natAbs < 2 ^ 200 ∧ FeedAt H f ∧
  ∀ (r : Int) H', 0 ≤ r → r < many → But f H H' → FeedAt H' f → Q (.int r) H'
theorem mod_in {i m : Int} (h : 0 < m) : 0 ≤ i.fmod m ∧ i.fmod m < m := by
  rw [Int.fmod_eq_emod_of_nonneg _ (Int.le_of_lt h)]
  exact ⟨Int.emod_nonneg _ (Int.ne_of_gt h), Int.emod_lt_of_pos _ h⟩
theorem ok_take {f : Addr} {fd : FuncData} {j : Nat} (F : Fun K "_law_take" "_law_take" sTake f fd) : FnOk P w K mg base CX0 (j + 1) f fd ["feed", "many"] spTake := by
  refine F.ok scTake (fun vs H Q E h => ?_) (fun cdv A outer s H vs Q E hr h => ?_)
  · obtain ⟨a, m, rfl, _⟩ := h
    rfl
  obtain ⟨f, m, rfl, pos, small, ⟨x, y, hf, y0, y1⟩, q⟩ := h
  refine ⟨_, pss_cons (ps_if (pt_cmpR op_gt (pe_ix ix_list (pv 0) pe_int (fun _ _ => rfl)) pe_int (nomark _))
      (pss_cons (ps_set (i := 2) scTake.nd rfl (.inl rfl) (pe_op op_modN (pe_ix ix_list (pv 0) pe_int (fun _ _ => rfl)) (pv 1)))
      (pss_cons (ps_asg (pe_op op_fdivW (pe_ix ix_list (pv 0) pe_int (fun _ _ => rfl)) (pv 1)) (pg_sub (pv 0) pe_int set_list)) (pss_one (ps_ret (pv 2))))) pss_nil)
    (pss_cons (ps_asg (pe_op op_modN (pe_op op_add (pe_op op_mul (pe_ix ix_list (pv 0) pe_int (fun _ _ => rfl)) pe_int) pe_int) pe_int) (pg_sub (pv 0) pe_int set_list))
    (pss_one (ps_ret (pe_op op_modN (pe_op op_fdiv (pe_ix ix_list (pv 0) pe_int (fun _ _ => rfl)) pe_int) (pv 1))))), ?_⟩
  have s0 : SqL K H f [.int x, .int y] := .inl (.inl hf)
  refine ⟨_, rfl, f, _, 0, .int x, rfl, rfl, s0, rfl, _, _, rfl, rfl, _, rfl, ?_⟩
  refine ite2 (fun c => ?_) (fun c => ?_)
  · refine ⟨_, rfl, f, _, 0, .int x, rfl, rfl, s0, rfl, _, rfl, _, _, rfl, rfl, Int.ne_of_gt pos, ?_⟩
    refine ⟨_, rfl, f, _, 0, .int x, rfl, rfl, s0, rfl, _, rfl, _, _, rfl, rfl, wide_div pos small (by decide) (by decide), ?_⟩
    refine ⟨_, rfl, f, _, 0, 0, rfl, rfl, hf, rfl, _, rfl, ?_⟩
    exact q _ _ (mod_in pos).1 (mod_in pos).2 ((But.refl f H).own) ⟨_, _, upd_same, y0, y1⟩
  · refine ⟨_, rfl, f, _, 1, .int y, rfl, rfl, s0, rfl, _, _, rfl, rfl, .inr ⟨by decide, by decide⟩, _, _, rfl, rfl, _, _, rfl, rfl, notM, ?_⟩
    refine ⟨_, rfl, f, _, 1, 1, rfl, rfl, hf, rfl, ?_⟩
    refine ⟨_, rfl, f, _, 1, _, rfl, rfl, .inl (.inl upd_same), rfl, _, _, rfl, rfl, ⟨by decide, by decide⟩, _, rfl, _, _, rfl, rfl, Int.ne_of_gt pos, ?_⟩
    exact q _ _ (mod_in pos).1 (mod_in pos).2 ((But.refl f H).own) ⟨_, _, upd_same, (modM _).1, (modM _).2⟩
/-! ### _law_pick -/
theorem atI_in {α : Type} {xs : List α} {r : Int} (h0 : 0 ≤ r) (h1 : r < (xs.length : Int)) : ∃ x ∈ xs, atI xs r = some x := by
  have lt : r.toNat < xs.length := by omega
  have er : ((r.toNat : Nat) : Int) = r := by omega
  have q : atI xs ((r.toNat : Nat) : Int) = some xs[r.toNat] := atI_nat (List.getElem?_eq_getElem lt)
  rw [er] at q
  exact ⟨_, List.getElem_mem lt, q⟩
/-- from a list -/
def spPick (K : PySem.W.Frag) : Sp := fun vs H Q _ => ∃ (f l : Addr) (xs : List V), vs = [.ref f, .ref l] ∧ l ≠ f ∧ SqL K H l xs ∧ 0 < xs.length ∧ xs.length ≤ 1000 ∧ FeedAt H f ∧
  ∀ x ∈ xs, ∀ H', But f H H' → FeedAt H' f → Q x H'
theorem seq_but {K : PySem.W.Frag} {f l : Addr} {H H' : Hp} {xs : List V} (n : l ≠ f) (b : But f H H') (h : SqL K H l xs) : SqL K H' l xs := by
  rcases h with (h | ⟨o, h⟩) | h
  · exact .inl (.inl (b _ _ n h))
  · exact .inl (.inr ⟨o, b _ _ n h⟩)
  · exact .inr h
theorem len200 {n : Nat} (h : n ≤ 1000) : ((n : Nat) : Int).natAbs < 2 ^ 200 := Nat.lt_of_le_of_lt (by rw [Int.natAbs_natCast]; exact h) (by decide)
theorem ok_pick {f g : Addr} {fd gd : FuncData} {j : Nat} (F : Fun K "_law_pick" "_law_pick" sPick f fd) (G : FnOk P w K mg base CX0 (j + 1) g gd ["feed", "many"] spTake) (bG : Binds K gd ["feed", "many"] []) (kG : PySem.W.keepIn K (.ref g) = true) (mG : mg "_law_take" = some (.ref g)) (ml : mg "len" = none) :
    FnOk P w K mg base CX0 (j + 2) f fd ["feed", "some"] (spPick K) := by
  refine F.ok scPick (fun vs H Q E h => ?_) (fun cdv A outer s H vs Q E hr h => ?_)
  · obtain ⟨a, l, xs, rfl, _⟩ := h
    rfl
  obtain ⟨f, l, xs, rfl, apart, hS, pos, few, hF, q⟩ := h
  refine ⟨_, pss_one (ps_ret (pe_ix ix_list (pv 1) (pe_call G hr (by rfl) mG kG bG .nil pass0 (pa_cons (pv 0) (pa_cons (pe_callB call_len_seq (by rfl) ml PySem.boot_len (pa_cons (pv 1) pa_nil)) pa_nil))) (fun _ _ => rfl))), ?_⟩
  refine ⟨_, rfl, _, rfl, _, rfl, l, xs, rfl, .inl hS, f, _, rfl, (by omega), len200 few, hF, fun r H' r0 r1 b hF' => ?_⟩
  obtain ⟨x, hx, item⟩ := atI_in r0 r1
  exact ⟨l, xs, r, _, rfl, rfl, seq_but apart b hS, item, q _ hx H' b hF'⟩
/-- from a text -/
def spPickS : Sp := fun vs H Q _ => ∃ (f : Addr) (z : Str), vs = [.ref f, .str z] ∧ 0 < z.length ∧ z.length ≤ 1000 ∧ FeedAt H f ∧ ∀ c ∈ z.cps.toList, ∀ H', But f H H' → FeedAt H' f → Q (.str ⟨#[c]⟩) H'
theorem ok_pickS {f g : Addr} {fd gd : FuncData} {j : Nat} (F : Fun K "_law_pick" "_law_pick" sPick f fd) (G : FnOk P w K mg base CX0 (j + 1) g gd ["feed", "many"] spTake) (bG : Binds K gd ["feed", "many"] []) (kG : PySem.W.keepIn K (.ref g) = true) (mG : mg "_law_take" = some (.ref g)) (ml : mg "len" = none) :
    FnOk P w K mg base CX0 (j + 2) f fd ["feed", "some"] spPickS := by
  refine F.ok scPick (fun vs H Q E h => ?_) (fun cdv A outer s H vs Q E hr h => ?_)
  · obtain ⟨a, z, rfl, _⟩ := h
    rfl
  obtain ⟨f, z, rfl, pos, few, hF, q⟩ := h
  refine ⟨_, pss_one (ps_ret (pe_ix ix_str (pv 1) (pe_call G hr (by rfl) mG kG bG .nil pass0 (pa_cons (pv 0) (pa_cons (pe_callB call_len_str (by rfl) ml PySem.boot_len (pa_cons (pv 1) pa_nil)) pa_nil))) (fun _ _ => rfl))), ?_⟩
  have line : z.length ≤ sizeLine := Nat.le_trans few (by decide)
  refine ⟨_, rfl, _, rfl, _, rfl, z, rfl, line, f, _, rfl, (by omega), len200 few, hF, fun r H' r0 r1 b hF' => ?_⟩
  have ln : z.cps.toList.length = z.length := Array.length_toList
  obtain ⟨x, hx, item⟩ := atI_in (xs := z.cps.toList) r0 (by omega)
  exact ⟨z, r, _, rfl, rfl, line, item, q _ hx H' b hF'⟩
end
end Kf
set_option Elab.async false
set_option linter.all false
set_option maxRecDepth 100000
set_option maxHeartbeats 4000000
set_option pp.maxSteps 400
/-! k06, k07: the terms and sayings that the law makes, by their kinds. -/
namespace Kf
open PySem PySem.Spec PyProof.Rows L2 Sx
/-! ### lists of texts as data -/
abbrev NmOk (z : Str) : Prop := z.cps.all (· < 0x110000) = true
theorem dp_strs {K : PySem.W.Frag} {H : Hp} {a : Addr} {ns : List Str} (h : SqL K H a (ns.map V.str)) : Dp K H (.ref a) (.list (ns.map PyData.str)) := by
  refine .lst h ?_
  clear h
  induction ns with
  | nil => exact .nil
  | cons x r ih => exact .cons (.str x) ih
theorem eqv_strs : ∀ xs ys : List Str, PyData.eqvAll (xs.map .str) (ys.map .str) = decide (xs = ys)
  | [], [] => rfl
  | [], _ :: _ => rfl
  | _ :: _, [] => rfl
  | x :: xs, y :: ys => by
    show (x == y && PyData.eqvAll (xs.map .str) (ys.map .str)) = decide (x :: xs = y :: ys)
    rw [eqv_strs xs ys]
    by_cases e : x = y
    · subst e
      simp
    · have e2 : (x == y) = false := beq_eq_false_iff_ne.mpr e
      rw [e2]
      simp [e]
theorem lay_strs : ∀ ns : List Str, (∀ z ∈ ns, NmOk z) → PyData.canLayAll0 (ns.map .str) = true ∧ PyData.depthAll (ns.map .str) = 0
  | [], _ => ⟨rfl, rfl⟩
  | z :: r, h => by
    obtain ⟨h1, h2⟩ := lay_strs r fun y hy => h y (List.mem_cons_of_mem _ hy)
    have hz : z.cps.all (· < 0x110000) = true := h z List.mem_cons_self
    refine ⟨?_, ?_⟩
    · show (z.cps.all (· < 0x110000) && PyData.canLayAll0 (r.map .str)) = true
      rw [hz, h1]
      rfl
    · show max 0 (PyData.depthAll (r.map .str)) = 0
      rw [h2]
      rfl
theorem shaped_strs {ns : List Str} (h : ∀ z ∈ ns, NmOk z) : SeqAt.shaped (.list (ns.map .str)) = true := by
  obtain ⟨h1, h2⟩ := lay_strs ns h
  show (PyData.canLayAll0 (ns.map .str) && decide (PyData.depthAll (ns.map .str) + 1 ≤ 64)) = true
  rw [h1, h2]
  rfl
/-! ### what the law makes -/
abbrev kT : Str := "term"
abbrev kS : Str := "saying"
def table : List (Str × Str × List Str) := [("next", kT, [kT]), ("plus", kT, [kT, kT]), ("times", kT, [kT, kT]), ("same", kS, [kT, kT]), ("no", kS, []), ("and", kS, [kS, kS]), ("or", kS, [kS, kS]), ("if", kS, [kS, kS]), ("all", kS, [kS]), ("some", kS, [kS])]
theorem table_leafy : ∀ e ∈ table, leafy e.1 = false := by decide +kernel
theorem table_nm : ∀ e ∈ table, NmOk e.1 ∧ e.1.length ≤ 8 := by decide +kernel
abbrev abc : Str := "abcdefghijklmnopqrstuvwxyz"
/-- a name as names have to be -/
def GoodW (z : Str) : Prop := z.cps.toList.all (Gx.among abc) = true ∧ 1 ≤ z.length ∧ z.length ≤ 8 ∧ NmOk z
instance (z : Str) : Decidable (GoodW z) := by unfold GoodW; exact inferInstance
def LeafB (w : Str) (x : V) (r : Int) : Prop := (w = "num" ∧ ∃ n : Int, x = .int n ∧ 0 ≤ n ∧ n < 10 ^ 60) ∨ (w = "name" ∧ ∃ z, x = .str z ∧ GoodW z) ∨ (w = "bound" ∧ ∃ n : Int, x = .int n ∧ 0 ≤ n ∧ n < r)
/-- beneath a word -/
def up (w : Str) (r : Int) : Int := if binds w = true then r + 1 else r
theorem up_inner (w : Str) (r : Nat) (a : Int) : up w ((r : Int) + a) = ((inner w r : Nat) : Int) + a := by
  unfold up inner
  split <;> omega
/-- a tree of a kind, its bounds below r and so on -/
def Tr.Wb : Str → Int → Tr → Prop
  | k, r, .leaf w x => k = kT ∧ LeafB w x r
  | k, _, .n0 w => (w, k, []) ∈ table
  | k, r, .n1 w a => ∃ k1, (w, k, [k1]) ∈ table ∧ a.Wb k1 (up w r)
  | k, r, .n2 w a b => ∃ k1 k2, (w, k, [k1, k2]) ∈ table ∧ a.Wb k1 (up w r) ∧ b.Wb k2 (up w r)
theorem leaf_ok {w : Str} {x : V} {r : Int} (h : LeafB w x r) : (Tr.leaf w x).Ok := by
  rcases h with ⟨e, n, ex, _⟩ | ⟨e, z, ex, _⟩ | ⟨e, n, ex, _⟩
  · subst ex e
    exact ⟨by decide +kernel, .inl ⟨⟨n, rfl⟩, by decide +kernel⟩⟩
  · subst e ex
    exact ⟨by decide +kernel, .inr ⟨⟨_, rfl⟩, rfl⟩⟩
  · subst ex e
    exact ⟨by decide +kernel, .inl ⟨⟨n, rfl⟩, by decide +kernel⟩⟩
theorem wb_ok : ∀ {t : Tr} {k : Str} {r : Int}, t.Wb k r → t.Ok
  | .leaf w x, k, r, h => leaf_ok h.2
  | .n0 w, k, r, h => table_leafy _ h
  | .n1 w a, k, r, ⟨k1, h, ha⟩ => ⟨table_leafy _ h, wb_ok ha⟩
  | .n2 w a b, k, r, ⟨k1, k2, h, ha, hb⟩ => ⟨table_leafy _ h, wb_ok ha, wb_ok hb⟩
/-- an inner piece's row in the table, its parts by their kinds -/
theorem wb_row {t : Tr} {k : Str} {r : Int} (h : t.Wb k r) (nl : leafy t.word = false) : ∃ ks, (t.word, k, ks) ∈ table ∧ All2 (fun a k1 => Tr.Wb k1 (up t.word r) a) t.kids ks := by
  cases t with
  | leaf w x => exact (no_leaf nl (wb_ok (t := .leaf w x) h).1).elim
  | n0 w => exact ⟨[], h, .nil⟩
  | n1 w a =>
    obtain ⟨k1, h1, ha⟩ := h
    exact ⟨[k1], h1, .one ha⟩
  | n2 w a b =>
    obtain ⟨k1, k2, h1, ha, hb⟩ := h
    exact ⟨[k1, k2], h1, .cons ha (.one hb)⟩
theorem up_mono (w : Str) {r q : Int} (h : r ≤ q) : up w r ≤ up w q := by
  unfold up
  split <;> omega
theorem wb_mono : ∀ {t : Tr} {k : Str} {r q : Int}, r ≤ q → t.Wb k r → t.Wb k q
  | .leaf w x, k, r, q, le, h => ⟨h.1, h.2.imp id fun z => z.imp id fun ⟨e, n, e2, a, b⟩ => ⟨e, n, e2, a, Int.lt_of_lt_of_le b le⟩⟩
  | .n0 w, k, r, q, le, h => h
  | .n1 w a, k, r, q, le, ⟨k1, h, ha⟩ => ⟨k1, h, wb_mono (up_mono w le) ha⟩
  | .n2 w a b, k, r, q, le, ⟨k1, k2, h, ha, hb⟩ => ⟨k1, k2, h, wb_mono (up_mono w le) ha, wb_mono (up_mono w le) hb⟩
/-- the names' list -/
structure NmAt (H : Hp) (l : Addr) (ns : List Str) : Prop where
  at_ : H l = some (.lst (ns.map V.str))
  few : ns.length ≤ 60
  good : ∀ z ∈ ns, GoodW z
theorem NmAt.keep {H H' : Hp} {f l : Addr} {ns : List Str} (h : NmAt H l ns) (n : l ≠ f) (b : But f H H') : NmAt H' l ns := ⟨b _ _ n h.at_, h.few, h.good⟩
theorem NmAt.same {H H' : Hp} {l : Addr} {ns : List Str} (h : NmAt H l ns) (b : Same H H') : NmAt H' l ns := ⟨b _ _ h.at_, h.few, h.good⟩
/-- a made tree -/
structure Made (k : Str) (ns : List Str) (r : Int) (d : Nat) (t : Tr) : Prop where
  wb : t.Wb k r
  dp : t.deep ≤ d
  nm : ∀ z ∈ t.names, z ∈ ns
theorem no_names_num {x : V} {z : Str} (h : z ∈ (Tr.leaf "num" x).names) : False := by
  rw [show (Tr.leaf "num" x).names = [] from if_neg (by decide +kernel)] at h
  exact List.not_mem_nil h
theorem no_names_bound {x : V} {z : Str} (h : z ∈ (Tr.leaf "bound" x).names) : False := by
  rw [show (Tr.leaf "bound" x).names = [] from if_neg (by decide +kernel)] at h
  exact List.not_mem_nil h
theorem made_num {ns : List Str} {r n : Int} (h0 : 0 ≤ n) (h1 : n < 10 ^ 60) : Made kT ns r 1 (.leaf "num" (.int n)) := ⟨⟨rfl, .inl ⟨rfl, n, rfl, h0, h1⟩⟩, Nat.le_refl 1, fun z h => (no_names_num h).elim⟩
theorem made_bound {ns : List Str} {r n : Int} (h0 : 0 ≤ n) (h1 : n < r) : Made kT ns r 1 (.leaf "bound" (.int n)) := ⟨⟨rfl, .inr (.inr ⟨rfl, n, rfl, h0, h1⟩)⟩, Nat.le_refl 1, fun z h => (no_names_bound h).elim⟩
theorem made_name {ns : List Str} {r : Int} {x : Str} (h : GoodW x) (m : x ∈ ns) : Made kT ns r 1 (.leaf "name" (.str x)) := ⟨⟨rfl, .inr (.inl ⟨rfl, x, rfl, h⟩)⟩, Nat.le_refl 1, fun z hz => by
  rw [show (Tr.leaf "name" (.str x)).names = [x] from if_pos rfl] at hz
  rw [List.mem_singleton.mp hz]
  exact m⟩
theorem no_row : (("no", kS, []) : Str × Str × List Str) ∈ table := by decide +kernel
theorem made_no {ns : List Str} {r : Int} : Made kS ns r 1 (.n0 "no") := ⟨no_row, Nat.le_refl 1, fun z h => (List.not_mem_nil h).elim⟩
theorem Made.up {k : Str} {ns : List Str} {r : Int} {d e : Nat} {t : Tr} (h : Made k ns r d t) (le : d ≤ e) : Made k ns r e t := ⟨h.wb, Nat.le_trans h.dp le, h.nm⟩
theorem made_one {k k1 w : Str} {ns : List Str} {r r2 : Int} {d : Nat} {a : Tr} (hw : (w, k, [k1]) ∈ table) (hr : Kf.up w r = r2) (h : Made k1 ns r2 d a) : Made k ns r (d + 1) (.n1 w a) := ⟨⟨k1, hw, by rw [hr]; exact h.wb⟩, Nat.succ_le_succ h.dp, h.nm⟩
theorem made_two {k k1 k2 w : Str} {ns : List Str} {r : Int} {d : Nat} {a b : Tr} (hw : (w, k, [k1, k2]) ∈ table) (hr : binds w = false) (h : Made k1 ns r d a) (g : Made k2 ns r d b) : Made k ns r (d + 1) (.n2 w a b) := by
  have e : Kf.up w r = r := if_neg (by rw [hr]; exact Bool.false_ne_true)
  exact ⟨⟨k1, k2, hw, by rw [e]; exact h.wb, by rw [e]; exact g.wb⟩, Nat.succ_le_succ (Nat.max_le.mpr ⟨h.dp, g.dp⟩), fun z hz => (List.mem_append.mp hz).elim (h.nm z) (g.nm z)⟩
/-- what is promised of a made tree -/
def Out (f : Addr) (H : Hp) (k : Str) (ns : List Str) (r : Int) (d : Nat) (Q : VK) : Prop := ∀ t v H', Made k ns r d t → At H' t v → But f H H' → FeedAt H' f → Q v H'
/-- what stands behind several ways, shown once -/
theorem join {C G : Hp → Prop} {M : Prop} (main : (∀ H, C H → G H) → M) (rest : ∀ H, C H → G H) : M := main rest
theorem eqW {wd k : Str} {A B : Prop} (y : wd = k → A) (n : wd ≠ k → B) : if decide (V.str wd = V.str k) = true then A else B :=
  ite2 (fun c => y (by have q := of_decide_eq_true c; injection q)) (fun c => n (fun e => c (by rw [e]; exact decide_eq_true rfl)))
section
variable {P : Program} {w : World} {K : PySem.W.Frag} {mg : Str → Option Value} {base : Heap}
/-- the defs that draw -/
structure Draw (P : Program) (w : World) (K : PySem.W.Frag) (mg : Str → Option Value) (base : Heap) (ft fp : Addr) (dt dp : FuncData) : Prop where
  T : FnOk P w K mg base CX0 1 ft dt ["feed", "many"] spTake
  bT : Binds K dt ["feed", "many"] []
  kT : PySem.W.keepIn K (.ref ft) = true
  mT : mg "_law_take" = some (.ref ft)
  Pk : FnOk P w K mg base CX0 2 fp dp ["feed", "some"] (spPick K)
  bP : Binds K dp ["feed", "some"] []
  kP : PySem.W.keepIn K (.ref fp) = true
  mP : mg "_law_pick" = some (.ref fp)
theorem no_calls {f : Addr} {fd : FuncData} {k : Nat} {ps : List Str} {sp : Sp} (no : ∀ vs H Q E, ¬ sp vs H Q E) : FnOk P w K mg base CX0 k f fd ps sp :=
  ⟨fun vs H Q E h => absurd h (no vs H Q E), fun A outer s H args us vs Q E _ _ _ _ h => absurd h (no vs H Q E)⟩
theorem next_row : (("next", kT, [kT]) : Str × Str × List Str) ∈ table := by decide +kernel
theorem same_row : (("same", kS, [kT, kT]) : Str × Str × List Str) ∈ table := by decide +kernel
end
end Kf
set_option Elab.async false
set_option linter.all false
set_option maxRecDepth 100000
set_option maxHeartbeats 4000000
set_option pp.maxSteps 400
/-! k06, k07: is_word, is_leaf, has_form, is_made. -/
namespace Kf
open PySem PySem.Spec PyProof.Rows L2 Sx RZ
abbrev sBeneath : Stmt := top 5
abbrev sWhole : Stmt := top 14
abbrev sWord : Stmt := top 15
abbrev sIsLeaf : Stmt := top 16
abbrev sForm : Stmt := top 17
abbrev sMade : Stmt := top 18
abbrev sSayingQ : Stmt := top 20
theorem scBeneath : FnScope ["piece", "around"] ["piece", "around"] (defScope sBeneath) := ⟨rfl, rfl, rfl, by decide +kernel, rfl, by decide +kernel, by decide +kernel⟩
theorem scWhole : FnScope ["thing"] ["thing"] (defScope sWhole) := ⟨rfl, rfl, rfl, by decide +kernel, rfl, by decide +kernel, by decide +kernel⟩
theorem scWord : FnScope ["thing"] ["thing"] (defScope sWord) := ⟨rfl, rfl, rfl, by decide +kernel, rfl, by decide +kernel, by decide +kernel⟩
theorem scIsLeaf : FnScope ["piece", "bounds", "word", "part"] ["piece", "bounds"] (defScope sIsLeaf) := ⟨rfl, rfl, rfl, by decide +kernel, rfl, by decide +kernel, by decide +kernel⟩
theorem scForm : FnScope ["piece", "kind", "bounds", "made", "parts"] ["piece", "kind", "bounds"] (defScope sForm) := ⟨rfl, rfl, rfl, by decide +kernel, rfl, by decide +kernel, by decide +kernel⟩
theorem scMade : FnScope ["thing", "kind", "slack", "pieces", "todo", "piece", "due", "around", "within", "inner", "part", "part_due"] ["thing", "kind", "slack"] (defScope sMade) := ⟨rfl, rfl, rfl, by decide +kernel, rfl, by decide +kernel, by decide +kernel⟩
theorem scSayingQ : FnScope ["thing"] ["thing"] (defScope sSayingQ) := ⟨rfl, rfl, rfl, by decide +kernel, rfl, by decide +kernel, by decide +kernel⟩
/-! ### what the top has -/
structure Txt (K : PySem.W.Frag) (w : World) (mg : Str → Option Value) (L B F : Addr) : Prop where
  mL : mg "LEAVES" = some (.ref L)
  mB : mg "BINDERS" = some (.ref B)
  mF : mg "FORMS" = some (.ref F)
  leaf : ∀ H, SqT K H L leafVs
  bind : ∀ H, SqT K H B bindVs
  dict : ∃ es n, KDict K w F es n
  form : ∀ wd k ks, (wd, k, ks) ∈ table → ∃ fa fb, PySem.W.nsIn K F wd = some (some (.ref fa)) ∧ (∀ H, SqT K H fa [.str k, .ref fb]) ∧ ∀ H, SqT K H fb (ks.map V.str)
  great : ∃ t, mg "TOO_GREAT" = some (.int (10 ^ 60) t)
  letters : ∃ t, mg "LETTERS" = some (.str abc t)
  most : ∃ t, mg "MOST_LETTERS" = some (.int 8 t)
  pieces : ∃ t, mg "MOST_PIECES" = some (.int 400 t)
  within : ∃ t, mg "MOST_WITHIN" = some (.int 60 t)
  zIs : mg "isinstance" = none
  zInt : mg "int" = none
  zBool : mg "bool" = none
  zStr : mg "str" = none
  zTuple : mg "tuple" = none
  zLen : mg "len" = none
  zAll : mg "all" = none
  zZip : mg "zip" = none
section
variable {P : Program} {w : World} {K : PySem.W.Frag} {mg : Str → Option Value} {base : Heap} {L B FV : Addr}
def spBeneath : Sp := fun vs H Q _ => ∃ (p : Addr) (wd : Str) (us : List V) (r : Nat), vs = [.ref p, .int (r : Int)] ∧ H p = some (.tup (.str wd :: us)) ∧ Q (.int (inner wd r : Nat)) H
theorem head_at (x : V) (us : List V) : atI (x :: us) 0 = some x := atI_nat (j := 0) rfl
theorem ok_beneath {f : Addr} {fd : FuncData} {j : Nat} (F : Fun K "beneath" "beneath" sBeneath f fd) (T : Txt K w mg L B FV) : FnOk P w K mg base CX0 (j + 1) f fd ["piece", "around"] spBeneath := by
  refine F.ok scBeneath (fun vs H Q E h => ?_) (fun cdv A outer s H vs Q E hr h => ?_)
  · obtain ⟨p, wd, us, r, rfl, _⟩ := h
    rfl
  obtain ⟨p, wd, us, r, rfl, hp, q⟩ := h
  refine ⟨_, pss_one (ps_ret (pe_ifExp (pt_cmpR op_in_seq (pe_ix ix_tup (pv 0) pe_int (fun _ _ => rfl)) (pe_glob (v := .ref B) (by rfl) T.mB rfl) (by rfl)) (pe_op op_add (pv 1) pe_int) (pv 1))), ?_⟩
  refine ⟨_, rfl, p, _, 0, _, rfl, rfl, .inl (.inl hp), head_at _ _, B, bindVs, rfl, .inr (T.bind H), rfl, rfl, _, rfl, ?_⟩
  show if binds wd = true then _ else _
  unfold inner at q
  by_cases c : binds wd = true
  · rw [if_pos c] at q ⊢
    exact ⟨_, rfl, _, _, rfl, rfl, q⟩
  · rw [if_neg c] at q ⊢
    exact ⟨_, rfl, q⟩
/-! ### is_whole, of numbers -/
def spWhole : Sp := fun vs H Q _ => ∃ n : Int, vs = [.int n] ∧ Q (.bl true) H
theorem ok_whole {f : Addr} {fd : FuncData} {j : Nat} (F : Fun K "is_whole" "is_whole" sWhole f fd) (T : Txt K w mg L B FV) : FnOk P w K mg base CX0 (j + 1) f fd ["thing"] spWhole := by
  refine F.ok scWhole (fun vs H Q E h => ?_) (fun cdv A outer s H vs Q E hr h => ?_)
  · obtain ⟨n, rfl, _⟩ := h
    rfl
  obtain ⟨n, rfl, q⟩ := h
  refine ⟨_, pss_one (ps_ret (pe_and (pe_callB call_isi (by rfl) T.zIs (by decide +kernel) (pa_cons (pv 0) (pa_cons (pe_bltn (v := .ty "int") (by rfl) T.zInt (by decide +kernel) rfl) pa_nil)))
    (pe_one (pe_not (pe_callB call_isi (by rfl) T.zIs (by decide +kernel) (pa_cons (pv 0) (pa_cons (pe_bltn (v := .ty "bool") (by rfl) T.zBool (by decide +kernel) rfl) pa_nil))))))), ?_⟩
  refine ⟨_, rfl, _, _, _, _, true, rfl, .ty "int", .base (.int n), kit_ty (by decide +kernel), _, rfl, ?_⟩
  refine iteT ⟨_, rfl, _, _, _, _, false, rfl, .ty "bool", .base (.int n), kit_ty (by decide +kernel), _, rfl, ?_⟩
  exact q
/-! ### is_word, of "x" -/
def spWord (PT : Addr) : Sp := fun vs H Q _ => ∃ z : Str, vs = [.str z] ∧ GoodW z ∧ GxR.TabG H PT ∧ ∀ H', GxR.Tabbed PT H H' → Q (.bl true) H'
theorem genS {env : Env} {sc : Scope} {x : Str} (h1 : sc.kind = .function) (h2 : sc.isCoroutine = false) (h3 : sc.names.all (fun y => decide (y.2 ≠ .cell) && decide (y.2 ≠ .free)) = true) (h4 : sc.names.lookup (".0" : Str) = some NameKind.local) (h5 : sc.names.lookup x = some .local) : GxR.GenS env sc x := by
  have all := List.all_eq_true.mp h3
  refine ⟨h1, h2, fun y hy => ?_, h4, h5, fun y hy e => ?_⟩
  · have q := all y hy
    rw [Bool.and_eq_true, decide_eq_true_eq, decide_eq_true_eq] at q
    exact q.1
  · have q := all y hy
    rw [Bool.and_eq_true, decide_eq_true_eq, decide_eq_true_eq] at q
    exact absurd e q.2
theorem ok_word {f c PT : Addr} {oc kV dc pm ct : Value} {od an : Option Addr} {osl : Array (Option Value)} {j : Nat}
    (lk : K.lookup f = some ⟨oc, od, .func (PySem.W.fnOf "is_word" "is_word" (defArgs sWord) (defBody sWord) (defScope sWord) .none kV dc pm an (.ref c) ct), osl⟩) (hcd : PySem.W.codeIn K (.ref c) "is_word" = true) (T : Txt K w mg L B FV) (tab : GxR.TabB base mg c PT) :
    FnOk P w K mg base CX0 (j + 2) f (PySem.W.fnOf "is_word" "is_word" (defArgs sWord) (defBody sWord) (defScope sWord) .none kV dc pm an (.ref c) ct) ["thing"] (spWord PT) := by
  obtain ⟨tl, mLt⟩ := T.letters
  obtain ⟨tm, mM⟩ := T.most
  refine fn_of lk hcd scWord (fun vs H Q E h => ?_) fun A outer s H vs Q E hr h => ?_
  · obtain ⟨z, rfl, _⟩ := h
    rfl
  obtain ⟨z, rfl, ⟨g1, g2, g3, g4⟩, hT, q⟩ := h
  refine ⟨_, pss_cons (ps_if (PW.pt (pw_or (pt_not (pt_val (pe_callB call_isi (by rfl) T.zIs (by decide +kernel) (pa_cons (pv 0) (pa_cons (pe_bltn (v := .ty "str") (by rfl) T.zStr (by decide +kernel) rfl) pa_nil)))))
      (pw_or1 (pt_not (pt_chain op_le op_le pe_int (pe_callB call_len_str (by rfl) T.zLen PySem.boot_len (pa_cons (pv 0) pa_nil)) (pe_glob (v := .int 8) (by rfl) mM ⟨_, rfl⟩)))))) (pss_one (ps_ret pe_bl)) pss_nil)
    (pss_one (ps_ret (Gx.pe_allG hr (by rfl) T.zAll (by decide +kernel) tab rfl (genS rfl rfl (by decide +kernel) (by decide +kernel) (by decide +kernel)) (pv 0) (Gx.test_in rfl (by decide +kernel) (by decide +kernel) mLt) (fun _ => rfl)))), ?_⟩
  have l1 : decide ((1 : Int) ≤ ((z.length : Nat) : Int)) = true := decide_eq_true (by omega)
  have l2 : decide (((z.length : Nat) : Int) ≤ 8) = true := decide_eq_true (by omega)
  have l3 : z.cps.toList.all (Gx.among abc) = true := g1
  refine ⟨_, rfl, _, _, _, _, true, rfl, .ty "str", .base (.str _), kit_ty (by decide +kernel), _, rfl, ?_⟩
  refine iteF ?_
  refine ⟨_, rfl, _, rfl, Nat.le_trans g3 (by decide), _, _, rfl, rfl, _, rfl, ?_⟩
  rw [l1]
  refine iteT ⟨_, _, rfl, rfl, _, rfl, ?_⟩
  rw [l2]
  refine iteF ?_
  refine ⟨_, rfl, _, rfl, hT, fun H2 tb => ?_⟩
  rw [l3]
  exact q H2 tb
/-! ### is_leaf -/
def spIsLeaf (PT : Addr) : Sp := fun vs H Q _ => ∃ (p : Addr) (wd : Str) (x : V) (r : Int), vs = [.ref p, .int r] ∧ H p = some (.tup [.str wd, x]) ∧ LeafB wd x r ∧ GxR.TabG H PT ∧ ∀ H', GxR.Tabbed PT H H' → Q (.bl true) H'
theorem tabbed_refl {PT : Addr} {H : Hp} (h : GxR.TabG H PT) : GxR.Tabbed PT H H := ⟨h, fun _ _ => rfl⟩
theorem ok_isleaf {f fw fq : Addr} {fd dw dq : FuncData} {PT : Addr} (F : Fun K "is_leaf" "is_leaf" sIsLeaf f fd) (T : Txt K w mg L B FV)
    (W : FnOk P w K mg base CX0 2 fw dw ["thing"] (spWord PT)) (bW : Binds K dw ["thing"] []) (kW : PySem.W.keepIn K (.ref fw) = true) (mW : mg "is_word" = some (.ref fw))
    (I : FnOk P w K mg base CX0 1 fq dq ["thing"] spWhole) (bI : Binds K dq ["thing"] []) (kI : PySem.W.keepIn K (.ref fq) = true) (mI : mg "is_whole" = some (.ref fq)) : FnOk P w K mg base CX0 3 f fd ["piece", "bounds"] (spIsLeaf PT) := by
  obtain ⟨tg, mG⟩ := T.great
  refine F.ok scIsLeaf (fun vs H Q E h => ?_) (fun cdv A outer s H vs Q E hr h => ?_)
  · obtain ⟨p, wd, x, r, rfl, _⟩ := h
    rfl
  obtain ⟨p, wd, x, r, rfl, hp, hl, hT, q⟩ := h
  have h1 : Room 1 _ := hr.mono (by decide)
  refine ⟨_, pss_cons (ps_if (pt_cmpR op_ne (pe_callB call_len_seq (by rfl) T.zLen PySem.boot_len (pa_cons (pv 0) pa_nil)) pe_int (nomark _)) (pss_one (ps_ret pe_bl)) pss_nil)
    (pss_cons (ps_asg (pv 0) (pg_tup (by rfl) (pgs_cons (pg_name (i := 2) scIsLeaf.nd rfl (.inl rfl)) (pgs_cons (pg_name (i := 3) scIsLeaf.nd rfl (.inl rfl)) pgs_nil))))
    (pss_cons (ps_if (pt_cmpR op_eq (pv 2) pe_str (nomark _)) (pss_one (ps_ret (pe_call W hr (by rfl) mW kW bW .nil pass0 (pa_cons (pv 3) pa_nil)))) pss_nil)
    (pss_cons (ps_if (PW.pt (pw_or (pt_not (pt_val (pe_call I h1 (by rfl) mI kI bI .nil pass0 (pa_cons (pv 3) pa_nil)))) (pw_or1 (pt_cmpR op_lt (pv 3) pe_int (nomark _))))) (pss_one (ps_ret pe_bl)) pss_nil)
    (pss_one (ps_ret (pe_cmpR op_lt (pv 3) (pe_ifExp (pt_cmpR op_eq (pv 2) pe_str (nomark _)) (pe_glob (v := .int (10 ^ 60)) (by rfl) mG ⟨_, rfl⟩) (pv 1)) (nomark _))))))), ?_⟩
  refine ⟨_, rfl, p, _, rfl, .inr (.inl (.inl hp)), rfl, _, rfl, ?_⟩
  refine iteF ?_
  refine ⟨_, rfl, p, [.str wd, x], rfl, .inl (.inl hp), rfl, .str wd, [x], rfl, x, [], rfl, rfl, ?_⟩
  refine ⟨_, rfl, rfl, _, rfl, ?_⟩
  rcases hl with ⟨rfl, n, rfl, n0, n1⟩ | ⟨rfl, z, rfl, good⟩ | ⟨rfl, n, rfl, n0, n1⟩
  · rw [show decide (V.str "num" = V.str "name") = false by decide +kernel]
    refine iteF ?_
    refine ⟨_, rfl, n, rfl, _, rfl, ?_⟩
    refine iteF ?_
    refine ⟨_, rfl, _, _, rfl, rfl, _, rfl, ?_⟩
    rw [show decide (n < 0) = false from decide_eq_false (by omega)]
    refine iteF ?_
    refine ⟨_, rfl, _, rfl, rfl, _, rfl, ?_⟩
    rw [show decide (V.str "num" = V.str "num") = true from decide_eq_true rfl]
    refine iteT ⟨_, _, rfl, rfl, ?_⟩
    show Q (.bl (decide (n < 10 ^ 60))) H
    rw [decide_eq_true n1]
    exact q H (tabbed_refl hT)
  · rw [show decide (V.str "name" = V.str "name") = true from decide_eq_true rfl]
    exact iteT ⟨_, rfl, z, rfl, good, hT, q⟩
  · rw [show decide (V.str "bound" = V.str "name") = false by decide +kernel]
    refine iteF ?_
    refine ⟨_, rfl, n, rfl, _, rfl, ?_⟩
    refine iteF ?_
    refine ⟨_, rfl, _, _, rfl, rfl, _, rfl, ?_⟩
    rw [show decide (n < 0) = false from decide_eq_false (by omega)]
    refine iteF ?_
    refine ⟨_, rfl, _, rfl, rfl, _, rfl, ?_⟩
    rw [show decide (V.str "bound" = V.str "num") = false by decide +kernel]
    refine iteF ⟨_, rfl, _, _, rfl, rfl, ?_⟩
    show Q (.bl (decide (n < r))) H
    rw [decide_eq_true n1]
    exact q H (tabbed_refl hT)
/-! ### has_form -/
def spForm (PT : Addr) : Sp := fun vs H Q _ => ∃ (v : V) (k : Str) (r : Int) (t : Tr), vs = [v, .str k, .int r] ∧ At H t v ∧ t.Wb k r ∧ GxR.TabG H PT ∧ ∀ H', GxR.Tabbed PT H H' → Q (.bl true) H'
theorem ok_form {f g : Addr} {fd gd : FuncData} {PT : Addr} (F : Fun K "has_form" "has_form" sForm f fd) (T : Txt K w mg L B FV) (G : FnOk P w K mg base CX0 3 g gd ["piece", "bounds"] (spIsLeaf PT)) (bG : Binds K gd ["piece", "bounds"] []) (kG : PySem.W.keepIn K (.ref g) = true) (mG : mg "is_leaf" = some (.ref g)) :
    FnOk P w K mg base CX0 4 f fd ["piece", "kind", "bounds"] (spForm PT) := by
  obtain ⟨es, n, D⟩ := T.dict
  refine F.ok scForm (fun vs H Q E h => ?_) (fun cdv A outer s H vs Q E hr h => ?_)
  · obtain ⟨v, k, r, t, rfl, _⟩ := h
    rfl
  obtain ⟨v, k, r, t, rfl, hA, hW, hT, q⟩ := h
  have ok := wb_ok hW
  refine ⟨_, pss_cons (ps_if (PW.pt (pw_or (pt_not (pt_val (pe_callB call_isi (by rfl) T.zIs (by decide +kernel) (pa_cons (pv 0) (pa_cons (pe_bltn (v := .ty "tuple") (by rfl) T.zTuple (by decide +kernel) rfl) pa_nil)))))
      (pw_or (pt_cmpR op_eq (pe_callB call_len_seq (by rfl) T.zLen PySem.boot_len (pa_cons (pv 0) pa_nil)) pe_int (nomark _))
      (pw_or1 (pt_not (pt_val (pe_callB call_isi (by rfl) T.zIs (by decide +kernel) (pa_cons (pe_ix ix_tup (pv 0) pe_int (fun _ _ => rfl)) (pa_cons (pe_bltn (v := .ty "str") (by rfl) T.zStr (by decide +kernel) rfl) pa_nil)))))))))
      (pss_one (ps_ret pe_bl)) pss_nil)
    (pss_cons (ps_if (pt_cmpR op_in_seq (pe_ix ix_tup (pv 0) pe_int (fun _ _ => rfl)) (pe_glob (v := .ref L) (by rfl) T.mL rfl) (by rfl))
      (pss_one (ps_ret (pe_and (pe_cmpR op_eq (pv 1) pe_str (nomark _)) (pe_one (pe_call G hr (by rfl) mG kG bG .nil pass0 (pa_cons (pv 0) (pa_cons (pv 2) pa_nil))))))) pss_nil)
    (pss_cons (ps_if (pt_cmpR (op_notIn_kd D) (pe_ix ix_tup (pv 0) pe_int (fun _ _ => rfl)) (pe_glob (v := .ref FV) (by rfl) T.mF rfl) (by rfl)) (pss_one (ps_ret pe_bl)) pss_nil)
    (pss_cons (ps_asg (pe_ix ix_kdict (pe_glob (v := .ref FV) (by rfl) T.mF rfl) (pe_ix ix_tup (pv 0) pe_int (fun _ _ => rfl)) (fun _ _ => rfl)) (pg_tup (by rfl) (pgs_cons (pg_name (i := 3) scForm.nd rfl (.inl rfl)) (pgs_cons (pg_name (i := 4) scForm.nd rfl (.inl rfl)) pgs_nil))))
    (pss_one (ps_ret (pe_and (pe_cmpR op_eq (pv 3) (pv 1) (nomark _)) (pe_one (pe_cmpR op_eq (pe_callB call_len_seq (by rfl) T.zLen PySem.boot_len (pa_cons (pv 0) pa_nil))
      (pe_op op_add (pe_callB call_len_seq (by rfl) T.zLen PySem.boot_len (pa_cons (pv 4) pa_nil)) pe_int) (nomark _))))))))), ?_⟩
  obtain ⟨p, us, rfl, hp, _, kids, leafs⟩ := hA.view ok
  have hq : SqT K H p (.str t.word :: us) := .inl (.inl hp)
  refine ⟨_, rfl, _, _, _, _, true, rfl, .ty "tuple", .base (.tup hp), kit_ty (by decide +kernel), _, rfl, ?_⟩
  refine iteF ?_
  refine ⟨_, rfl, p, _, rfl, .inr hq, rfl, _, rfl, ?_⟩
  rw [show decide (V.int (((V.str t.word :: us).length : Nat) : Int) = V.int 0) = false from decide_eq_false (fun z => by injection z with z; rw [List.length_cons] at z; omega)]
  refine iteF ?_
  refine ⟨_, rfl, p, _, 0, _, rfl, rfl, hq, head_at _ _, _, _, _, _, true, rfl, .ty "str", .base (.str _), kit_ty (by decide +kernel), _, rfl, ?_⟩
  refine iteF ?_
  refine ⟨_, rfl, p, _, 0, _, rfl, rfl, hq, head_at _ _, L, leafVs, rfl, .inr (T.leaf H), rfl, rfl, _, rfl, ?_⟩
  show if leafy t.word = true then _ else _
  by_cases hl : leafy t.word = true
  · rw [if_pos hl]
    obtain ⟨x, et, eu⟩ := leafs hl
    rw [et] at hW
    obtain ⟨ek, lp⟩ := hW
    subst ek
    refine ⟨_, rfl, rfl, _, rfl, ?_⟩
    rw [show decide (V.str kT = V.str "term") = true from decide_eq_true rfl]
    exact iteT ⟨_, rfl, _, rfl, p, t.word, x, r, rfl, by rw [← eu]; exact hp, lp, hT, q⟩
  · rw [if_neg hl]
    have nl : leafy t.word = false := Bool.eq_false_iff.mpr hl
    obtain ⟨ks, row, pr⟩ := wb_row hW nl
    obtain ⟨fa, fb, e1, e2, e3⟩ := T.form _ _ _ row
    have len : us.length = ks.length := (kids nl).len.symm.trans pr.len
    refine ⟨_, rfl, p, _, 0, _, rfl, rfl, hq, head_at _ _, _, _, rfl, rfl, e1, _, rfl, ?_⟩
    refine iteF ?_
    refine ⟨_, rfl, p, _, 0, _, rfl, rfl, hq, head_at _ _, FV, _, .ref fa, rfl, rfl, ⟨es, n, _, D.at_, D.lit, e1, rfl⟩, ?_⟩
    refine ⟨fa, _, rfl, e2 H, rfl, .str k, [.ref fb], rfl, .ref fb, [], rfl, rfl, ?_⟩
    refine ⟨_, rfl, _, rfl, rfl, _, rfl, ?_⟩
    rw [show decide (V.str k = V.str k) = true from decide_eq_true rfl]
    refine iteT ?_
    refine ⟨_, rfl, p, _, rfl, .inr hq, _, rfl, fb, _, rfl, .inr (e3 H), _, _, rfl, rfl, rfl, ?_⟩
    have e : decide (V.int (((V.str t.word :: us).length : Nat) : Int) = V.int (((ks.map V.str).length : Nat) + 1)) = true := decide_eq_true (by rw [List.length_cons, List.length_map, len]; rfl)
    show Q (.bl (decide (V.int (((V.str t.word :: us).length : Nat) : Int) = V.int (((ks.map V.str).length : Nat) + 1)))) H
    rw [e]
    exact q H (tabbed_refl hT)
end
structure Ent where
  t : Tr
  k : Str
  r : Nat
  d : Nat
def EntAt (H : Hp) (e : Ent) (v : V) : Prop := ∃ q x, v = .ref q ∧ H q = some (.tup [x, .str e.k, .int (e.r : Int), .int (e.d : Int)]) ∧ At H e.t x
theorem EntAt.keep {H H' : Hp} (k : Tups H H') (e : Ent) (v : V) (h : EntAt H e v) : EntAt H' e v := by
  obtain ⟨q, x, e1, e2, a⟩ := h
  exact ⟨q, x, e1, k _ _ e2, a.keep k⟩
def sum (es : List Ent) : Nat := (es.map fun e => e.t.size).sum
theorem sum_app (a b : List Ent) : sum (a ++ b) = sum a + sum b := by
  unfold sum
  rw [List.map_append, List.sum_append]
theorem size_pos : ∀ t : Tr, 1 ≤ t.size
  | .leaf _ _ => Nat.le_refl 1
  | .n0 _ => Nat.le_refl 1
  | .n1 _ _ => Nat.le_add_left 1 _
  | .n2 _ _ _ => Nat.le_add_left 1 _
theorem deep_pos : ∀ t : Tr, 1 ≤ t.deep
  | .leaf _ _ => Nat.le_refl 1
  | .n0 _ => Nat.le_refl 1
  | .n1 _ _ => Nat.le_add_left 1 _
  | .n2 _ _ _ => Nat.le_add_left 1 _
theorem sum_len (es : List Ent) : es.length ≤ sum es := by
  induction es with
  | nil => exact Nat.zero_le _
  | cons e es ih =>
    have h := size_pos e.t
    have e1 : sum (e :: es) = e.t.size + sum es := by
      unfold sum
      rw [List.map_cons, List.sum_cons]
    rw [e1, List.length_cons]
    omega
/-- still to be let by -/
def Good (c : Nat) (es : List Ent) : Prop := c + sum es ≤ 400 ∧ ∀ e ∈ es, e.d + e.t.deep ≤ 61
def ents (ts : List Tr) (ks : List Str) (r d : Nat) : List Ent := (ts.zip ks).map fun p => ⟨p.1, p.2, r, d⟩
theorem ents_sum (r d : Nat) : ∀ (ts : List Tr) (ks : List Str), ts.length = ks.length → sum (ents ts ks r d) = (ts.map Tr.size).sum
  | [], [], _ => rfl
  | t :: ts, k :: ks, h => by
    have e1 : sum (ents (t :: ts) (k :: ks) r d) = t.size + sum (ents ts ks r d) := rfl
    rw [e1, ents_sum r d ts ks (by simpa using h), List.map_cons, List.sum_cons]
  | [], _ :: _, h => by simp at h
  | _ :: _, [], h => by simp at h
theorem size_kids (t : Tr) : t.size = 1 + (t.kids.map Tr.size).sum := by
  cases t with
  | leaf w x => rfl
  | n0 w => rfl
  | n1 w a => simp [Tr.size, Tr.kids, Nat.add_comm]
  | n2 w a b => simp [Tr.size, Tr.kids, Nat.add_comm]
theorem deep_kids (t : Tr) (n : Nat) : t.deep ≤ n + 1 ↔ ∀ a ∈ t.kids, a.deep ≤ n := by
  cases t with
  | leaf w x => exact ⟨fun _ a h => (List.not_mem_nil h).elim, fun _ => Nat.le_add_left 1 n⟩
  | n0 w => exact ⟨fun _ a h => (List.not_mem_nil h).elim, fun _ => Nat.le_add_left 1 n⟩
  | n1 w a =>
    refine ⟨fun h c hc => ?_, fun h => Nat.succ_le_succ (h a (List.mem_singleton.mpr rfl))⟩
    rw [List.mem_singleton.mp hc]
    exact Nat.le_of_succ_le_succ h
  | n2 w a b =>
    refine ⟨fun h c hc => ?_, fun h => Nat.succ_le_succ (Nat.max_le.mpr ⟨h a List.mem_cons_self, h b (List.mem_cons_of_mem _ (List.mem_singleton.mpr rfl))⟩)⟩
    have h2 := Nat.max_le.mp (Nat.le_of_succ_le_succ h)
    rcases List.mem_cons.mp hc with z | z
    · rw [z]
      exact h2.1
    · rw [List.mem_singleton.mp z]
      exact h2.2
theorem good_step {c d r : Nat} {es : List Ent} {t : Tr} {k : Str} {ks : List Str} {r2 : Nat} (hd : d ≤ 60) (hl : t.kids.length = ks.length) : Good c (es ++ [⟨t, k, r, d⟩]) ↔ Good (c + 1) (es ++ ents t.kids ks r2 (d + 1)) := by
  have s1 : sum [(⟨t, k, r, d⟩ : Ent)] = t.size := by
    unfold sum
    simp
  unfold Good
  rw [sum_app, sum_app, s1, ents_sum r2 (d + 1) _ _ hl, size_kids t]
  have dd : d + t.deep ≤ 61 ↔ ∀ a ∈ t.kids, d + 1 + a.deep ≤ 61 := by
    have q := deep_kids t (60 - d)
    constructor
    · intro h a ha
      have := q.1 (by omega) a ha
      omega
    · intro h
      have := q.2 (fun a ha => by have := h a ha; omega)
      omega
  constructor
  · rintro ⟨h1, h2⟩
    refine ⟨by omega, fun e he => ?_⟩
    rcases List.mem_append.mp he with z | z
    · exact h2 e (List.mem_append.mpr (.inl z))
    · obtain ⟨p, hp, rfl⟩ := List.mem_map.mp z
      exact dd.1 (h2 ⟨t, k, r, d⟩ (List.mem_append.mpr (.inr (List.mem_singleton.mpr rfl)))) p.1 (List.of_mem_zip hp).1
  · rintro ⟨h1, h2⟩
    refine ⟨by omega, fun e he => ?_⟩
    rcases List.mem_append.mp he with z | z
    · exact h2 e (List.mem_append.mpr (.inl z))
    · rw [List.mem_singleton.mp z]
      refine dd.2 fun a ha => ?_
      obtain ⟨i, hi, ea⟩ := List.getElem_of_mem ha
      have hk : i < ks.length := by omega
      have mz : (a, ks[i]) ∈ t.kids.zip ks := by
        rw [← ea]
        have : (t.kids.zip ks)[i]? = some (t.kids[i], ks[i]) := by
          rw [List.getElem?_eq_getElem (by rw [List.length_zip]; omega), List.getElem_zip]
        exact List.mem_of_getElem? this
      exact h2 ⟨a, ks[i], r2, d + 1⟩ (List.mem_append.mpr (.inr (List.mem_map.mpr ⟨_, mz, rfl⟩)))
theorem good_out {c d r : Nat} {es : List Ent} {t : Tr} {k : Str} (h : Good c (es ++ [⟨t, k, r, d⟩])) : c + 1 ≤ 400 ∧ d ≤ 60 := by
  obtain ⟨h1, h2⟩ := h
  have s1 : sum [(⟨t, k, r, d⟩ : Ent)] = t.size := by
    unfold sum
    simp
  rw [sum_app, s1] at h1
  have p1 := size_pos t
  have p2 := deep_pos t
  have h3 := h2 ⟨t, k, r, d⟩ (List.mem_append.mpr (.inr (List.mem_singleton.mpr rfl)))
  have h4 : d + t.deep ≤ 61 := h3
  omega
theorem cut_one (x : V) (r : List V) : cutV (x :: r) (some 1) none = r := by
  unfold cutV
  have e1 : HT.sIx (x :: r).length 0 (some 1) = 1 := by
    rw [show HT.sIx (x :: r).length 0 (some 1) = min 1 (x :: r).length from HT.sIx_nat _ 0 1, List.length_cons]
    omega
  rw [e1, HT.sIx_none]
  show List.take ((x :: r).length - 1) r = r
  rw [List.length_cons, Nat.add_sub_cancel]
  exact List.take_length
theorem cut_not (x : V) (r : List V) : ¬ (HT.sIx (x :: r).length 0 (some 1) = 0 ∧ HT.sIx (x :: r).length (x :: r).length none = (x :: r).length) := by
  intro h
  have e1 : HT.sIx (x :: r).length 0 (some 1) = 1 := by
    rw [show HT.sIx (x :: r).length 0 (some 1) = min 1 (x :: r).length from HT.sIx_nat _ 0 1, List.length_cons]
    omega
  rw [e1] at h
  exact absurd h.1 (by decide)
theorem line_of {n : Nat} (h : n ≤ 8192) : n < sizeLine := Nat.lt_of_le_of_lt h (by decide)
theorem tbl_tups {PT : Addr} {H H' : Hp} (h : GxR.TabG H PT) (b : But PT H H') : Tups H H' := fun c xs e => b c _ (fun z => by
  obtain ⟨ps, h1, _⟩ := h
  rw [z, h1] at e
  cases e) e
theorem but_tabbed {PT : Addr} {H H' : Hp} (t : GxR.Tabbed PT H H') : But PT H H' := fun c o n e => by
  rw [t.2 c n]
  exact e
theorem TabG.ne {PT p : Addr} {H : Hp} {o : HO} (h : GxR.TabG H PT) (e : H p = some o) (n : ∀ ps, o ≠ .tbl ps) : p ≠ PT := fun z => by
  obtain ⟨ps, h1, _⟩ := h
  rw [← z, e] at h1
  exact n ps (Option.some.inj h1)
theorem TabG.new {PT p : Addr} {H : Hp} (h : GxR.TabG H PT) (e : H p = none) : PT ≠ p := fun z => by
  obtain ⟨ps, h1, _⟩ := h
  rw [z, e] at h1
  cases h1
theorem TabG.keep {PT p : Addr} {H : Hp} {o : HO} (h : GxR.TabG H PT) (n : PT ≠ p) : GxR.TabG (upd H p o) PT := by
  obtain ⟨ps, h1, h2⟩ := h
  exact ⟨ps, by rw [upd_ne n]; exact h1, h2⟩
section
variable {P : Program} {w : World} {K : PySem.W.Frag} {mg : Str → Option Value} {base : Heap} {L B FV : Addr}
def spMade (PT : Addr) : Sp := fun vs H Q _ => ∃ (v : V) (k : Str) (s : Int) (t : Tr), vs = [v, .str k, .int s] ∧ At H t v ∧ t.Wb k s ∧ t.size ≤ 6000 ∧ GxR.TabG H PT ∧
  ∀ H', But PT H H' → GxR.TabG H' PT → Q (.bl (decide (t.size ≤ 400 ∧ t.deep ≤ 60))) H'
structure TurnM (sl : Int) (PT : Addr) (H H' : Hp) (pt : Addr) (t : Tr) (c m : Nat) (es : List Ent) (vt : List V) : Prop where
  but : But PT H H'
  tab : GxR.TabG H' PT
  lt : H' pt = some (.lst vt)
  rt : All2 (EntAt H') es vt
  wf : ∀ e ∈ es, e.t.Wb e.k ((e.r : Int) + sl)
  good : Good c es ↔ (t.size ≤ 400 ∧ t.deep ≤ 60)
  tot : c + sum es = t.size
  few : c ≤ 400
  m : m = sum es
theorem ok_made {f g b : Addr} {fd gd bd : FuncData} {PT : Addr} (F : Fun K "is_made" "is_made" sMade f fd) (T : Txt K w mg L B FV)
    (G : FnOk P w K mg base CX0 4 g gd ["piece", "kind", "bounds"] (spForm PT)) (bG : Binds K gd ["piece", "kind", "bounds"] []) (kG : PySem.W.keepIn K (.ref g) = true) (mG : mg "has_form" = some (.ref g))
    (N : FnOk P w K mg base CX0 1 b bd ["piece", "around"] spBeneath) (bN : Binds K bd ["piece", "around"] []) (kN : PySem.W.keepIn K (.ref b) = true) (mN : mg "beneath" = some (.ref b)) : FnOk P w K mg base CX0 5 f fd ["thing", "kind", "slack"] (spMade PT) := by
  obtain ⟨es0, n0, D⟩ := T.dict
  obtain ⟨tp, mP⟩ := T.pieces
  obtain ⟨tw, mW⟩ := T.within
  refine F.ok scMade (fun vs H Q E h => ?_) (fun cdv A outer s H vs Q E hr h => ?_)
  · obtain ⟨v, k, s, t, rfl, _⟩ := h
    rfl
  obtain ⟨v, k, sl, t, rfl, hA, hW, hsz, hT, q⟩ := h
  have h1 : Room 1 _ := hr.mono (by decide)
  refine ⟨_, pss_cons (ps_set (i := 3) scMade.nd rfl (.inl rfl) pe_int)
    (pss_cons (ps_set (i := 4) scMade.nd rfl (.inl rfl) (pe_lst (pa_cons (pe_tup (pa_cons (pv 0) (pa_cons (pv 1) (pa_cons pe_int (pa_cons pe_int pa_nil))))) pa_nil)))
    (pss_cons (ps_while PassesOwn.never (pt_truth (pv 4) (by intro _; rfl))
      (pss_cons (ps_asg (pe_bm0 PySem.F.plainAttrs_list PySem.F.slot_list_pop PySem.F.type_list_pop mt_pop (pv 4)) (pg_tup (by rfl) (pgs_cons (pg_name (i := 5) scMade.nd rfl (.inl rfl)) (pgs_cons (pg_name (i := 6) scMade.nd rfl (.inl rfl)) (pgs_cons (pg_name (i := 7) scMade.nd rfl (.inl rfl)) (pgs_cons (pg_name (i := 8) scMade.nd rfl (.inl rfl)) pgs_nil))))))
      (pss_cons (ps_aug (i := 3) scMade.nd rfl (.inl rfl) pe_int ip_add)
      (pss_cons (ps_if (PW.pt (pw_or (pt_cmpR op_gt (pv 3) (pe_glob (v := .int 400) (by rfl) mP ⟨_, rfl⟩) (nomark _)) (pw_or1 (pt_cmpR op_gt (pv 8) (pe_glob (v := .int 60) (by rfl) mW ⟨_, rfl⟩) (nomark _))))) (pss_one (ps_ret pe_bl)) pss_nil)
      (pss_cons (ps_if (pt_not (pt_val (pe_call G hr (by rfl) mG kG bG .nil pass0 (pa_cons (pv 5) (pa_cons (pv 6) (pa_cons (pe_op op_add (pv 7) (pv 2)) pa_nil)))))) (pss_one (ps_ret pe_bl)) pss_nil)
      (pss_one (ps_if (pt_cmpR op_notIn_seq (pe_ix ix_tup (pv 5) pe_int (fun _ _ => rfl)) (pe_glob (v := .ref L) (by rfl) T.mL rfl) (by rfl))
        (pss_cons (ps_set (i := 9) scMade.nd rfl (.inl rfl) (pe_call N h1 (by rfl) mN kN bN .nil pass0 (pa_cons (pv 5) (pa_cons (pv 7) pa_nil))))
        (pss_one (ps_for PassesOwn.never rfl (pi_zipA (by rfl) T.zZip (pa_cons (pe_slice sl_tup (pv 5) (po_some pe_int) po_none) (pa_cons (pe_ix ix_tup (pe_ix ix_kdict (pe_glob (v := .ref FV) (by rfl) T.mF rfl) (pe_ix ix_tup (pv 5) pe_int (fun _ _ => rfl)) (fun _ _ => rfl)) pe_int (fun _ _ => rfl)) pa_nil)))
          (pg_tup (by rfl) (pgs_cons (pg_name (i := 10) scMade.nd rfl (.inl rfl)) (pgs_cons (pg_name (i := 11) scMade.nd rfl (.inl rfl)) pgs_nil)))
          (pss_one (ps_expr (pe_bm PySem.F.plainAttrs_list PySem.F.slot_list_append PySem.F.type_list_append mt_append (pv 4) (pa_cons (pe_tup (pa_cons (pv 10) (pa_cons (pv 11) (pa_cons (pv 9) (pa_cons (pe_op op_add (pv 8) pe_int) pa_nil))))) pa_nil)))))))
        pss_nil)))))))
    (pss_one (ps_ret pe_bl)))), ?_⟩
  refine ⟨_, rfl, _, rfl, (by show 4 ≤ sizeLine; decide), fun q0 nq => ?_⟩
  refine ⟨(by show 1 ≤ sizeLine; decide), fun pt nt => ?_⟩
  have s1 : Same H (upd H q0 (.tup [v, .str k, .int 0, .int 1])) := same_new nq
  have s2 := same_put (o := .lst [.ref q0]) s1 nt
  have fresh : H pt = none := s1.free nt
  have nqt : q0 ≠ pt := fun z => by
    rw [← z, upd_same] at nt
    cases nt
  have tab0 : GxR.TabG (upd (upd H q0 (.tup [v, .str k, .int 0, .int 1])) pt (.lst [.ref q0])) PT := by
    obtain ⟨ps, e1, e2⟩ := hT
    exact ⟨ps, s2 _ _ e1, e2⟩
  refine ⟨fun m σ H' => ∃ (c : Nat) (es : List Ent) (vt : List V) (y5 y6 y7 y8 y9 y10 y11 : Option V), σ = [some v, some (.str k), some (.int sl), some (.int (c : Int)), some (.ref pt), y5, y6, y7, y8, y9, y10, y11] ∧ TurnM sl PT H H' pt t c m es vt,
    ⟨_, 0, [⟨t, k, 0, 1⟩], [.ref q0], none, none, none, none, none, none, none, rfl, ⟨but_same s2, tab0, upd_same, .one ⟨q0, v, rfl, ?_, hA.keep (tups_same s2)⟩, fun e he => by rw [List.mem_singleton.mp he]; show t.Wb k (((0 : Nat) : Int) + sl); rw [show (((0 : Nat) : Int) + sl) = sl from Int.zero_add sl]; exact hW, ?_, ?_, by decide, rfl⟩⟩, fun m σ H1 hI => ?_⟩
  · rw [upd_ne nqt, upd_same]
    rfl
  · unfold Good
    rw [show sum [(⟨t, k, 0, 1⟩ : Ent)] = t.size by unfold sum; simp]
    constructor
    · rintro ⟨g1, g2⟩
      have g3 : 1 + t.deep ≤ 61 := g2 ⟨t, k, 0, 1⟩ (List.mem_singleton.mpr rfl)
      omega
    · rintro ⟨g1, g2⟩
      refine ⟨by omega, fun e he => ?_⟩
      rw [List.mem_singleton.mp he]
      show 1 + t.deep ≤ 61
      omega
  · rw [show sum [(⟨t, k, 0, 1⟩ : Ent)] = t.size by unfold sum; simp]
    omega
  obtain ⟨c, es, vt, y5, y6, y7, y8, y9, y10, y11, rfl, W⟩ := hI
  refine ⟨_, rfl, !vt.isEmpty, .inl ⟨vt, .inl (.inl W.lt), rfl⟩, ?_⟩
  rcases List.eq_nil_or_concat vt with en | ⟨vt0, y, en⟩
  · subst en
    refine iteF ?_
    have ee : es = [] := List.length_eq_zero_iff.mp W.rt.len
    subst ee
    have yes : t.size ≤ 400 ∧ t.deep ≤ 60 := W.good.1 ⟨by rw [show sum [] = 0 from rfl]; exact W.few, fun e he => (List.not_mem_nil he).elim⟩
    have r := q H1 W.but W.tab
    rw [decide_eq_true yes] at r
    exact r
  · rw [List.concat_eq_append] at en
    subst en
    rw [show (!(vt0 ++ [y]).isEmpty) = true by simp]
    refine iteT ?_
    obtain ⟨es1, ⟨t1, k1, r1, d1⟩, rfl, rt0, ⟨q1, x1, rfl, hq1, a1⟩⟩ := W.rt.last
    have hq1' : H1 q1 = some (.tup [x1, .str k1, .int (r1 : Int), .int (d1 : Int)]) := hq1
    have wf1 : t1.Wb k1 ((r1 : Int) + sl) := W.wf ⟨t1, k1, r1, d1⟩ (List.mem_append.mpr (.inr (List.mem_singleton.mpr rfl)))
    have no : ¬ (c + 1 ≤ 400 ∧ d1 ≤ 60) → decide (t.size ≤ 400 ∧ t.deep ≤ 60) = false := fun z => decide_eq_false fun g => z (good_out (W.good.2 g))
    have tot := W.tot
    rw [sum_app, show sum [(⟨t1, k1, r1, d1⟩ : Ent)] = t1.size by unfold sum; simp] at tot
    have em := W.m
    rw [sum_app, show sum [(⟨t1, k1, r1, d1⟩ : Ent)] = t1.size by unfold sum; simp] at em
    refine ⟨fun σ' H' => ∃ m', m' < m ∧ ∃ (c : Nat) (es : List Ent) (vt : List V) (y5 y6 y7 y8 y9 y10 y11 : Option V), σ' = [some v, some (.str k), some (.int sl), some (.int (c : Int)), some (.ref pt), y5, y6, y7, y8, y9, y10, y11] ∧ TurnM sl PT H H' pt t c m' es vt,
      fun σ' H' h => h, ?_⟩
    refine ⟨_, rfl, .inl ⟨rfl, _, .inl (.inl W.lt)⟩, pt, _, .ref q1, rfl, rfl, W.lt, by simp, ?_⟩
    rw [List.dropLast_concat]
    have k2 : Tups H1 (upd H1 pt (.lst vt0)) := tups_put fun xs z => by
      rw [W.lt] at z
      cases z
    have nPt : PT ≠ pt := fun z => TabG.ne W.tab W.lt (fun ps z => by cases z) z.symm
    have b2 : But PT H (upd H1 pt (.lst vt0)) := fun a o n e => by
      rw [upd_ne (ne_of_none e fresh)]
      exact W.but _ _ n e
    have tab2 : GxR.TabG (upd H1 pt (.lst vt0)) PT := TabG.keep W.tab nPt
    have lt2 : (upd H1 pt (.lst vt0)) pt = some (.lst vt0) := upd_same
    generalize upd H1 pt (.lst vt0) = H2 at k2 b2 tab2 lt2
    refine ⟨q1, [x1, .str k1, .int (r1 : Int), .int (d1 : Int)], rfl, .inl (.inl (k2 _ _ hq1')), rfl, x1, _, rfl, .str k1, _, rfl, .int (r1 : Int), _, rfl, .int (d1 : Int), [], rfl, rfl, ?_⟩
    -- pieces += 1
    refine ⟨_, rfl, _, _, rfl, rfl, ?_⟩
    -- too many, too far within
    refine ⟨_, rfl, _, _, rfl, rfl, _, rfl, ?_⟩
    refine ite2 (fun c1 => ?_) (fun c1 => ?_)
    · have z : (c : Int) + 1 > 400 := of_decide_eq_true c1
      have r := q H2 b2 tab2
      rw [no (by omega)] at r
      exact iteT r
    have c1' : ¬ (c : Int) + 1 > 400 := fun z => c1 (decide_eq_true z)
    refine ⟨_, rfl, _, _, rfl, rfl, _, rfl, ?_⟩
    refine ite2 (fun c2 => ?_) (fun c2 => ?_)
    · have z : (d1 : Int) > 60 := of_decide_eq_true c2
      have r := q H2 b2 tab2
      rw [no (by omega)] at r
      exact r
    have c2' : ¬ (d1 : Int) > 60 := fun z => c2 (decide_eq_true z)
    -- has_form
    have a2 : At H2 t1 x1 := At.keep k2 a1
    refine ⟨_, rfl, _, rfl, _, rfl, _, rfl, _, _, rfl, rfl, x1, k1, _, t1, rfl, a2, wf1, tab2, fun H3 tb => ⟨_, rfl, ?_⟩⟩
    refine iteF ?_
    have b3 := but_tabbed tb
    have k3 := tbl_tups tab2 b3
    have lt3 : H3 pt = some (.lst vt0) := b3 _ _ (Ne.symm nPt) lt2
    have bb3 := b2.trans b3
    have a3 : At H3 t1 x1 := At.keep k3 a2
    have rt3 : All2 (EntAt H3) es1 vt0 := rt0.mono (EntAt.keep (k2.trans k3))
    obtain ⟨p1, us, rfl, hp1, _, kids, leafs⟩ := a3.view (wb_ok wf1)
    have wfs : ∀ e ∈ es1, e.t.Wb e.k ((e.r : Int) + sl) := fun e he => W.wf e (List.mem_append.mpr (.inl he))
    refine ⟨_, rfl, p1, _, 0, _, rfl, rfl, .inl (.inl hp1), head_at _ _, L, leafVs, rfl, .inr (T.leaf H3), rfl, rfl, _, rfl, ?_⟩
    show if (!leafy t1.word) = true then _ else _
    have ec : ((c : Nat) : Int) + 1 = ((c + 1 : Nat) : Int) := rfl
    have sz1 := size_kids t1
    cases hl : leafy t1.word with
    | true =>
      refine iteF ?_
      obtain ⟨x, et, _⟩ := leafs hl
      have noK : t1.kids = [] := by
        rw [et]
        rfl
      have gs := good_step (c := c) (d := d1) (r := r1) (es := es1) (t := t1) (k := k1) (ks := []) (r2 := 0) (by omega) (by rw [noK]; rfl)
      rw [noK] at gs sz1
      have s1 : t1.size = 1 := sz1
      rw [show ents [] [] 0 (d1 + 1) = [] from rfl, List.append_nil] at gs
      exact ⟨sum es1, by omega, c + 1, es1, vt0, _, _, _, _, y9, y10, y11, rfl, ⟨bb3, tb.1, lt3, rt3, wfs, gs.symm.trans W.good, by omega, by omega, rfl⟩⟩
    | false =>
      refine iteT ?_
      have kd := kids hl
      obtain ⟨ks, row, pr⟩ := wb_row wf1 hl
      obtain ⟨fa, fb, e1, e2, e3⟩ := T.form _ _ _ row
      have len1 := kd.len
      have len2 := pr.len
      refine ⟨_, rfl, _, rfl, p1, t1.word, us, r1, rfl, hp1, ?_⟩
      refine ⟨_, rfl, 1, rfl, p1, _, rfl, .inl (.inl hp1), cut_not _ _, fun z nz => ?_⟩
      rw [cut_one]
      have k4 : Tups H3 (upd H3 z (.tup us)) := tups_same (same_new nz)
      have hp4 := k4 _ _ hp1
      refine ⟨_, rfl, p1, _, 0, _, rfl, rfl, .inl (.inl hp4), head_at _ _, FV, _, .ref fa, rfl, rfl, ⟨es0, n0, _, D.at_, D.lit, e1, rfl⟩, fa, _, 1, .ref fb, rfl, rfl, e2 _, atI_nat (j := 1) rfl, ?_⟩
      have nzt : z ≠ pt := fun e => by
        rw [e, lt3] at nz
        cases nz
      have gs := good_step (c := c) (d := d1) (r := r1) (es := es1) (t := t1) (k := k1) (ks := ks) (r2 := inner t1.word r1) (by omega) len2
      have sumK := ents_sum (inner t1.word r1) (d1 + 1) t1.kids ks len2
      refine ⟨z, fb, us, ks.map V.str, rfl, .inr ⟨.inl (.inl upd_same), e3 _, ?_⟩⟩
      refine for_zipT (K := K) (xs := us) (ys := ks.map V.str) (by rw [List.length_map]; omega) (fun i σ' H' => ∃ (vt : List V) (y10 y11 : Option V), σ' = [some v, some (.str k), some (.int sl), some (.int ((c + 1 : Nat) : Int)), some (.ref pt), some (.ref p1), some (.str k1), some (.int (r1 : Int)), some (.int (d1 : Int)), some (.int (inner t1.word r1 : Nat)), y10, y11] ∧
          But PT H H' ∧ GxR.TabG H' PT ∧ Tups (upd H3 z (.tup us)) H' ∧ H' pt = some (.lst vt) ∧ All2 (EntAt H') (es1 ++ (ents t1.kids ks (inner t1.word r1) (d1 + 1)).take i) vt)
        ⟨vt0, y10, y11, rfl, bb3.new nz, TabG.keep tb.1 (TabG.new tb.1 nz), Tups.refl _, (by rw [upd_ne nzt.symm]; exact lt3), ?_⟩ (fun i σ' H' ⟨_, _, _, _, _, _, kt, _⟩ => ⟨.inl (.inl (kt _ _ upd_same)), e3 _⟩) ?_ ?_
      · rw [List.take_zero, List.append_nil]
        exact rt3.mono (EntAt.keep k4)
      · rintro i x yv T0 σ' H' hx hy ⟨vt, y10, y11, rfl, bt, tg, kt, gt, rr⟩ nT
        obtain ⟨tk, htk, hax⟩ := kd.get hx
        have hax' : At H' tk x := hax.keep (k4.trans kt)
        obtain ⟨kk, hkk, rfl⟩ : ∃ kk, ks[i]? = some kk ∧ yv = V.str kk := by
          rw [List.getElem?_map] at hy
          cases e : ks[i]? with
          | none =>
            rw [e] at hy
            cases hy
          | some kk =>
            rw [e] at hy
            exact ⟨kk, rfl, (Option.some.inj hy).symm⟩
        have hent : (ents t1.kids ks (inner t1.word r1) (d1 + 1))[i]? = some ⟨tk, kk, inner t1.word r1, d1 + 1⟩ := by
          unfold ents
          have hz : (t1.kids.zip ks)[i]? = some (tk, kk) := List.getElem?_zip_eq_some.mpr ⟨htk, hkk⟩
          rw [List.getElem?_map, hz]
          rfl
        have nTt : pt ≠ T0 := ne_of_none gt nT
        have bnd : vt.length ≤ 8192 := by
          have l1 := rr.len
          have l2 := sum_len es1
          have l3 := sum_len (ents t1.kids ks (inner t1.word r1) (d1 + 1))
          rw [List.length_append, List.length_take] at l1
          omega
        refine ⟨T0, [x, .str kk], rfl, .inl (.inl upd_same), rfl, x, _, rfl, .str kk, [], rfl, rfl, ?_⟩
        have gt2 : (upd H' T0 (.tup [x, .str kk])) pt = some (.lst vt) := by
          rw [upd_ne nTt]
          exact gt
        refine ⟨_, rfl, .inl ⟨rfl, _, .inl (.inl gt2)⟩, _, rfl, _, rfl, _, rfl, _, rfl, _, _, rfl, rfl, (by show 4 ≤ sizeLine; decide), fun q3 nq3 => ?_⟩
        have ntq3 : pt ≠ q3 := ne_of_none gt2 nq3
        refine ⟨pt, vt, .ref q3, rfl, rfl, (by rw [upd_ne ntq3]; exact gt2), line_of bnd, ?_⟩
        have k5 : Tups H' (upd (upd (upd H' T0 (.tup [x, .str kk])) q3 (.tup [x, .str kk, .int (inner t1.word r1 : Nat), .int ((d1 : Int) + 1)])) pt (.lst (vt ++ [.ref q3]))) := (tups_same (same_new nT)).trans ((tups_same (same_new nq3)).trans (tups_put fun xs z => by
          rw [upd_ne ntq3, gt2] at z
          cases z))
        refine ⟨vt ++ [.ref q3], some x, some (.str kk), rfl, fun b o n e => ?_, ?_, kt.trans k5, upd_same, ?_⟩
        · have nbt : b ≠ pt := ne_of_none e fresh
          have e5 := (But.new (o := .tup [x, .str kk]) bt nT) _ _ n e
          rw [upd_ne nbt, upd_ne (ne_of_none e5 nq3)]
          exact e5
        · have tg1 := TabG.keep (o := .tup [x, .str kk]) tg (TabG.new tg nT)
          exact TabG.keep (TabG.keep tg1 (TabG.new tg1 nq3)) nPt
        · rw [List.take_add_one, hent, ← List.append_assoc]
          refine (rr.mono (EntAt.keep k5)).app (.one ⟨q3, x, rfl, ?_, hax'.keep k5⟩)
          rw [upd_ne ntq3.symm, upd_same]
          rfl
      · rintro σ' H' ⟨vt, y10, y11, rfl, bt, tg, kt, gt, rr⟩
        have full : (ents t1.kids ks (inner t1.word r1) (d1 + 1)).length = us.length := by
          unfold ents
          rw [List.length_map, List.length_zip]
          omega
        rw [← full, List.take_length] at rr
        refine ⟨_, ?_, c + 1, es1 ++ ents t1.kids ks (inner t1.word r1) (d1 + 1), vt, _, _, _, _, _, y10, y11, rfl, ⟨bt, tg, gt, rr, fun e he => ?_, gs.symm.trans W.good, ?_, by omega, rfl⟩⟩
        · rw [sum_app, sumK]
          omega
        · rcases List.mem_append.mp he with z | z
          · exact wfs e z
          · obtain ⟨pq, hp, rfl⟩ := List.mem_map.mp z
            obtain ⟨i, hi, ez⟩ := List.getElem_of_mem hp
            have hz : (t1.kids.zip ks)[i]? = some pq := by
              rw [List.getElem?_eq_getElem hi, ez]
            obtain ⟨z1, z2⟩ := List.getElem?_zip_eq_some.mp hz
            obtain ⟨a, ha, wfa⟩ := pr.get z2
            rw [z1] at ha
            cases ha
            have z2 := wfa
            rw [up_inner] at z2
            exact z2
        · rw [sum_app, sumK]
          omega
/-! ### is_saying, is_body -/
def spQ (k : Str) (sl : Int) (PT : Addr) : Sp := fun vs H Q _ => ∃ (v : V) (t : Tr), vs = [v] ∧ At H t v ∧ t.Wb k sl ∧ t.size ≤ 6000 ∧ GxR.TabG H PT ∧ ∀ H', But PT H H' → GxR.TabG H' PT → Q (.bl (decide (t.size ≤ 400 ∧ t.deep ≤ 60))) H'
theorem ok_sayingQ {f g : Addr} {fd gd : FuncData} {PT : Addr} (F : Fun K "is_saying" "is_saying" sSayingQ f fd) (G : FnOk P w K mg base CX0 5 g gd ["thing", "kind", "slack"] (spMade PT)) (bG : Binds K gd ["thing", "kind", "slack"] []) (kG : PySem.W.keepIn K (.ref g) = true) (mG : mg "is_made" = some (.ref g)) :
    FnOk P w K mg base CX0 6 f fd ["thing"] (spQ kS 0 PT) := by
  refine F.ok scSayingQ (fun vs H Q E h => ?_) (fun cdv A outer s H vs Q E hr h => ?_)
  · obtain ⟨v, t, rfl, _⟩ := h
    rfl
  obtain ⟨v, t, rfl, hA, hW, hz, hT, q⟩ := h
  exact ⟨_, pss_one (ps_ret (pe_call G hr (by rfl) mG kG bG .nil pass0 (pa_cons (pv 0) (pa_cons pe_str (pa_cons pe_int pa_nil))))), ⟨_, rfl, v, kS, 0, t, rfl, hA, hW, hz, hT, q⟩⟩
end
end Kf
set_option Elab.async false
set_option linter.all false
set_option maxRecDepth 100000
set_option maxHeartbeats 4000000
set_option pp.maxSteps 400
/-! k06, k07: pieces_of. -/
namespace Kf
open PySem PySem.Spec PyProof.Rows L2 Sx
abbrev sPieces : Stmt := top 6
theorem scPieces : FnScope ["thing", "found", "todo", "piece", "around", "inner", "part"] ["thing"] (defScope sPieces) := ⟨rfl, rfl, rfl, by decide +kernel, rfl, by decide +kernel, by decide +kernel⟩
/-! ### rows: a tree and how many stand around it -/
def Row (H : Hp) (e : Tr × Nat) (v : V) : Prop := ∃ q x, v = .ref q ∧ H q = some (.tup [x, .int (e.2 : Int)]) ∧ At H e.1 x
theorem Row.keep {H H' : Hp} (k : Tups H H') (e : Tr × Nat) (v : V) (h : Row H e v) : Row H' e v := by
  obtain ⟨q, x, e1, e2, a⟩ := h
  exact ⟨q, x, e1, k _ _ e2, a.keep k⟩
def visits (es : List (Tr × Nat)) : List (Tr × Nat) := es.reverse.flatMap fun e => (e.1.post e.2).reverse
theorem visits_last (es : List (Tr × Nat)) (e : Tr × Nat) : visits (es ++ [e]) = (e.1.post e.2).reverse ++ visits es := by
  unfold visits
  rw [List.reverse_append, List.reverse_singleton, List.singleton_append, List.flatMap_cons]
theorem visits_kids (r : Nat) : ∀ (ks : List Tr) (es : List (Tr × Nat)), visits (es ++ ks.map fun k => (k, r)) = (ks.flatMap fun a => a.post r).reverse ++ visits es
  | [], es => by simp
  | k :: ks, es => by
    rw [List.map_cons, show es ++ (k, r) :: ks.map (fun k => (k, r)) = (es ++ [(k, r)]) ++ ks.map (fun k => (k, r)) by simp, visits_kids r ks, visits_last, List.flatMap_cons, List.reverse_append, List.append_assoc]
theorem visits_step (es : List (Tr × Nat)) (t : Tr) (r : Nat) : visits (es ++ [(t, r)]) = (t, r) :: visits (es ++ t.kids.map fun k => (k, inner t.word r)) := by
  rw [visits_last, visits_kids]
  show (t.post r).reverse ++ visits es = _
  rw [post_kids, List.reverse_append, List.reverse_singleton]
  rfl
theorem post_pos (t : Tr) (r : Nat) : 1 ≤ (t.post r).length := by
  rw [post_kids, List.length_append]
  exact Nat.le_add_left _ _
theorem flat_len {α β : Type} (g : α → List β) (h : ∀ a, 1 ≤ (g a).length) : ∀ l : List α, l.length ≤ (l.flatMap g).length
  | [] => Nat.zero_le _
  | a :: l => by
    have h1 := flat_len g h l
    have h2 := h a
    rw [List.flatMap_cons, List.length_append, List.length_cons]
    omega
theorem visits_len (es : List (Tr × Nat)) : es.length ≤ (visits es).length := by
  have h := flat_len (fun (e : Tr × Nat) => (e.1.post e.2).reverse) (fun e => by rw [List.length_reverse]; exact post_pos e.1 e.2) es.reverse
  rw [List.length_reverse] at h
  exact h
section
variable {P : Program} {w : World} {K : PySem.W.Frag} {mg : Str → Option Value} {base : Heap} {L B FV : Addr}
def spPieces : Sp := fun vs H Q _ => ∃ (v : V) (t : Tr), vs = [v] ∧ At H t v ∧ t.Ok ∧ t.size ≤ 6000 ∧
  ∀ (p : Addr) (H' : Hp) (vf : List V), Same H H' → H p = none → H' p = some (.lst vf) → All2 (Row H') (t.post 0) vf → Q (.ref p) H'
/-- between two turns -/
structure Turn (H H' : Hp) (pf pt : Addr) (all : List (Tr × Nat)) (m : Nat) (ef es : List (Tr × Nat)) (vf vt : List V) : Prop where
  same : Same H H'
  lf : H' pf = some (.lst vf)
  lt : H' pt = some (.lst vt)
  rf : All2 (Row H') ef vf
  rt : All2 (Row H') es vt
  sum : ef ++ visits es = all
  ok : ∀ e ∈ es, e.1.Ok
  m : m = (visits es).length
theorem ok_pieces {f g : Addr} {fd gd : FuncData} (F : Fun K "pieces_of" "pieces_of" sPieces f fd) (T : Txt K w mg L B FV) (G : FnOk P w K mg base CX0 1 g gd ["piece", "around"] spBeneath) (bG : Binds K gd ["piece", "around"] []) (kG : PySem.W.keepIn K (.ref g) = true) (mG : mg "beneath" = some (.ref g)) :
    FnOk P w K mg base CX0 2 f fd ["thing"] spPieces := by
  refine F.ok scPieces (fun vs H Q E h => ?_) (fun cdv A outer s H vs Q E hr h => ?_)
  · obtain ⟨v, t, rfl, _⟩ := h
    rfl
  obtain ⟨v, t, rfl, hA, hO, hd, q⟩ := h
  refine ⟨_, pss_cons (ps_set (i := 1) scPieces.nd rfl (.inl rfl) (pe_lst pa_nil))
    (pss_cons (ps_set (i := 2) scPieces.nd rfl (.inl rfl) (pe_lst (pa_cons (pe_tup (pa_cons (pv 0) (pa_cons pe_int pa_nil))) pa_nil)))
    (pss_cons (ps_while PassesOwn.never (pt_truth (pv 2) (by intro _; rfl))
      (pss_cons (ps_asg (pe_bm0 PySem.F.plainAttrs_list PySem.F.slot_list_pop PySem.F.type_list_pop mt_pop (pv 2)) (pg_tup (by rfl) (pgs_cons (pg_name (i := 3) scPieces.nd rfl (.inl rfl)) (pgs_cons (pg_name (i := 4) scPieces.nd rfl (.inl rfl)) pgs_nil))))
      (pss_cons (ps_expr (pe_bm PySem.F.plainAttrs_list PySem.F.slot_list_append PySem.F.type_list_append mt_append (pv 1) (pa_cons (pe_tup (pa_cons (pv 3) (pa_cons (pv 4) pa_nil))) pa_nil)))
      (pss_one (ps_if (pt_cmpR op_notIn_seq (pe_ix ix_tup (pv 3) pe_int (fun _ _ => rfl)) (pe_glob (v := .ref L) (by rfl) T.mL rfl) (by rfl))
        (pss_cons (ps_set (i := 5) scPieces.nd rfl (.inl rfl) (pe_call G hr (by rfl) mG kG bG .nil pass0 (pa_cons (pv 3) (pa_cons (pv 4) pa_nil))))
        (pss_one (ps_for PassesOwn.never rfl (pi_tup (pe_slice sl_tup (pv 3) (po_some pe_int) po_none)) (pg_name (i := 6) scPieces.nd rfl (.inl rfl))
          (pss_one (ps_expr (pe_bm PySem.F.plainAttrs_list PySem.F.slot_list_append PySem.F.type_list_append mt_append (pv 2) (pa_cons (pe_tup (pa_cons (pv 6) (pa_cons (pv 5) pa_nil))) pa_nil)))))))
        pss_nil)))))
    (pss_cons (ps_expr (pe_bm0 PySem.F.plainAttrs_list PySem.F.slot_list_reverse PySem.F.type_list_reverse mt_reverse (pv 1)))
    (pss_one (ps_ret (pv 1)))))), ?_⟩
  refine ⟨Nat.zero_le _, fun pf nf => ?_⟩
  refine ⟨_, rfl, (by show 2 ≤ sizeLine; decide), fun q0 nq => ?_⟩
  refine ⟨(by show 1 ≤ sizeLine; decide), fun pt nt => ?_⟩
  have s1 : Same H (upd H pf (.lst [])) := same_new nf
  have s2 := same_put (o := .tup [v, .int 0]) s1 nq
  have s3 := same_put (o := .lst [.ref q0]) s2 nt
  have nft : pf ≠ pt := fun z => by
    rw [← z, upd_ne (fun z2 => by rw [z2, upd_same] at nq; cases nq), upd_same] at nt
    cases nt
  have nfq : pf ≠ q0 := fun z => by
    rw [← z, upd_same] at nq
    cases nq
  have nqt : q0 ≠ pt := fun z => by
    rw [← z, upd_same] at nt
    cases nt
  have big : ∀ (ef es : List (Tr × Nat)), ef ++ visits es = (t.post 0).reverse → ef.length + es.length ≤ 6000 := fun ef es e => by
    have l1 := congrArg List.length e
    rw [List.length_append, List.length_reverse, post_len] at l1
    have l2 := visits_len es
    have l3 := size_deep t
    have l4 : t.size ≤ 6000 := hd
    omega
  refine ⟨fun m σ H' => ∃ (ef es : List (Tr × Nat)) (vf vt : List V) (y3 y4 y5 y6 : Option V), σ = [some v, some (.ref pf), some (.ref pt), y3, y4, y5, y6] ∧ Turn H H' pf pt (t.post 0).reverse m ef es vf vt,
    ⟨_, [], [(t, 0)], [], [.ref q0], none, none, none, none, rfl, ⟨s3, ?_, upd_same, .nil, .one ⟨q0, v, rfl, ?_, hA.keep (tups_same s3)⟩, ?_, fun e he => by rw [List.mem_singleton.mp he]; exact hO, rfl⟩⟩, fun m σ H1 hW => ?_⟩
  · rw [upd_ne nft, upd_ne nfq, upd_same]
  · rw [upd_ne nqt, upd_same]
    rfl
  · show visits [(t, 0)] = _
    unfold visits
    simp
  obtain ⟨ef, es, vf, vt, y3, y4, y5, y6, rfl, W⟩ := hW
  refine ⟨_, rfl, !vt.isEmpty, .inl ⟨vt, .inl (.inl W.lt), rfl⟩, ?_⟩
  rcases List.eq_nil_or_concat vt with en | ⟨vt0, y, en⟩
  · subst en
    refine iteF ?_
    have ee : es = [] := by
      have l := W.rt.len
      exact List.length_eq_zero_iff.mp l
    subst ee
    have e2 : ef = (t.post 0).reverse := by
      have e3 := W.sum
      rw [show visits [] = [] from rfl, List.append_nil] at e3
      exact e3
    refine ⟨_, rfl, .inl ⟨rfl, _, .inl (.inl W.lf)⟩, pf, vf, rfl, rfl, W.lf, ?_⟩
    refine ⟨_, rfl, q pf _ vf.reverse (fun b u e => ?_) nf upd_same ?_⟩
    · rw [upd_ne (ne_of_none e nf)]
      exact W.same _ _ e
    · have r1 := W.rf.rev
      rw [e2, List.reverse_reverse] at r1
      exact r1.mono fun e v h => Row.keep (tups_put fun xs z => by rw [W.lf] at z; cases z) e v h
  · rw [List.concat_eq_append] at en
    subst en
    rw [show (!(vt0 ++ [y]).isEmpty) = true by simp]
    refine iteT ?_
    obtain ⟨es0, ⟨t1, r1⟩, rfl, rt0, ⟨q1, x1, rfl, h1, a1⟩⟩ := W.rt.last
    have ok1 : t1.Ok := W.ok _ (List.mem_append.mpr (.inr (List.mem_singleton.mpr rfl)))
    refine ⟨fun σ' H' => ∃ m', m' < m ∧ ∃ (ef es : List (Tr × Nat)) (vf vt : List V) (y3 y4 y5 y6 : Option V), σ' = [some v, some (.ref pf), some (.ref pt), y3, y4, y5, y6] ∧ Turn H H' pf pt (t.post 0).reverse m' ef es vf vt,
      fun σ' H' h => h, ?_⟩
    -- piece, around = todo.pop()
    refine ⟨_, rfl, .inl ⟨rfl, _, .inl (.inl W.lt)⟩, pt, _, .ref q1, rfl, rfl, W.lt, by simp, ?_⟩
    rw [List.dropLast_concat]
    have nqt1 : q1 ≠ pt := ne_of h1 W.lt (by intro z; cases z)
    have k2 : Tups H1 (upd H1 pt (.lst vt0)) := tups_put fun xs z => by
      rw [W.lt] at z
      cases z
    refine ⟨q1, [x1, .int (r1 : Int)], rfl, .inl (.inl (k2 _ _ h1)), rfl, x1, [.int (r1 : Int)], rfl, .int (r1 : Int), [], rfl, rfl, ?_⟩
    -- found.append((piece, around))
    have lf2 : (upd H1 pt (.lst vt0)) pf = some (.lst vf) := by
      rw [upd_ne nft]
      exact W.lf
    have bigN := big ef (es0 ++ [(t1, r1)]) W.sum
    rw [List.length_append, List.length_singleton] at bigN
    refine ⟨_, rfl, .inl ⟨rfl, _, .inl (.inl lf2)⟩, _, rfl, _, rfl, (by show 2 ≤ sizeLine; decide), fun q2 nq2 => ?_⟩
    have nfq2 : pf ≠ q2 := ne_of_none lf2 nq2
    have ntq2 : pt ≠ q2 := ne_of_none (show (upd H1 pt (.lst vt0)) pt = _ from upd_same) nq2
    refine ⟨pf, vf, .ref q2, rfl, rfl, (by rw [upd_ne nfq2]; exact lf2), line_of (by have := W.rf.len; omega), ?_⟩
    generalize hH2 : upd (upd (upd H1 pt (.lst vt0)) q2 (.tup [x1, .int (r1 : Int)])) pf (.lst (vf ++ [.ref q2])) = H2
    have k3 : Tups H1 H2 := by
      rw [← hH2]
      refine k2.trans ((tups_same (same_new nq2)).trans (tups_put fun xs z => ?_))
      rw [upd_ne nfq2, lf2] at z
      cases z
    have same2 : Same H H2 := fun b u e => by
      rw [← hH2, upd_ne (ne_of_none e nf)]
      have nbt : b ≠ pt := fun z => by
        have z2 := s2.free nt
        rw [← z, e] at z2
        cases z2
      have e2 : (upd H1 pt (.lst vt0)) b = some u := by
        rw [upd_ne nbt]
        exact W.same _ _ e
      rw [upd_ne (ne_of_none e2 nq2)]
      exact e2
    have lf3 : H2 pf = some (.lst (vf ++ [.ref q2])) := by
      rw [← hH2, upd_same]
    have lt3 : H2 pt = some (.lst vt0) := by
      rw [← hH2, upd_ne nft.symm, upd_ne ntq2, upd_same]
    have hq2 : H2 q2 = some (.tup [x1, .int (r1 : Int)]) := by
      rw [← hH2, upd_ne nfq2.symm, upd_same]
    have a3 : At H2 t1 x1 := At.keep k3 a1
    have rf3 : All2 (Row H2) (ef ++ [(t1, r1)]) (vf ++ [.ref q2]) := (W.rf.mono (Row.keep k3)).app (.one ⟨q2, x1, rfl, hq2, a3⟩)
    have rt3 : All2 (Row H2) es0 vt0 := rt0.mono (Row.keep k3)
    obtain ⟨p1, us, rfl, hp1, lus, kids, leafs⟩ := a3.view ok1
    have e0 := W.sum
    rw [visits_step] at e0
    have em := W.m
    rw [visits_step, List.length_cons] at em
    -- if piece[0] not in LEAVES
    refine ⟨_, rfl, p1, _, 0, _, rfl, rfl, .inl (.inl hp1), head_at _ _, L, leafVs, rfl, .inr (T.leaf H2), rfl, rfl, _, rfl, ?_⟩
    show if (!leafy t1.word) = true then _ else _
    cases hl : leafy t1.word with
    | true =>
      refine iteF ?_
      obtain ⟨x, et, _⟩ := leafs hl
      have noK : t1.kids = [] := by
        rw [et]
        rfl
      rw [noK] at e0 em
      rw [show es0 ++ ([] : List Tr).map (fun k => (k, inner t1.word r1)) = es0 by simp] at e0 em
      refine ⟨(visits es0).length, by omega, ef ++ [(t1, r1)], es0, _, vt0, _, _, y5, y6, rfl, ⟨same2, lf3, lt3, rf3, rt3, ?_, fun e he => W.ok e (List.mem_append.mpr (.inl he)), rfl⟩⟩
      rw [List.append_assoc]
      exact e0
    | false =>
      refine iteT ?_
      have kd := kids hl
      -- inner = beneath(piece, around)
      refine ⟨_, rfl, _, rfl, p1, t1.word, us, r1, rfl, hp1, ?_⟩
      -- piece[1:]
      refine ⟨_, rfl, 1, rfl, p1, _, rfl, .inl (.inl hp1), cut_not _ _, fun c nc => ?_⟩
      rw [cut_one]
      have k4 : Tups H2 (upd H2 c (.tup us)) := tups_same (same_new nc)
      have ncf : c ≠ pf := fun z => by
        rw [z, lf3] at nc
        cases nc
      have nct : c ≠ pt := fun z => by
        rw [z, lt3] at nc
        cases nc
      have len1 := kd.len
      refine ⟨c, rfl, ⟨_, .inl (.inl upd_same)⟩, for_tup (K := K) (a := c) (xs := us) (fun i σ' H' => ∃ (vt : List V) (y6 : Option V), σ' = [some v, some (.ref pf), some (.ref pt), some (.ref p1), some (.int (r1 : Int)), some (.int (inner t1.word r1 : Nat)), y6] ∧
          Same H H' ∧ Tups (upd H2 c (.tup us)) H' ∧ H' pf = some (.lst (vf ++ [.ref q2])) ∧ H' pt = some (.lst vt) ∧ All2 (Row H') (es0 ++ (t1.kids.take i).map fun k => (k, inner t1.word r1)) vt)
        ⟨vt0, y6, rfl, same_put same2 nc, Tups.refl _, (by rw [upd_ne ncf.symm]; exact lf3), (by rw [upd_ne nct.symm]; exact lt3), ?_⟩ (fun i σ' H' _ ⟨_, _, _, _, kt, _⟩ => .inl (.inl (kt _ _ upd_same))) ?_ ?_⟩
      · rw [show (t1.kids.take 0).map (fun k => (k, inner t1.word r1)) = [] by simp, List.append_nil]
        exact rt3.mono (Row.keep k4)
      · rintro i x σ' H' hx ⟨vt, y6', rfl, sm, kt, gf, gt, rr⟩
        obtain ⟨tk, htk, hax⟩ := kd.get hx
        have hax' : At H' tk x := hax.keep (k4.trans kt)
        have bnd : vt.length ≤ 8192 := by
          have l1 := rr.len
          have l2 : ((t1.kids.take i).map fun k => (k, inner t1.word r1)).length ≤ 2 := by
            rw [List.length_map, List.length_take]
            omega
          have l3 := big (ef ++ [(t1, r1)]) (es0 ++ t1.kids.map fun k => (k, inner t1.word r1)) (by rw [List.append_assoc]; exact e0)
          rw [List.length_append, List.length_append, List.length_map] at l3
          rw [List.length_append, List.length_map, List.length_take] at l1
          omega
        -- todo.append((part, inner))
        refine ⟨_, rfl, .inl ⟨rfl, _, .inl (.inl gt)⟩, _, rfl, _, rfl, (by show 2 ≤ sizeLine; decide), fun q3 nq3 => ?_⟩
        have ntq3 : pt ≠ q3 := ne_of_none gt nq3
        have nfq3 : pf ≠ q3 := ne_of_none gf nq3
        refine ⟨pt, vt, .ref q3, rfl, rfl, (by rw [upd_ne ntq3]; exact gt), line_of bnd, ?_⟩
        have k5 : Tups H' (upd (upd H' q3 (.tup [x, .int (inner t1.word r1 : Nat)])) pt (.lst (vt ++ [.ref q3]))) := (tups_same (same_new nq3)).trans (tups_put fun xs z => by
          rw [upd_ne ntq3, gt] at z
          cases z)
        refine ⟨vt ++ [.ref q3], some x, rfl, fun b u e => ?_, kt.trans k5, ?_, upd_same, ?_⟩
        · have nbt : b ≠ pt := fun z => by
            have z2 := s2.free nt
            rw [← z, e] at z2
            cases z2
          rw [upd_ne nbt, upd_ne (ne_of_none (sm _ _ e) nq3)]
          exact sm _ _ e
        · rw [upd_ne nft, upd_ne nfq3]
          exact gf
        · have et : t1.kids.take (i + 1) = t1.kids.take i ++ [tk] := by
            rw [List.take_add_one, htk]
            rfl
          rw [et, List.map_append, ← List.append_assoc]
          refine (rr.mono (Row.keep k5)).app (.one ⟨q3, x, rfl, ?_, hax'.keep k5⟩)
          rw [upd_ne ntq3.symm, upd_same]
      · rintro σ' H' ⟨vt, y6', rfl, sm, kt, gf, gt, rr⟩
        rw [← len1, List.take_length] at rr
        refine ⟨_, ?_, ef ++ [(t1, r1)], es0 ++ t1.kids.map (fun k => (k, inner t1.word r1)), _, vt, _, _, _, y6', rfl, ⟨sm, gf, gt, rf3.mono (Row.keep (k4.trans kt)), rr, by rw [List.append_assoc]; exact e0, fun e he => ?_, rfl⟩⟩
        · omega
        · rcases List.mem_append.mp he with z | z
          · exact W.ok e (List.mem_append.mpr (.inl z))
          · obtain ⟨k, hk, rfl⟩ := List.mem_map.mp z
            exact kids_ok ok1 k hk
end
end Kf
set_option Elab.async false
set_option linter.all false
set_option maxRecDepth 100000
set_option maxHeartbeats 3900000
/-! A lambda with parameters and captured names, handed as the second of two to a def, called there. Its frame is begun as that of a def within a def. -/
namespace LmY
open PySem PySem.Spec PyProof.Rows L2 LamX NdefX
/-- the lambda as a def within the def of X, whose code object is k -/
abbrev lamF (X : Cx) (ar : Arguments) (sc : Scope) (k : Addr) : NF := ⟨"<lambda>", X.env.qual ++ "<lambda>", ar, [], sc, cloFrom X.env.cells sc.names [], k⟩
/-- where its body runs: its names are N -/
abbrev lamX (X : Cx) (N : List Str) (ar : Arguments) (sc : Scope) (fo k : Addr) (A : Around) (outer : List Env) (sh : Shared) (hp : Hp) : Cx := ncx L2.CX0 X.prog X.w X.K X.mg X.base N (lamF X ar sc k) fo A outer sh hp L2.E0
/-- where the def runs that got it, entered from X's frame -/
abbrev gotX (X : Cx) (Ng : List Str) (x : Str) (sg : Scope) (g : Addr) (cg : Value) (sh : Shared) (hp : Hp) : Cx := (cxOf L2.CX0 X.prog X.w X.K X.mg X.base Ng x sg g cg X.A X.stack sh hp L2.E0).nox
/-- cells that no def of the text writes hold what they held -/
theorem cells_stay {cl : List (Str × Addr)} {fr : List Str} {ws : List (Option V)} {g g2 : Heap} {hp hp2 : Hp} {fs : List Addr} (un : Un fs [] hp hp2 g g2) (cs : CellsAt cl fr ws g hp) : CellsAt cl fr ws g2 hp2 := by
  have still : ∀ a, hp a = none → ∀ val, g.IsCell a val → g2.IsCell a val := fun a off val ⟨ob, at1, dat⟩ => by
    obtain ⟨_, at2⟩ := un.any at1 off List.not_mem_nil
    exact ⟨_, at2, dat⟩
  refine ⟨cs.len, fun nm a e => ?_, cs.inj, fun j nm e => ?_⟩
  · obtain ⟨off, val, cell⟩ := cs.all nm a e
    obtain ⟨ob, at1, _⟩ := id cell
    exact ⟨un.free a ob at1 off List.not_mem_nil, val, still a off val cell⟩
  · obtain ⟨a, e1, has⟩ := cs.has j nm e
    refine ⟨a, e1, fun z ez => ?_⟩
    obtain ⟨u, rz, cell⟩ := has z ez
    exact ⟨u, rz, still a (cs.all nm a e1).1 _ cell⟩
section
variable {X : Cx} {pins : List (Addr × Obj)} {σ : L2.St} {H : Hp} {s : Shared}
/-- a call that ends without an exception, told to its caller -/
theorem land {fo : Addr} {us : List Value} {Q : VK} (I : Inv X pins σ H s) (run : codeAny (model X.prog X.w) X.A (.call (.ref fo) ⟨us, []⟩) (CR L2.CX0 X.stack X.prog X.w H s Q L2.E0) s) :
    wpAny (model X.prog X.w) X.A (call (.ref fo) us) (EP X pins σ Q) X.xe s :=
  wpAny_call (codeAny_mono run fun res s2 told => match res, told with
    | .ok (.ret _), told => I.after told
    | .ok .next, told => told.elim
    | .ok .brk, told => told.elim
    | .ok .cont, told => told.elim
    | .error _, told => (show False from told).elim)
/-- x(e, ..), in the def that got the lambda as x -/
theorem pe_lact {N ps fr Ng : List Str} {js : List Nat} {qg : Str} {sg : Scope} {g fo k : Addr} {cg pm ctv : Value} {ar : Arguments} {body : Expr} {sc : Scope} {m i : Nat} {a : Str} {tb : TE} {p1 p2 : Pos} {e : Expr} {es : List Expr} {t : TA}
    (I : Inv X pins σ H s) (S : NScope N ps fr sc) (cp : Caps X (cloFrom X.env.cells sc.names []) fr js)
    (at_ : s.heap.get? fo = some (PySem.W.kla_obj "<lambda>" (X.env.qual ++ "<lambda>") ar body sc (cloFrom X.env.cells sc.names []) pm k ctv)) (off : H fo = none) (noF : fo ∉ frs X.stack)
    (bind : ∀ us : List Value, us.length = ps.length → bindArgs (PySem.W.kla_fn "<lambda>" (X.env.qual ++ "<lambda>") ar body sc (cloFrom X.env.cells sc.names []) pm (.ref k) ctv) ⟨us, []⟩ = pure (ps.zip us))
    (room : Room (m + 1) (X.A.deeper (envOfC qg sg s.heap.objs.size g cg)))
    (inner : ∀ (A : Around) (outer : List Env) (sh : Shared) (hp : Hp), Room m (A.deeper (envF (lamF X ar sc k) fo sh.heap.objs.size)) → PE (lamX X N ar sc fo k A outer sh hp) body tb)
    (hN : Ng[i]? = some a) (hv : Vis sg a) (pa : PA (gotX X Ng qg sg g cg s H) (e :: es) t)
    (h1 : (a == ("__debug__" : Str)) = false := by decide) (h2 : (a == ("__classdict__" : Str)) = false := by decide)
    (h3 : starEach (e :: es) (envOfC qg sg s.heap.objs.size g cg) = (false, eval e (envOfC qg sg s.heap.objs.size g cg)) :: starEach es (envOfC qg sg s.heap.objs.size g cg) := by rfl)
    (h4 : (backTo p2 (starEach es (envOfC qg sg s.heap.objs.size g cg))).any (·.1) = false := by rfl) :
    PE (gotX X Ng qg sg g cg s H) (.Call (.Name a p1) (e :: es) [] p2)
      (fun σZ HZ Q => σZ[i]? = some (some (.ref fo)) ∧ t σZ HZ fun vs H1 => vs.length = ps.length ∧ H1 k = some (CodeO k (X.env.qual ++ "<lambda>")) ∧ tb (startF N vs (js.map (slotAt σ))) H1 Q) := by
  refine ⟨fun pinsZ sZ σZ HZ Q IZ ⟨slot, rest⟩ => ?_⟩
  have same : ∀ {pn : List (Addr × Obj)} {τ : L2.St} {hp : Hp} {sh : Shared}, Inv (gotX X Ng qg sg g cg s H) pn τ hp sh → sh.heap.get? fo = some (PySem.W.kla_obj "<lambda>" (X.env.qual ++ "<lambda>") ar body sc (cloFrom X.env.cells sc.names []) pm k ctv) :=
    fun J => J.base.keep fo _ at_ off noF List.not_mem_nil
  have name := (pe_var (X := gotX X Ng qg sg g cg s H) (pos := p1) (i := i) hN hv h1 h2).run pinsZ sZ σZ HZ (fun val hp => val = .ref fo ∧ hp = HZ) IZ ⟨.ref fo, slot, rfl, rfl⟩
  refine wpAny_Call_Name_kw (thn name fun val s1 ⟨_, _, I1, rel, ev, eh⟩ => ?_)
  subst ev eh
  cases (show val = Value.ref fo from rel)
  refine PySem.W.callWith_F (first := []) ⟨_, _, _, _, same I1⟩ (thn (pa.run p2 pinsZ s1 σZ _ _ I1 rest) fun us s2 ⟨vs, H2, I2, rv, len, code, ht⟩ => ⟨⟨_, _, _, _, same I2⟩, land (us := us) I2 ?_⟩) h3 h4
  obtain ⟨⟨oc, fields, tq, o1, o2, o3⟩, _, _⟩ := I2.hok k _ code
  refine PySem.W.kla_callFunE room.depth (same I2) rfl S.co S.gen rfl ⟨k, oc, fields, tq, rfl, o1, o2, o3⟩ ?_
  rw [bind us (rv.length.symm.trans len)]
  refine wpAny_pure (wpAny_newFunctionEnv (fun y hy => S.nocell y hy) (fun y hy => S.par y.1 (List.of_mem_zip hy).1) (fun g1 ns1 more => ⟨I2.nolimit.fresh _ more, ?_⟩) S.kind)
  have grown : ∀ b ob, s2.heap.get? b = some ob → g1.get? b = some ob := fun b ob eb => more.extBut b ob (Nat.ne_of_lt (Heap.lt_size eb)) (Heap.get?_push_of_some _ eb)
  have J := inv_startN (CX := L2.CX0) (E := L2.E0) (tk := s2.toks + (ps.zip us).length) (F := lamF X ar sc k) (f := fo) S room.hd I2.env0 len rv (cells_stay I2.base (cells_of I cp)) ns1 grown
  refine PySem.W.kla_codeExpr (wpAny_mono ((inner _ _ s2 H2 (room.deeper _)).run [] _ _ H2 Q J ht) (fun _ s3 ⟨w3, H3, J3, r3, q3⟩ => ?_) fun _ _ bad => bad)
  exact ⟨w3, H3, J3.os, J3.bare, J3.base, J3.hok, r3, q3⟩
end
/-- what the def that got the lambda makes of its calls: TT -/
def Gives2 (X : Cx) (Ng : List Str) (x : Str) (sg : Scope) (g : Addr) (cg : Value) (bg : List Stmt) (a : Str) (q : Str) (ps : List Str) (m : Nat) (TT : (List V → Hp → VK → Prop) → V → Hp → VK → Prop) : Prop :=
  ∀ (fo k : Addr) (s : Shared) (H : Hp) (v : V) (Q : VK) (tl : List V → Hp → VK → Prop),
    (∀ (p1 p2 : Pos) (e : Expr) (es : List Expr) (t : TA), PA (gotX X Ng x sg g cg s H) (e :: es) t →
      starEach (e :: es) (envOfC x sg s.heap.objs.size g cg) = (false, eval e (envOfC x sg s.heap.objs.size g cg)) :: starEach es (envOfC x sg s.heap.objs.size g cg) → (backTo p2 (starEach es (envOfC x sg s.heap.objs.size g cg))).any (·.1) = false →
      PE (gotX X Ng x sg g cg s H) (.Call (.Name a p1) (e :: es) [] p2) (fun σZ HZ Q => σZ[1]? = some (some (.ref fo)) ∧ t σZ HZ fun vs H1 => vs.length = ps.length ∧ H1 k = some (CodeO k q) ∧ tl vs H1 Q)) →
    Room (m + 1) (X.A.deeper (envOfC x sg s.heap.objs.size g cg)) → H k = some (CodeO k q) → TT tl v H Q →
    ∃ t, PSs (gotX X Ng x sg g cg s H) bg t ∧ t { nx := fun _ H' => Q .non H', rt := Q } (L2.start Ng [v, .ref fo]) H
def tLam2 (T : List (Addr × Str)) (N : List Str) (js : List Nat) (TT : (List V → Hp → VK → Prop) → V → Hp → VK → Prop) (te : TE) (t : TE) : TE := fun σ H Q => te σ H fun v H0 => Tabs T H0 ∧ ∀ H1, ExtN H0 H1 → Tabs T H1 → TT (fun vs H' Q' => t (startF N vs (js.map (slotAt σ))) H' Q') v H1 Q
section
variable {X : Cx}
/-- x(e, lambda ..: body) -/
theorem pe_lamcall2 {T : List (Addr × Str)} {TT : (List V → Hp → VK → Prop) → V → Hp → VK → Prop} {x a0 a : Str} {g c tab : Addr} {m : Nat} {pg : Arguments} {bg : List Stmt} {sg : Scope} {dV kV doc pm cdv ct oc : Value} {an od : Option Addr} {osl : Array (Option Value)} {N Ng ps fr : List Str} {js : List Nat}
    {ar : Arguments} {body e : Expr} {sc : Scope} {te t : TE} {p0 p1 p2 : Pos} (gx : Gl X x) (mx : X.mg x = some (.ref g)) (kx : PySem.W.keepIn X.K (.ref g) = true)
    (look : X.K.lookup g = some ⟨oc, od, .func (PySem.W.fnOf x x pg bg sg dV kV doc pm an cdv ct), osl⟩) (code : PySem.W.codeIn X.K cdv x = true) (bx : L2.Binds X.K (PySem.W.fnOf x x pg bg sg dV kV doc pm an cdv ct) [a0, a] []) (Sg : FnScope Ng [a0, a] sg) (second : Ng[1]? = some a) (seen : Vis sg a)
    (gives : Gives2 X Ng x sg g cdv bg a (X.env.qual ++ "<lambda>") ps m TT) (pe : PE X e te)
    (own : TabB X.base X.mg c tab) (mine : X.env.code = .ref c) (inT : (tab, X.env.qual ++ "<lambda>") ∈ T) (sole : ∀ p ∈ T, p.1 = tab → p.2 = X.env.qual ++ "<lambda>") (room : Room (m + 2) X.A)
    (S : NScope N ps fr sc) (held : ndefB X.env.scope sc fr = true) (slots : js.map (fun j => X.N[j]?) = fr.map some) (plain : defaultsOf ar X.env = ([], []))
    (bind : ∀ (q : Str) (cl : List (Str × Addr)) (pm cv ctv : Value) (us : List Value), us.length = ps.length → bindArgs (PySem.W.kla_fn "<lambda>" q ar body sc cl pm cv ctv) ⟨us, []⟩ = pure (ps.zip us))
    (inner : ∀ (A : Around) (outer : List Env) (sh : Shared) (hp : Hp) (fo k : Addr), Room m (A.deeper (envF (lamF X ar sc k) fo sh.heap.objs.size)) → PE (lamX X N ar sc fo k A outer sh hp) body t)
    (h0 : (x == ("__debug__" : Str)) = false := by decide) (h1 : (a == ("__debug__" : Str)) = false := by decide) (h2 : (a == ("__classdict__" : Str)) = false := by decide)
    (h3 : starEach (e :: [.Lambda ar body sc p1]) X.env = (false, eval e X.env) :: starEach [.Lambda ar body sc p1] X.env := by rfl) :
    PE X (.Call (.Name x p0) [e, .Lambda ar body sc p1] [] p2) (tLam2 T N js TT te t) := by
  refine ⟨fun pins s σ H Q I reading => wpAny_Call_Name_kw (ld_glob I gx mx (PySem.W.callWith_K (h₀ := X.base) I.ok.mod.kin kx ?_ h3 (by rfl)) h0)⟩
  rw [h3]
  show wpAny _ _ (spliced ((false, eval e X.env) :: backTo p2 (starEach [.Lambda ar body sc p1] X.env))) _ _ s
  refine Calls.spliced_cons (thn (pe.run pins s σ H _ I reading) fun u s0 ⟨v, H0, I0, r0, tabs0, later⟩ => ?_)
  show wpAny _ _ (spliced ((false, eval (.Lambda ar body sc p1) X.env) :: backTo p2 (starEach [] X.env))) _ _ s0
  refine Calls.spliced_cons (lam_make2 I0 own mine inT sole tabs0 plain (fun y hy e => (ndef_free held y hy e).elim (fun z => I0.ok.has _ (.inl z)) fun z => I0.ok.has _ (.inr z)) fun fo k pmF ctF H1 s1 I1 grown tabs1 at_ off noF codeK => Calls.spliced_nil ⟨I1.kIn, land I1 ?_⟩)
  refine run_ofS (N := Ng) (ps := [a0, a]) (us := [u, .ref fo]) (vs := [v, .ref fo]) look code Sg room I1.env0 (bx s1 [u, .ref fo] I1.kIn rfl) (.cons r0 (.cons rfl .nil)) rfl fun room1 => ?_
  obtain ⟨ts, run, told⟩ := gives fo k s1 H1 v Q _ (fun q1 q2 e1 es1 t1 pa he hp => pe_lact (i := 1) (js := js) I1 S (Caps.made I1.ok (ndef_free held) (ndef_fr held) slots) at_ off noF (fun us hl => bind _ _ _ _ _ us hl) room1 (fun A outer sh hp2 r2 => inner A outer sh hp2 fo k r2) second seen pa h1 h2 he hp) room1 codeK (later H1 grown tabs1)
  exact ⟨ts, run.nox, told⟩
end
end LmY
set_option Elab.async false
set_option linter.all false
set_option maxRecDepth 100000
set_option maxHeartbeats 4000000
/-! del xs[a:] of a list. -/
namespace L2
open PySem PySem.Spec PyProof.Rows
open PySem.SeqAt
open PySem.AutoSeq1 (wpAny_loadPart')
open PySem.MeetsSeq PySem.MeetsSeq2 PySem.MeetsSeq3
theorem keep_first (a : Nat) (f : Nat → Bool) : ∀ (its : List Value) (m : Nat), (∀ k, k < m + its.length → f k = decide (a ≤ k)) → (its.zipIdx m).filterMap (fun p => if f p.2 = true then none else some p.1) = its.take (a - m)
  | [], m, _ => by simp
  | x :: r, m, h => by
    have ih := keep_first a f r (m + 1) fun k hk => h k (by rw [List.length_cons]; omega)
    have hm := h m (by rw [List.length_cons]; omega)
    rw [List.zipIdx_cons]
    by_cases c : a ≤ m
    · rw [List.filterMap_cons_none (by show (if f m = true then none else some x) = none; rw [hm, decide_eq_true c]; rfl), ih, show a - (m + 1) = 0 by omega, show a - m = 0 by omega]
      rfl
    · rw [List.filterMap_cons_some (b := x) (by show (if f m = true then none else some x) = some x; rw [hm, decide_eq_false c]; rfl), ih, show a - m = (a - (m + 1)) + 1 by omega]
      rfl
section
variable {prog : Program} {w : World} {A : Around} {E : Value → Shared → Prop} {s : Shared}
theorem bounds_from {a n : Nat} (ha : a ≤ n) : sliceBounds (some (a : Int)) none none n = ((a : Int), (n : Int), 1) := by
  simp only [sliceBounds, Option.getD_none]
  have h1 : ¬ ((a : Int) < 0) := by omega
  simp only [h1, if_false, show (1 : Int) > 0 by decide, if_true]
  congr 1
  omega
theorem sel_from {a n k : Nat} (hk : k < n) : (decide ((a : Int) ≤ (k : Int)) && decide ((k : Int) < (n : Int)) && (((k : Int) - (a : Int)) % 1 == 0)) = decide (a ≤ k) := by
  have e1 : decide ((k : Int) < (n : Int)) = true := decide_eq_true (by omega)
  have e2 : ((((k : Int) - (a : Int)) % 1) == 0) = true := by rw [Int.emod_one]; rfl
  rw [e1, e2, Bool.and_true, Bool.and_true]
  by_cases c : a ≤ k
  · rw [decide_eq_true c, decide_eq_true (by omega)]
  · rw [decide_eq_false c, decide_eq_false (by omega)]
/-- list.__delitem__ with a slice from a to the end -/
theorem delItem_from {l sl : Addr} {items : Array Value} {n : Nat} {vl vu : Value} {a : Nat} {Q : Unit → Shared → Prop}
    (here : s.heap.get? l = some { cls := .type "list", data := .seq items n })
    (cut : s.heap.IsSliceOf sl vl vu .none) (low : IsPart vl (some (a : Int))) (high : IsPart vu none) (within : a ≤ items.size)
    (room : items.size ≤ sizeLine) (h : ∀ f : Array Value → Array Value, f items = (items.toList.take a).toArray → Q () { s with heap := s.heap.update l (Obj.mapSeq f) }) :
    wpAny (model prog w) A (delItem (.ref l) (.ref sl)) Q E s := by
  have lst : s.heap.IsList l items := PySem.IsL.isList here
  obtain ⟨cutO, cutAt, cutCls, cutDat⟩ := id cut
  have slT : s.TypeIs (.ref sl) "slice" := ⟨cutO, cutAt, cutCls⟩
  have noStep : ¬ ((rawPart none == rawInt 0) = true) := fun z => by cases z
  refine wpAny_delItem_slot lst.typeIs (by decide) F.slot_list_delitem (wpAny_call_entry F.slot_list_delitem lst.typeIs F.entry_list_delitem ?_ (F.args_list_delitem_2 _ _))
  refine wpAny_bind (m := Builtin.List.listSubscript? (.ref sl)) ?_
  rw [Builtin.List.listSubscript?]
  refine wpAny_bind (wpAny_specialOf slT slice_no_index ?_)
  rw [if_pos (show (none : Option Value).isNone = true from rfl)]
  refine wpAny_pure (wpAny_bind (m := typeOf (.ref sl)) (wpAny_typeOf slT ?_))
  first
    | rw [if_neg (by decide)]
    | refine (PySem.W.KFB.if_not (by decide) ?_)
  rw [listSliceParts_eq]
  refine wpAny_bind (wpAny_bind (wpAny_field cutAt cutDat (x := .none) rfl (wpAny_bind (wpAny_listPart .none ?_))))
  rw [if_neg noStep]
  refine wpAny_bind (wpAny_field cutAt cutDat (x := vl) rfl (wpAny_bind (wpAny_listPart low (wpAny_bind (wpAny_field cutAt cutDat (x := vu) rfl (wpAny_bind (wpAny_listPart high (wpAny_pure ?_))))))))
  unfold Builtin.List.listItems
  refine wpAny_bind (wpAny_bind (wpAny_seqItems here rfl (wpAny_pure (wpAny_bind (wpAny_of_eq ((sliceIndices_raw (some (a : Int)) none none items.size (by simp)).trans (congrArg (pure : Int × Int × Int → Sem (Int × Int × Int)) (bounds_from within))) (wpAny_bind (wpAny_rule ?_)))))))
  refine wpAny_bind (m := updateSeq l _) (wpAny_updateSeq (hz := room) (_hz' := ?_) here rfl ?_)
  · refine wpAny_bind (wpAny_letGo (wpAny_pure ⟨.none, rfl, h _ ?_⟩))
    exact congrArg List.toArray (keep_first a _ items.toList 0 fun k hk => (if_pos (show (1 : Int) > 0 by decide)).trans (sel_from (by rw [Nat.zero_add, Array.length_toList] at hk; exact hk)))
  · refine Nat.le_trans (Nat.le_trans (by rw [List.size_toArray]; exact List.length_filterMap_le _ _) ?_) (Nat.le_add_right _ _)
    rw [List.length_zipIdx, Array.length_toList]
    exact room
end
section
variable {X : Cx}
/-- del xs[a:], at the value level -/
theorem del_from {pins : List (Addr × Obj)} {s : Shared} {σ : St} {H : Hp} {l sl : Addr} {xs : List V} {a : Int} {vl vu : Value} {Q : Unit → Shared → Prop} (I : Inv X pins σ H s)
    (hH : H l = some (.lst xs)) (hs : s.heap.IsSliceOf sl vl vu .none) (pl : IsPart vl (some a)) (pu : IsPart vu none) (h0 : 0 ≤ a) (ha : a ≤ xs.length)
    (h : ∀ s', Inv X pins σ (upd H l (.lst (xs.take a.toNat))) s' → Q () s') :
    wpAny (model X.prog X.w) X.A (delItem (.ref l) (.ref sl)) Q X.xe s := by
  obtain ⟨z, its, n, r, hl, e⟩ := I.lstM hH
  obtain ⟨a', rfl⟩ := Int.eq_ofNat_of_zero_le h0
  simp only [Int.toNat_natCast] at h
  refine delItem_from (a := a') e hs pl pu (by rw [List.size_toArray]; omega) (by rw [List.size_toArray]; omega) fun f hf => h _ ?_
  refine I.lset (its' := its.take a') (t' := s.toks) hH e hf (r.take _) ?_
  rw [List.length_take]
  omega
/-- del xs[a:] -/
def tDelF (to : TE) (tl : TO) : TS := fun D σ H => to σ H fun x H1 => tl σ H1 fun lo H2 => ∃ (l : Addr) (xs : List V) (a : Int), x = .ref l ∧ lo = some a ∧ H2 l = some (.lst xs) ∧ 0 ≤ a ∧ a ≤ xs.length ∧ D.nx σ (upd H2 l (.lst (xs.take a.toNat)))
theorem ps_delF {o : Expr} {lo : Option Expr} {to : TE} {tl : TO} {tpos p2 pos : Pos} (ho : PE X o to) (hl : PO X lo tl) : PS X (.Delete [.Subscript o (.Slice lo none none p2) tpos] pos) (tDelF to tl) := by
  refine ⟨fun pins s σ H D I h => ?_⟩
  refine wpAny_Delete (wpAny_deleteEach_cons (wpAny_delete_Subscript (thn (ho.run pins s σ H _ I h) fun u s1 ⟨x, H1, I1, rx, q1⟩ => ?_)))
  refine wpAny_Slice (thn (hl.run pins s1 σ H1 _ I1 q1) fun vl s2 ⟨l, H2, I2, pl, q2⟩ => ?_)
  rw [evalPart_none]
  refine wpAny_pure ?_
  refine wpAny_pure ?_
  obtain ⟨a, xs, k, rfl, rfl, hH, h0, ha, q⟩ := q2
  cases (show u = Value.ref a from rx)
  have I4 : Inv X pins σ H2 { s2 with heap := s2.heap.push { cls := .type "slice", data := .fields #[vl, .none, .none] } } := I2.kept (t' := s2.toks) fun b ob q => Heap.get?_push_of_some _ q
  exact del_from I4 hH (Heap.IsSliceOf.new ..) pl .none h0 ha fun s3 I3 => wpAny_deleteEach_nil ⟨σ, _, I3, q⟩
end
end L2
set_option Elab.async false
set_option linter.all false
set_option maxRecDepth 100000
set_option maxHeartbeats 4000000
set_option pp.maxSteps 400
/-! changed, with a lambda. -/
namespace Kf
open PySem PySem.Spec PyProof.Rows L2 Sx LmY
abbrev sChanged : Stmt := top 7
theorem scChanged : FnScope ["thing", "leaf", "done", "piece", "around", "first", "parts"] ["thing", "leaf"] (defScope sChanged) := ⟨rfl, rfl, rfl, by decide +kernel, rfl, by decide +kernel, by decide +kernel⟩
/-! ### what it makes -/
def chg (g : Tr → Nat → Tr) : Tr → Nat → Tr
  | .leaf w x, r => g (.leaf w x) r
  | .n0 w, _ => .n0 w
  | .n1 w a, r => .n1 w (chg g a (inner w r))
  | .n2 w a b, r => .n2 w (chg g a (inner w r)) (chg g b (inner w r))
def node (w : Str) : List Tr → Tr
  | [a] => .n1 w a
  | [a, b] => .n2 w a b
  | _ => .n0 w
def stp (g : Tr → Nat → Tr) (st : List Tr) (e : Tr × Nat) : List Tr :=
  if leafy e.1.word = true then st ++ [g e.1 e.2] else st.take (st.length - e.1.kids.length) ++ [node e.1.word (st.drop (st.length - e.1.kids.length))]
def Runs (g : Tr → Nat → Tr) (res : List Tr) : List (Tr × Nat) → List Tr → Prop
  | [], st => st = res
  | e :: es, st => (leafy e.1.word = false → e.1.kids.length ≤ st.length) ∧ Runs g res es (stp g st e)
theorem runs_post {g : Tr → Nat → Tr} {res : List Tr} : ∀ (t : Tr) (r : Nat) (es : List (Tr × Nat)) (st : List Tr), t.Ok → Runs g res es (st ++ [chg g t r]) → Runs g res (t.post r ++ es) st
  | .leaf w x, r, es, st, ok, h => ⟨fun z => (no_leaf z ok.1).elim, by
    show Runs g res es (if leafy w = true then _ else _)
    rw [if_pos ok.1]
    exact h⟩
  | .n0 w, r, es, st, ok, h => ⟨fun _ => Nat.zero_le _, by
    show Runs g res es (if leafy w = true then _ else _)
    rw [if_neg (fun z => no_leaf ok z)]
    show Runs g res es (st.take (st.length - 0) ++ [node w (st.drop (st.length - 0))])
    rw [Nat.sub_zero, List.take_length, List.drop_length]
    exact h⟩
  | .n1 w a, r, es, st, ok, h => by
    show Runs g res (a.post (inner w r) ++ [(.n1 w a, r)] ++ es) st
    rw [List.append_assoc]
    refine runs_post a _ _ _ ok.2 ⟨fun _ => ?_, ?_⟩
    · rw [List.length_append]
      exact Nat.le_add_left 1 _
    · show Runs g res es (if leafy w = true then _ else _)
      rw [if_neg (fun z => no_leaf ok.1 z)]
      show Runs g res es (List.take ((st ++ [chg g a (inner w r)]).length - 1) (st ++ [chg g a (inner w r)]) ++ [node w (List.drop ((st ++ [chg g a (inner w r)]).length - 1) (st ++ [chg g a (inner w r)]))])
      rw [show (st ++ [chg g a (inner w r)]).length - 1 = st.length by simp, List.take_left, List.drop_left]
      exact h
  | .n2 w a b, r, es, st, ok, h => by
    show Runs g res (a.post (inner w r) ++ b.post (inner w r) ++ [(.n2 w a b, r)] ++ es) st
    rw [List.append_assoc, List.append_assoc]
    refine runs_post a _ _ _ ok.2.1 (runs_post b _ _ _ ok.2.2 ⟨fun _ => ?_, ?_⟩)
    · show 2 ≤ (st ++ [chg g a (inner w r)] ++ [chg g b (inner w r)]).length
      rw [List.length_append, List.length_append]
      exact Nat.le_add_left 2 _
    · show Runs g res es (if leafy w = true then _ else _)
      rw [if_neg (fun z => no_leaf ok.1 z)]
      rw [List.append_assoc]
      show Runs g res es (List.take ((st ++ ([chg g a (inner w r)] ++ [chg g b (inner w r)])).length - 2) (st ++ ([chg g a (inner w r)] ++ [chg g b (inner w r)])) ++ [node w (List.drop ((st ++ ([chg g a (inner w r)] ++ [chg g b (inner w r)])).length - 2) (st ++ ([chg g a (inner w r)] ++ [chg g b (inner w r)])))])
      rw [show (st ++ ([chg g a (inner w r)] ++ [chg g b (inner w r)])).length - 2 = st.length by simp, List.take_left, List.drop_left]
      exact h
theorem stp_len {g : Tr → Nat → Tr} {st : List Tr} {e : Tr × Nat} : (stp g st e).length ≤ st.length + 1 := by
  unfold stp
  split
  · rw [List.length_append]
    exact Nat.le_refl _
  · rw [List.length_append, List.length_take, List.length_singleton]
    omega
theorem at_node {H : Hp} {t : Tr} (ok : t.Ok) (nl : leafy t.word = false) {ks : List Tr} {vs : List V} {p : Addr} (len : ks.length = t.kids.length) (h : All2 (At H) ks vs) (hp : H p = some (.tup (.str t.word :: vs))) : At H (node t.word ks) (.ref p) := by
  cases t with
  | leaf w x => exact (no_leaf nl ok.1).elim
  | n0 w =>
    have e : ks = [] := List.length_eq_zero_iff.mp len
    subst e
    cases h
    exact ⟨p, rfl, hp⟩
  | n1 w a =>
    obtain ⟨k, rfl⟩ := List.length_eq_one_iff.mp len
    cases h with
    | cons h1 h2 =>
      cases h2
      exact ⟨p, _, rfl, hp, h1⟩
  | n2 w a b =>
    obtain ⟨k, l, rfl⟩ : ∃ k l, ks = [k, l] := by
      match ks, len with
      | [k, l], _ => exact ⟨k, l, rfl⟩
    cases h with
    | cons h1 h2 =>
      cases h2 with
      | cons h3 h4 =>
        cases h4
        exact ⟨p, _, _, rfl, hp, h1, h3⟩
theorem All2.take {α β : Type} {F : α → β → Prop} : ∀ {l : List α} {m : List β} (n : Nat), All2 F l m → All2 F (l.take n) (m.take n)
  | _, _, 0, _ => by rw [List.take_zero, List.take_zero]; exact .nil
  | _, _, n + 1, .nil => by rw [List.take_nil, List.take_nil]; exact .nil
  | _, _, n + 1, .cons r t => .cons r (t.take n)
theorem All2.drop {α β : Type} {F : α → β → Prop} : ∀ {l : List α} {m : List β} (n : Nat), All2 F l m → All2 F (l.drop n) (m.drop n)
  | _, _, 0, h => h
  | _, _, n + 1, .nil => .nil
  | _, _, n + 1, .cons r t => t.drop n
/-- what changed makes of the lambda's reading tl -/
def TTc : (List V → Hp → VK → Prop) → V → Hp → VK → Prop := fun tl v H Q => ∃ (t : Tr) (g : Tr → Nat → Tr), At H t v ∧ t.Ok ∧ t.size ≤ 6000 ∧
  (∀ (H' : Hp) (t1 : Tr) (v1 : V) (r : Nat) (Q' : VK), (t1, r) ∈ t.post 0 → Same H H' → At H' t1 v1 → leafy t1.word = true → (∀ w H2, Same H' H2 → At H2 (g t1 r) w → Q' w H2) → tl [v1, .int (r : Int)] H' Q') ∧
  ∀ w H', Same H H' → At H' (chg g t 0) w → Q w H'
theorem cut_from (xs : List V) {a : Nat} (h : a ≤ xs.length) : cutV xs (some (a : Int)) none = xs.drop a := by
  unfold cutV
  rw [show HT.sIx xs.length 0 (some (a : Int)) = min a xs.length from HT.sIx_nat _ 0 a, HT.sIx_none, Nat.min_eq_left h]
  exact List.take_of_length_le (by rw [List.length_drop]; exact Nat.le_refl _)
theorem changed_gives {X : Cx} {gp g L : Addr} {dp : FuncData} {cdg : Value} {q : Str} (G : FnOk X.prog X.w X.K X.mg X.base CX0 2 gp dp ["thing"] spPieces) (bG : Binds X.K dp ["thing"] []) (kG : PySem.W.keepIn X.K (.ref gp) = true) (mG : X.mg "pieces_of" = some (.ref gp))
    (mL : X.mg "LEAVES" = some (.ref L)) (tL : ∀ H, SqT X.K H L leafVs) (ml : X.mg "len" = none) :
    Gives2 X ["thing", "leaf", "done", "piece", "around", "first", "parts"] "changed" (defScope sChanged) g cdg (defBody sChanged) "leaf" q ["piece", "around"] 1 TTc := by
  intro f c' s H v Q tl act hr hc h
  obtain ⟨t, gg, hA, hO, hd, hl, q⟩ := h
  refine ⟨_, pss_cons (ps_set (i := 2) scChanged.nd rfl (.inl rfl) (pe_lst pa_nil))
    (pss_cons (ps_for PassesOwn.never rfl (pi_list (pe_call G hr (by rfl) mG kG bG .nil pass0 (pa_cons (pv 0) pa_nil))) (pg_tup (by rfl) (pgs_cons (pg_name (i := 3) scChanged.nd rfl (.inl rfl)) (pgs_cons (pg_name (i := 4) scChanged.nd rfl (.inl rfl)) pgs_nil)))
      (pss_one (ps_if (pt_cmpR op_in_seq (pe_ix ix_tup (pv 3) pe_int (fun _ _ => rfl)) (pe_glob (v := .ref L) (by rfl) mL rfl) (by rfl))
        (pss_one (ps_expr (pe_bm PySem.F.plainAttrs_list PySem.F.slot_list_append PySem.F.type_list_append mt_append (pv 2) (pa_cons (act _ _ _ _ _ (pa_cons (pv 3) (pa_cons (pv 4) pa_nil)) (by rfl) (by rfl)) pa_nil))))
        (pss_cons (ps_set (i := 5) scChanged.nd rfl (.inl rfl) (pe_op op_add (pe_op op_sub (pe_callB call_len_seq (by rfl) ml PySem.boot_len (pa_cons (pv 2) pa_nil)) (pe_callB call_len_seq (by rfl) ml PySem.boot_len (pa_cons (pv 3) pa_nil))) pe_int))
        (pss_cons (ps_set (i := 6) scChanged.nd rfl (.inl rfl) (pe_slice sl_list (pv 2) (po_some (pv 5)) po_none))
        (pss_cons (ps_delF (pv 2) (po_some (pv 5)))
        (pss_one (ps_expr (pe_bm PySem.F.plainAttrs_list PySem.F.slot_list_append PySem.F.type_list_append mt_append (pv 2) (pa_cons (pe_tup (pa_cons (pe_ix ix_tup (pv 3) pe_int (fun _ _ => rfl)) (StX.pa_star (pv 6) pa_nil))) pa_nil))))))))))
    (pss_one (ps_ret (pe_ix ix_list (pv 2) pe_int (fun _ _ => rfl))))), ?_⟩
  refine ⟨Nat.zero_le _, fun pd nd => ?_⟩
  have s1 : Same H (upd H pd (.lst [])) := same_new nd
  refine ⟨_, rfl, v, t, rfl, hA.keep (tups_same s1), hO, hd, fun p H1 vf sm np hp rows => ?_⟩
  have hD1 : H1 pd = some (.lst []) := sm _ _ upd_same
  have npd : p ≠ pd := fun z => by
    rw [z, upd_same] at np
    cases np
  have lenP : vf.length ≤ 6000 := by
    have l1 := rows.len
    rw [post_len] at l1
    have l3 := size_deep t
    have l4 : t.size ≤ 6000 := hd
    omega
  have sH : ∀ {H' : Hp}, But pd H1 H' → Same H H' := fun b c u e => b c u (ne_of_none e nd) (sm _ _ (s1 _ _ e))
  refine ⟨p, rfl, ⟨_, .inl (.inl hp)⟩, for_list (K := X.K) (a := p) (xs := vf) (fun i σ H' => ∃ (st : List Tr) (vd : List V) (y3 y4 y5 y6 : Option V), σ = [some v, some (.ref f), some (.ref pd), y3, y4, y5, y6] ∧ But pd H1 H' ∧ H' pd = some (.lst vd) ∧ All2 (At H') st vd ∧ Runs gg [chg gg t 0] ((t.post 0).drop i) st ∧ st.length ≤ i)
    ⟨[], [], none, none, none, none, rfl, But.refl _ _, hD1, .nil, ?_, Nat.le_refl _⟩ (fun i σ H' _ ⟨_, _, _, _, _, _, _, b, _⟩ => .inl (.inl (b _ _ npd hp))) ?_ ?_⟩
  · have z := runs_post (g := gg) (res := [chg gg t 0]) t 0 [] [] hO rfl
    rw [List.append_nil] at z
    exact z
  · rintro i y σ H' hy ⟨st, vd, y3, y4, y5, y6, rfl, b, hD, all, runs, lst⟩
    obtain ⟨⟨t1, r1⟩, he, ⟨q1, x1, rfl, h1, a1⟩⟩ := rows.get hy
    have k1 : Tups H1 H' := b.tups hD1
    have a2 : At H' t1 x1 := At.keep k1 a1
    have mem1 := List.mem_of_getElem? he
    have ok1 : t1.Ok := post_ok t 0 hO (t1, r1) mem1
    obtain ⟨p1, us, rfl, hp1, lus, kids, leafs⟩ := a2.view ok1
    have il : i < (t.post 0).length := (List.getElem?_eq_some_iff.mp he).1
    have ed : (t.post 0).drop i = (t1, r1) :: (t.post 0).drop (i + 1) := by
      rw [List.drop_eq_getElem_cons il, (List.getElem?_eq_some_iff.mp he).2]
    rw [ed] at runs
    obtain ⟨enough, runs⟩ := runs
    have lenI : i < vf.length := by rw [← rows.len]; exact il
    have lvd := all.len
    refine ⟨q1, [.ref p1, .int (r1 : Int)], rfl, .inl (.inl (k1 _ _ h1)), rfl, .ref p1, [.int (r1 : Int)], rfl, .int (r1 : Int), [], rfl, rfl, ?_⟩
    refine ⟨_, rfl, p1, _, 0, _, rfl, rfl, .inl (.inl hp1), head_at _ _, L, leafVs, rfl, .inr (tL H'), rfl, rfl, _, rfl, ?_⟩
    show if leafy t1.word = true then _ else _
    cases lf : leafy t1.word with
    | true =>
      refine iteT ?_
      have es : stp gg st (t1, r1) = st ++ [gg t1 r1] := if_pos lf
      rw [es] at runs
      refine ⟨_, rfl, .inl ⟨rfl, _, .inl (.inl hD)⟩, rfl, _, rfl, _, rfl, rfl, sH b _ _ hc, hl H' t1 (.ref p1) r1 _ mem1 (sH b) a2 lf fun w H2 sm2 aw => ?_⟩
      refine ⟨pd, vd, w, rfl, rfl, sm2 _ _ hD, line_of (by omega), ?_⟩
      have k3 : Tups H2 (upd H2 pd (.lst (vd ++ [w]))) := tups_put fun xs z => by
        rw [sm2 _ _ hD] at z
        cases z
      refine ⟨st ++ [gg t1 r1], vd ++ [w], _, _, _, _, rfl, (b.trans (but_same sm2)).own, upd_same, (all.mono fun a c h => h.keep ((tups_same sm2).trans k3)).app (.one (aw.keep k3)), runs, ?_⟩
      rw [List.length_append, List.length_singleton]
      omega
    | false =>
      refine iteF ?_
      have kd := kids lf
      have len1 := kd.len
      have en : t1.kids.length ≤ st.length := enough lf
      have es : stp gg st (t1, r1) = st.take (st.length - t1.kids.length) ++ [node t1.word (st.drop (st.length - t1.kids.length))] := if_neg (by rw [lf]; exact Bool.false_ne_true)
      rw [es] at runs
      refine ⟨_, rfl, pd, vd, rfl, .inl (.inl (.inl hD)), _, rfl, p1, _, rfl, .inr (.inl (.inl hp1)), _, _, rfl, rfl, _, _, rfl, rfl, ?_⟩
      show gName 5 (.int (((vd.length : Nat) : Int) - ((V.str t1.word :: us).length : Nat) + 1)) _ _ _
      rw [show ((vd.length : Int) - ((V.str t1.word :: us).length : Nat) + 1) = ((vd.length - us.length : Nat) : Int) by rw [List.length_cons]; omega]
      refine ⟨_, rfl, _, rfl, _, rfl, pd, vd, rfl, .inl (.inl hD), fun c nc => ?_⟩
      rw [cut_from vd (by omega : vd.length - us.length ≤ vd.length)]
      have ncd : c ≠ pd := fun z => by
        rw [z, hD] at nc
        cases nc
      refine ⟨_, rfl, _, rfl, _, rfl, pd, vd, _, rfl, rfl, (by rw [upd_ne ncd.symm]; exact hD), by omega, by omega, ?_⟩
      rw [Int.toNat_natCast]
      generalize hH2 : upd (upd H' c (.lst (vd.drop (vd.length - us.length)))) pd (.lst (vd.take (vd.length - us.length))) = H2
      have k2 : Tups H' H2 := by
        rw [← hH2]
        refine (tups_same (same_new nc)).trans (tups_put fun xs z => ?_)
        rw [upd_ne ncd.symm, hD] at z
        cases z
      have hD2 : H2 pd = some (.lst (vd.take (vd.length - us.length))) := by rw [← hH2, upd_same]
      have hc2 : H2 c = some (.lst (vd.drop (vd.length - us.length))) := by rw [← hH2, upd_ne ncd, upd_same]
      have b2 : But pd H1 H2 := by
        rw [← hH2]
        exact (b.new nc).own
      have hp2 := k2 _ _ hp1
      refine ⟨_, rfl, .inl ⟨rfl, _, .inl (.inl hD2)⟩, _, rfl, p1, _, 0, _, rfl, rfl, .inl (.inl hp2), head_at _ _, _, rfl, c, _, rfl, .inr (.inl (.inl hc2)), ?_⟩
      have hn : st.length - t1.kids.length = vd.length - us.length := by omega
      have cutl : (vd.drop (vd.length - us.length)).length ≤ 6000 := by rw [List.length_drop]; omega
      refine ⟨(by show (V.str t1.word :: (vd.drop (vd.length - us.length) ++ [])).length ≤ sizeLine; rw [List.append_nil]; exact Nat.le_trans (Nat.succ_le_succ cutl) (by decide)), fun q2 nq2 => ?_⟩
      have ndq2 : pd ≠ q2 := ne_of_none hD2 nq2
      refine ⟨pd, vd.take (vd.length - us.length), .ref q2, rfl, rfl, (by rw [upd_ne ndq2]; exact hD2), line_of (by rw [List.length_take]; omega), ?_⟩
      generalize hH3 : upd (upd H2 q2 (.tup (.str t1.word :: (vd.drop (vd.length - us.length) ++ [])))) pd (.lst (vd.take (vd.length - us.length) ++ [.ref q2])) = H3
      rw [List.append_nil] at hH3
      have k3 : Tups H2 H3 := by
        rw [← hH3]
        refine (tups_same (same_new nq2)).trans (tups_put fun xs z => ?_)
        rw [upd_ne ndq2, hD2] at z
        cases z
      have hq3 : H3 q2 = some (.tup (.str t1.word :: vd.drop (vd.length - us.length))) := by rw [← hH3, upd_ne ndq2.symm, upd_same]
      have hD3 : H3 pd = some (.lst (vd.take (vd.length - us.length) ++ [.ref q2])) := by rw [← hH3, upd_same]
      have all3 : All2 (At H3) st vd := all.mono fun a c h => h.keep (k2.trans k3)
      rw [hn] at runs
      refine ⟨_, _, _, _, _, _, rfl, ?_, hD3, (all3.take _).app (.one (at_node ok1 lf ?_ (all3.drop (vd.length - us.length)) hq3)), runs, ?_⟩
      · rw [← hH3]
        exact (b2.new nq2).own
      · rw [List.length_drop]
        omega
      · rw [List.length_append, List.length_take, List.length_singleton]
        omega
  · rintro σ H' ⟨st, vd, y3, y4, y5, y6, rfl, b, hD, all, runs, lst⟩
    rw [← rows.len, List.drop_length] at runs
    have e2 : st = [chg gg t 0] := runs
    subst e2
    cases all with
    | cons h1 h2 =>
      cases h2
      refine ⟨_, rfl, pd, _, 0, _, rfl, rfl, .inl (.inl hD), atI_nat (j := 0) rfl, ?_⟩
      exact q _ _ (sH b) h1
end Kf
set_option Elab.async false
set_option linter.all false
set_option maxRecDepth 100000
set_option maxHeartbeats 4000000
set_option pp.maxSteps 400
/-! Trees as data; put_in, taken, put_for. -/
namespace Kf
open PySem PySem.Spec PyProof.Rows L2 Sx LmY
/-! ### trees as data -/
def datV : V → PyData
  | .int i => .int i
  | .str z => .str z
  | _ => .none
def Tr.dat : Tr → PyData
  | .leaf w x => .tuple [.str w, datV x]
  | .n0 w => .tuple [.str w]
  | .n1 w a => .tuple [.str w, a.dat]
  | .n2 w a b => .tuple [.str w, a.dat, b.dat]
theorem leaf_val {w : Str} {x : V} (ok : (Tr.leaf w x).Ok) : (∃ i, x = .int i) ∨ ∃ z, x = .str z := ok.2.elim (fun h => .inl h.1) (fun h => .inr h.1)
theorem At.dp {K : PySem.W.Frag} {H : Hp} : ∀ {t : Tr} {v : V}, t.Ok → At H t v → Dp K H v t.dat
  | .leaf w x, _, ok, ⟨p, e, h⟩ => by
    subst e
    refine .tup (.inl (.inl h)) (.cons (.str w) (.cons ?_ .nil))
    rcases leaf_val ok with ⟨i, rfl⟩ | ⟨z, rfl⟩
    · exact .int i
    · exact .str z
  | .n0 w, _, ok, ⟨p, e, h⟩ => by
    subst e
    exact .tup (.inl (.inl h)) (.cons (.str w) .nil)
  | .n1 w a, _, ok, ⟨p, y, e, h, ha⟩ => by
    subst e
    exact .tup (.inl (.inl h)) (.cons (.str w) (.cons (ha.dp ok.2) .nil))
  | .n2 w a b, _, ok, ⟨p, y, z, e, h, ha, hb⟩ => by
    subst e
    exact .tup (.inl (.inl h)) (.cons (.str w) (.cons (ha.dp ok.2.1) (.cons (hb.dp ok.2.2) .nil)))
theorem eqv_val {x y : V} (hx : (∃ i, x = .int i) ∨ ∃ z, x = .str z) (hy : (∃ i, y = .int i) ∨ ∃ z, y = .str z) : PyData.eqv (datV x) (datV y) = decide (x = y) := by
  rcases hx with ⟨i, rfl⟩ | ⟨z, rfl⟩ <;> rcases hy with ⟨j, rfl⟩ | ⟨u, rfl⟩
  · show (i == j) = _
    by_cases e : i = j
    · subst e
      simp
    · rw [beq_eq_false_iff_ne.mpr e, decide_eq_false (fun z => e (by injection z))]
  · show false = _
    rw [decide_eq_false (fun z => by cases z)]
  · show false = _
    rw [decide_eq_false (fun z => by cases z)]
  · show (z == u) = _
    by_cases e : z = u
    · subst e
      simp
    · rw [beq_eq_false_iff_ne.mpr e, decide_eq_false (fun z => e (by injection z))]
theorem val_tree {x : V} (hx : (∃ i, x = .int i) ∨ ∃ z, x = .str z) (t : Tr) : PyData.eqv (datV x) t.dat = false ∧ PyData.eqv t.dat (datV x) = false := by
  rcases hx with ⟨i, rfl⟩ | ⟨z, rfl⟩ <;> cases t <;> exact ⟨rfl, rfl⟩
theorem eqv_dat : ∀ t u : Tr, t.Ok → u.Ok → (PyData.eqv t.dat u.dat = true ↔ t = u)
  | .leaf w x, .leaf w2 x2, ht, hu => by
    show (w == w2 && (PyData.eqv (datV x) (datV x2) && true)) = true ↔ _
    rw [eqv_val (leaf_val ht) (leaf_val hu), Bool.and_true, Bool.and_eq_true, beq_iff_eq, decide_eq_true_eq]
    exact ⟨fun h => by rw [h.1, h.2], fun h => by injection h with a b; exact ⟨a, b⟩⟩
  | .leaf w x, .n0 w2, ht, hu => ⟨fun h => by
    have z : (w == w2 && false) = true := h
    rw [Bool.and_false] at z
    exact (Bool.false_ne_true z).elim, fun h => by cases h⟩
  | .leaf w x, .n1 w2 a, ht, hu => ⟨fun h => by
    have z : (w == w2 && (PyData.eqv (datV x) a.dat && true)) = true := h
    rw [(val_tree (leaf_val ht) a).1, Bool.false_and, Bool.and_false] at z
    exact (Bool.false_ne_true z).elim, fun h => by cases h⟩
  | .leaf w x, .n2 w2 a b, ht, hu => ⟨fun h => by
    have z : (w == w2 && (PyData.eqv (datV x) a.dat && false)) = true := h
    rw [Bool.and_false, Bool.and_false] at z
    exact (Bool.false_ne_true z).elim, fun h => by cases h⟩
  | .n0 w, .leaf w2 x, ht, hu => ⟨fun h => by
    have z : (w == w2 && false) = true := h
    rw [Bool.and_false] at z
    exact (Bool.false_ne_true z).elim, fun h => by cases h⟩
  | .n0 w, .n0 w2, ht, hu => by
    show (w == w2 && true) = true ↔ _
    rw [Bool.and_true, beq_iff_eq]
    exact ⟨fun h => by rw [h], fun h => by injection h⟩
  | .n0 w, .n1 w2 a, ht, hu => ⟨fun h => by
    have z : (w == w2 && false) = true := h
    rw [Bool.and_false] at z
    exact (Bool.false_ne_true z).elim, fun h => by cases h⟩
  | .n0 w, .n2 w2 a b, ht, hu => ⟨fun h => by
    have z : (w == w2 && false) = true := h
    rw [Bool.and_false] at z
    exact (Bool.false_ne_true z).elim, fun h => by cases h⟩
  | .n1 w a, .leaf w2 x, ht, hu => ⟨fun h => by
    have z : (w == w2 && (PyData.eqv a.dat (datV x) && true)) = true := h
    rw [(val_tree (leaf_val hu) a).2, Bool.false_and, Bool.and_false] at z
    exact (Bool.false_ne_true z).elim, fun h => by cases h⟩
  | .n1 w a, .n0 w2, ht, hu => ⟨fun h => by
    have z : (w == w2 && false) = true := h
    rw [Bool.and_false] at z
    exact (Bool.false_ne_true z).elim, fun h => by cases h⟩
  | .n1 w a, .n1 w2 a2, ht, hu => by
    show (w == w2 && (PyData.eqv a.dat a2.dat && true)) = true ↔ _
    rw [Bool.and_true, Bool.and_eq_true, beq_iff_eq, eqv_dat a a2 ht.2 hu.2]
    exact ⟨fun h => by rw [h.1, h.2], fun h => by injection h with a b; exact ⟨a, b⟩⟩
  | .n1 w a, .n2 w2 a2 b2, ht, hu => ⟨fun h => by
    have z : (w == w2 && (PyData.eqv a.dat a2.dat && false)) = true := h
    rw [Bool.and_false, Bool.and_false] at z
    exact (Bool.false_ne_true z).elim, fun h => by cases h⟩
  | .n2 w a b, .leaf w2 x, ht, hu => ⟨fun h => by
    have z : (w == w2 && (PyData.eqv a.dat (datV x) && false)) = true := h
    rw [Bool.and_false, Bool.and_false] at z
    exact (Bool.false_ne_true z).elim, fun h => by cases h⟩
  | .n2 w a b, .n0 w2, ht, hu => ⟨fun h => by
    have z : (w == w2 && false) = true := h
    rw [Bool.and_false] at z
    exact (Bool.false_ne_true z).elim, fun h => by cases h⟩
  | .n2 w a b, .n1 w2 a2, ht, hu => ⟨fun h => by
    have z : (w == w2 && (PyData.eqv a.dat a2.dat && false)) = true := h
    rw [Bool.and_false, Bool.and_false] at z
    exact (Bool.false_ne_true z).elim, fun h => by cases h⟩
  | .n2 w a b, .n2 w2 a2 b2, ht, hu => by
    show (w == w2 && (PyData.eqv a.dat a2.dat && (PyData.eqv b.dat b2.dat && true))) = true ↔ _
    rw [Bool.and_true, Bool.and_eq_true, Bool.and_eq_true, beq_iff_eq, eqv_dat a a2 ht.2.1 hu.2.1, eqv_dat b b2 ht.2.2 hu.2.2]
    exact ⟨fun h => by rw [h.1, h.2.1, h.2.2], fun h => by injection h with a b c; exact ⟨a, b, c⟩⟩
/-- its texts can stand -/
def Tr.Lay : Tr → Prop
  | .leaf w x => NmOk w ∧ ∀ z, x = .str z → NmOk z
  | .n0 w => NmOk w
  | .n1 w a => NmOk w ∧ a.Lay
  | .n2 w a b => NmOk w ∧ a.Lay ∧ b.Lay
theorem lay_dat : ∀ t : Tr, t.Ok → t.Lay → PyData.canLay0 t.dat = true ∧ PyData.depth t.dat = t.deep
  | .leaf w x, ok, h => by
    rcases leaf_val ok with ⟨i, rfl⟩ | ⟨z, rfl⟩
    · refine ⟨?_, rfl⟩
      show (w.cps.all (· < 0x110000) && (true && true)) = true
      rw [h.1]
      rfl
    · refine ⟨?_, rfl⟩
      show (w.cps.all (· < 0x110000) && (z.cps.all (· < 0x110000) && true)) = true
      rw [h.1, h.2 z rfl]
      rfl
  | .n0 w, ok, h => by
    refine ⟨?_, rfl⟩
    show (w.cps.all (· < 0x110000) && true) = true
    rw [show w.cps.all (· < 0x110000) = true from h]
    rfl
  | .n1 w a, ok, h => by
    obtain ⟨h1, h2⟩ := lay_dat a ok.2 h.2
    refine ⟨?_, ?_⟩
    · show (w.cps.all (· < 0x110000) && (PyData.canLay0 a.dat && true)) = true
      rw [h.1, h1]
      rfl
    · show max 0 (max (PyData.depth a.dat) 0) + 1 = a.deep + 1
      rw [h2]
      omega
  | .n2 w a b, ok, h => by
    obtain ⟨h1, h2⟩ := lay_dat a ok.2.1 h.2.1
    obtain ⟨h3, h4⟩ := lay_dat b ok.2.2 h.2.2
    refine ⟨?_, ?_⟩
    · show (w.cps.all (· < 0x110000) && (PyData.canLay0 a.dat && (PyData.canLay0 b.dat && true))) = true
      rw [h.1, h1, h3]
      rfl
    · show max 0 (max (PyData.depth a.dat) (max (PyData.depth b.dat) 0)) + 1 = max a.deep b.deep + 1
      rw [h2, h4]
      omega
theorem shaped_dat {t : Tr} (ok : t.Ok) (h : t.Lay) (d : t.deep ≤ 64) : SeqAt.shaped t.dat = true := by
  obtain ⟨h1, h2⟩ := lay_dat t ok h
  show (PyData.canLay0 t.dat && decide (PyData.depth t.dat ≤ 64)) = true
  rw [h1, h2, decide_eq_true d]
  rfl
theorem post_lay : ∀ (t : Tr) (r : Nat), t.Lay → ∀ e ∈ t.post r, e.1.Lay
  | .leaf w x, r, h, e, he => by rw [List.mem_singleton.mp he]; exact h
  | .n0 w, r, h, e, he => by rw [List.mem_singleton.mp he]; exact h
  | .n1 w a, r, h, e, he => by
    rcases List.mem_append.mp he with z | z
    · exact post_lay a _ h.2 e z
    · rw [List.mem_singleton.mp z]
      exact h
  | .n2 w a b, r, h, e, he => by
    rcases List.mem_append.mp he with z | z
    · rcases List.mem_append.mp z with z | z
      · exact post_lay a _ h.2.1 e z
      · exact post_lay b _ h.2.2 e z
    · rw [List.mem_singleton.mp z]
      exact h
theorem wb_lay : ∀ {t : Tr} {k : Str} {r : Int}, t.Wb k r → t.Lay
  | .leaf w x, k, r, h => by
    rcases h.2 with ⟨e, n, ex, _⟩ | ⟨e, z, ex, g⟩ | ⟨e, n, ex, _⟩
    · subst ex e
      exact ⟨by decide +kernel, fun y e => by cases e⟩
    · subst e ex
      exact ⟨by decide +kernel, fun y e => by injection e with e; rw [← e]; exact g.2.2.2⟩
    · subst ex e
      exact ⟨by decide +kernel, fun y e => by cases e⟩
  | .n0 w, k, r, h => (table_nm _ h).1
  | .n1 w a, k, r, ⟨k1, h, ha⟩ => ⟨(table_nm _ h).1, wb_lay ha⟩
  | .n2 w a b, k, r, ⟨k1, k2, h, ha, hb⟩ => ⟨(table_nm _ h).1, wb_lay ha, wb_lay hb⟩
/-- no is a word of its own -/
def Tr.Not : Tr → Prop
  | .leaf _ _ => True
  | .n0 w => w = "no"
  | .n1 w a => (w ≠ "no" ∧ NmOk w) ∧ a.Not
  | .n2 w a b => (w ≠ "no" ∧ NmOk w) ∧ a.Not ∧ b.Not
theorem row_no : ∀ e ∈ table, (e.2.2 = [] → e.1 = "no") ∧ (e.2.2 ≠ [] → e.1 ≠ "no" ∧ NmOk e.1) := by decide +kernel
theorem wb_not : ∀ {t : Tr} {k : Str} {r : Int}, t.Wb k r → t.Not
  | .leaf w x, k, r, h => trivial
  | .n0 w, k, r, h => (row_no _ h).1 rfl
  | .n1 w a, k, r, ⟨k1, h, ha⟩ => ⟨(row_no _ h).2 (by simp), wb_not ha⟩
  | .n2 w a b, k, r, ⟨k1, k2, h, ha, hb⟩ => ⟨(row_no _ h).2 (by simp), wb_not ha, wb_not hb⟩
end Kf
set_option Elab.async false
set_option linter.all false
set_option maxRecDepth 100000
set_option maxHeartbeats 3900000
/-! A lambda's making told closer: all but its maker's own table stays, other tables too. -/
namespace LmY
open PySem PySem.Spec PyProof.Rows L2 LamX NdefX
/-- all but what stands at P stays -/
def ButT (P : Addr) (H H' : Hp) : Prop := ∀ b o, b ≠ P → H b = some o → H' b = some o
theorem ButT.refl (P : Addr) (H : Hp) : ButT P H H := fun _ _ _ e => e
theorem ButT.trans {P : Addr} {H H1 H2 : Hp} (a : ButT P H H1) (b : ButT P H1 H2) : ButT P H H2 := fun c o n e => b c o n (a c o n e)
section
variable {X : Cx} {pins : List (Addr × Obj)} {σ : L2.St} {H : Hp} {s : Shared}
theorem lam_made {c P : Addr} {ar : Arguments} {body : Expr} {sc : Scope} {pos : Pos} {E Q : Value → Shared → Prop} (I : Inv X pins σ H s) (own : TabB X.base X.mg c P) (mine : X.env.code = .ref c) (here : TabS H P (X.env.qual ++ "<lambda>"))
    (plain : defaultsOf ar X.env = ([], [])) (free : ∀ y ∈ sc.names, y.2 = .free → ∃ c, X.env.cells.lookup y.1 = some c)
    (go : ∀ (fo k : Addr) (pm ct : Value) (H1 : Hp) (s1 : Shared), Inv X pins σ H1 s1 → ButT P H H1 → TabS H1 P (X.env.qual ++ "<lambda>") → s1.heap.get? fo = some (PySem.W.kla_obj "<lambda>" (X.env.qual ++ "<lambda>") ar body sc (cloFrom X.env.cells sc.names []) pm k ct) → H1 fo = none → fo ∉ frs X.stack →
      H1 k = some (CodeO k (X.env.qual ++ "<lambda>")) → Q (.ref fo) s1) :
    wpAny (model X.prog X.w) X.A (eval (.Lambda ar body sc pos) X.env) Q E s := by
  obtain ⟨ps, tabAt, trip, known⟩ := here
  have inHeap : s.heap.get? P = some { cls := .none, data := .fields ps } := I.hok P _ tabAt
  have codeHd := own.code.keeps I.bk
  have blt : s.heap.BuiltinsAt X.mg P := own.bm.keeps I.bk
  have noFrame : ∀ fo, s.heap.objs.size ≤ fo → fo ∉ frs X.stack := fun fo big z => by
    rcases List.mem_cons.mp (I.stkSub _ z) with e | e
    · have lt := I.lt
      rw [← e] at lt
      exact absurd (Nat.lt_of_lt_of_le lt big) (Nat.lt_irrefl _)
    · exact I.nofs big e
  refine PySem.W.kla_eval plain ?_
  cases found : codeAmong pos ps.toList with
  | some cv =>
    obtain ⟨k, rfl, known2⟩ := known pos cv found
    refine PySem.W.kla_makeFunctionHit (mg := X.mg) (c := c) (P := P) (ps := ps) (closure_ok free) I.ok.glob (I.mod.glob.keeps I.bk) mine codeHd inHeap trip found blt fun ct g tk grown big => ?_
    exact go g.objs.size k ((X.mg "__name__").getD .none) ct H _ (I.kept fun b ob e => Heap.get?_push_of_some _ (grown b ob e)) (ButT.refl P H) ⟨ps, tabAt, trip, known⟩ (Heap.get?_push_size _ rfl) (I.hok.fresh big) (noFrame _ big) known2
  | none =>
    refine PySem.W.kla_makeFunction (mg := X.mg) (c := c) (P := P) (ps := ps) (closure_ok free) I.ok.glob (I.mod.glob.keeps I.bk) mine codeHd inHeap trip found own.gP blt fun k ct g tk ext big lt named at2 => ?_
    obtain ⟨_, oc, us, tq, ek, o1, o2, o3⟩ := named
    cases ek
    have fresh : H k = none := I.hok.fresh big
    have apart : P ≠ k := ne_of_none tabAt fresh
    have size : s.heap.objs.size ≤ g.objs.size := Nat.le_trans big (Nat.le_of_lt lt)
    have J := inv_table (t' := tk) (more := #[rawInt pos.line, rawInt pos.col, .ref k]) (h' := g.push (PySem.W.kla_obj "<lambda>" (X.env.qual ++ "<lambda>") ar body sc (cloFrom X.env.cells sc.names []) ((X.mg "__name__").getD .none) k ct)) I tabAt
      (fun b ob n e => Heap.get?_push_of_some _ (ext b ob n e)) (Heap.get?_push_of_some _ at2) big ⟨oc, us, tq, Heap.get?_push_of_some _ o1, o2, o3⟩
    have but : ButT P H (upd (upd H P (.tbl (ps ++ #[rawInt pos.line, rawInt pos.col, .ref k]))) k (CodeO k (X.env.qual ++ "<lambda>"))) := fun b o n e => by
      rw [upd_ne (ne_of_none e fresh), upd_ne n]
      exact e
    have list : (ps ++ #[rawInt pos.line, rawInt pos.col, .ref k]).toList = ps.toList ++ [rawInt pos.line, rawInt pos.col, .ref k] := by simp
    refine go g.objs.size k ((X.mg "__name__").getD .none) ct _ _ J but ⟨_, by rw [upd_ne apart, upd_same], by rw [list]; exact PySem.TriplesOk_snoc _ _ _ _ trip, fun p2 cv among => ?_⟩ (Heap.get?_push_size _ rfl) ?_ (noFrame _ size) upd_same
    · rw [list] at among
      rcases among_app _ trip among with old | new
      · obtain ⟨k0, e1, e2⟩ := known p2 cv old
        exact ⟨k0, e1, but _ _ (fun z => by rw [z, tabAt] at e2; unfold CodeO at e2; cases e2) e2⟩
      · exact ⟨k, new, upd_same⟩
    · rw [upd_ne (Nat.ne_of_gt lt), upd_ne (Nat.ne_of_gt (Nat.lt_of_lt_of_le (Heap.lt_size inHeap) size))]
      exact I.hok.fresh size
end
def tLam3 (P : Addr) (q : Str) (N : List Str) (js : List Nat) (TT : (List V → Hp → VK → Prop) → V → Hp → VK → Prop) (te : TE) (t : TE) : TE := fun σ H Q => te σ H fun v H0 => TabS H0 P q ∧ ∀ H1, ButT P H0 H1 → TabS H1 P q → TT (fun vs H' Q' => t (startF N vs (js.map (slotAt σ))) H' Q') v H1 Q
section
variable {X : Cx}
/-- x(e, lambda ..: body), as pe_lamcall2, with all other tables kept -/
theorem pe_lamcall3 {TT : (List V → Hp → VK → Prop) → V → Hp → VK → Prop} {x a0 a : Str} {g c tab : Addr} {m : Nat} {pg : Arguments} {bg : List Stmt} {sg : Scope} {dV kV doc pm cdv ct oc : Value} {an od : Option Addr} {osl : Array (Option Value)} {N Ng ps fr : List Str} {js : List Nat}
    {ar : Arguments} {body e : Expr} {sc : Scope} {te t : TE} {p0 p1 p2 : Pos} (gx : Gl X x) (mx : X.mg x = some (.ref g)) (kx : PySem.W.keepIn X.K (.ref g) = true)
    (look : X.K.lookup g = some ⟨oc, od, .func (PySem.W.fnOf x x pg bg sg dV kV doc pm an cdv ct), osl⟩) (code : PySem.W.codeIn X.K cdv x = true) (bx : L2.Binds X.K (PySem.W.fnOf x x pg bg sg dV kV doc pm an cdv ct) [a0, a] []) (Sg : FnScope Ng [a0, a] sg) (second : Ng[1]? = some a) (seen : Vis sg a)
    (gives : Gives2 X Ng x sg g cdv bg a (X.env.qual ++ "<lambda>") ps m TT) (pe : PE X e te)
    (own : TabB X.base X.mg c tab) (mine : X.env.code = .ref c) (room : Room (m + 2) X.A)
    (S : NScope N ps fr sc) (held : ndefB X.env.scope sc fr = true) (slots : js.map (fun j => X.N[j]?) = fr.map some) (plain : defaultsOf ar X.env = ([], []))
    (bind : ∀ (q : Str) (cl : List (Str × Addr)) (pm cv ctv : Value) (us : List Value), us.length = ps.length → bindArgs (PySem.W.kla_fn "<lambda>" q ar body sc cl pm cv ctv) ⟨us, []⟩ = pure (ps.zip us))
    (inner : ∀ (A : Around) (outer : List Env) (sh : Shared) (hp : Hp) (fo k : Addr), Room m (A.deeper (envF (lamF X ar sc k) fo sh.heap.objs.size)) → PE (lamX X N ar sc fo k A outer sh hp) body t)
    (h0 : (x == ("__debug__" : Str)) = false := by decide) (h1 : (a == ("__debug__" : Str)) = false := by decide) (h2 : (a == ("__classdict__" : Str)) = false := by decide)
    (h3 : starEach (e :: [.Lambda ar body sc p1]) X.env = (false, eval e X.env) :: starEach [.Lambda ar body sc p1] X.env := by rfl) :
    PE X (.Call (.Name x p0) [e, .Lambda ar body sc p1] [] p2) (tLam3 tab (X.env.qual ++ "<lambda>") N js TT te t) := by
  refine ⟨fun pins s σ H Q I reading => wpAny_Call_Name_kw (ld_glob I gx mx (PySem.W.callWith_K (h₀ := X.base) I.ok.mod.kin kx ?_ h3 (by rfl)) h0)⟩
  rw [h3]
  show wpAny _ _ (spliced ((false, eval e X.env) :: backTo p2 (starEach [.Lambda ar body sc p1] X.env))) _ _ s
  refine Calls.spliced_cons (thn (pe.run pins s σ H _ I reading) fun u s0 ⟨v, H0, I0, r0, tabs0, later⟩ => ?_)
  show wpAny _ _ (spliced ((false, eval (.Lambda ar body sc p1) X.env) :: backTo p2 (starEach [] X.env))) _ _ s0
  refine Calls.spliced_cons (lam_made I0 own mine tabs0 plain (fun y hy e => (ndef_free held y hy e).elim (fun z => I0.ok.has _ (.inl z)) fun z => I0.ok.has _ (.inr z)) fun fo k pmF ctF H1 s1 I1 grown tabs1 at_ off noF codeK => Calls.spliced_nil ⟨I1.kIn, land I1 ?_⟩)
  refine run_ofS (N := Ng) (ps := [a0, a]) (us := [u, .ref fo]) (vs := [v, .ref fo]) look code Sg room I1.env0 (bx s1 [u, .ref fo] I1.kIn rfl) (.cons r0 (.cons rfl .nil)) rfl fun room1 => ?_
  obtain ⟨ts, run, told⟩ := gives fo k s1 H1 v Q _ (fun q1 q2 e1 es1 t1 pa he hp => pe_lact (i := 1) (js := js) I1 S (Caps.made I1.ok (ndef_free held) (ndef_fr held) slots) at_ off noF (fun us hl => bind _ _ _ _ _ us hl) room1 (fun A outer sh hp2 r2 => inner A outer sh hp2 fo k r2) second seen pa h1 h2 he hp) room1 codeK (later H1 grown tabs1)
  exact ⟨ts, run.nox, told⟩
end
end LmY
set_option Elab.async false
set_option linter.all false
set_option maxRecDepth 100000
set_option maxHeartbeats 4000000
set_option pp.maxSteps 400
/-! put_in, taken, put_for. -/
namespace Kf
open PySem PySem.Spec PyProof.Rows L2 Sx LmY LamX NdefX
abbrev sPutFor : Stmt := top 22
theorem scPutFor : FnScope ["saying", "name", "term"] ["saying", "name", "term"] (defScope sPutFor) := ⟨rfl, rfl, rfl, by decide +kernel, rfl, by decide +kernel, by decide +kernel⟩
/-- the tree new where the tree old stands -/
def sub (old new : Nat → Tr) (t : Tr) (r : Nat) : Tr := if PyData.eqv t.dat (old r).dat = true then new r else t
abbrev bnd (r : Nat) : Tr := .leaf "bound" (.int (r : Int))
abbrev nme (z : Str) : Tr := .leaf "name" (.str z)
def putB (u t : Tr) : Tr := chg (sub bnd fun _ => u) t 0
def takeN (z : Str) (t : Tr) : Tr := chg (sub (fun _ => nme z) bnd) t 0
def putN (z : Str) (u t : Tr) : Tr := chg (sub (fun _ => nme z) fun _ => u) t 0
abbrev lq (x : Str) : Str := x ++ ".<locals>." ++ "<lambda>"
theorem same_extN {H H' : Hp} (s : Same H H') : ExtN H H' := fun b o e _ => s b o e
theorem extN_tups {H H' : Hp} (s : ExtN H H') : Tups H H' := fun b xs e => s b _ e fun ps z => by cases z
/-- the tables of the top: those of lambdas, and that of a generator -/
structure Tbs (T : List (Addr × Str)) (PW : Addr) (H : Hp) : Prop where
  lam : Tabs T H
  gen : GxR.TabG H PW
theorem Tbs.ext {T : List (Addr × Str)} {PW : Addr} {H H' : Hp} (h : Tbs T PW H) (s : Same H H') : Tbs T PW H' := ⟨h.lam.ext s, by
  obtain ⟨ps, e1, e2⟩ := h.gen
  exact ⟨ps, s _ _ e1, e2⟩⟩
theorem Tbs.made {T : List (Addr × Str)} {PW P : Addr} {q : Str} {H H' : Hp} (h : Tbs T PW H) (hm : (P, q) ∈ T) (b : ButT P H H') (t : TabS H' P q) (sole : ∀ p ∈ T, p.1 = P → p.2 = q) (far : P ≠ PW) : Tbs T PW H' := by
  obtain ⟨qs, t1, _⟩ := h.lam (P, q) hm
  refine ⟨fun p hp => ?_, ?_⟩
  · by_cases e : p.1 = P
    · rw [e, sole p hp e]
      exact t
    · obtain ⟨ps, h1, h2, h3⟩ := h.lam p hp
      refine ⟨ps, b _ _ e h1, h2, fun pos cv hc => ?_⟩
      obtain ⟨c, e1, e2⟩ := h3 pos cv hc
      exact ⟨c, e1, b _ _ (fun z => by rw [z, t1] at e2; unfold CodeO at e2; cases e2) e2⟩
  · obtain ⟨ps, e1, e2⟩ := h.gen
    exact ⟨ps, b _ _ far.symm e1, e2⟩
def spPutIn (T : List (Addr × Str)) (PW : Addr) : Sp := fun vs H Q _ => ∃ (v1 v2 : V) (t u : Tr), vs = [v1, v2] ∧ At H t v1 ∧ t.Ok ∧ t.Lay ∧ t.size ≤ 6000 ∧ At H u v2 ∧ Tbs T PW H ∧ ∀ w H', ExtN H H' → Tbs T PW H' → At H' (putB u t) w → Q w H'
def spTaken (T : List (Addr × Str)) (PW : Addr) : Sp := fun vs H Q _ => ∃ (v1 : V) (z : Str) (t : Tr), vs = [v1, .str z] ∧ At H t v1 ∧ t.Ok ∧ t.Lay ∧ t.size ≤ 6000 ∧ NmOk z ∧ Tbs T PW H ∧ ∀ w H', ExtN H H' → Tbs T PW H' → At H' (takeN z t) w → Q w H'
def spPutFor (T : List (Addr × Str)) (PW : Addr) : Sp := fun vs H Q _ => ∃ (v1 v2 : V) (z : Str) (t u : Tr), vs = [v1, .str z, v2] ∧ At H t v1 ∧ t.Ok ∧ t.Lay ∧ t.size ≤ 6000 ∧ NmOk z ∧ At H u v2 ∧ Tbs T PW H ∧ ∀ w H', ExtN H H' → Tbs T PW H' → At H' (putN z u t) w → Q w H'
theorem ok_bnd (r : Nat) : (bnd r).Ok := ⟨by decide +kernel, .inl ⟨⟨_, rfl⟩, by decide +kernel⟩⟩
theorem ok_nme (z : Str) : (nme z).Ok := ⟨by decide +kernel, .inr ⟨⟨_, rfl⟩, rfl⟩⟩
theorem sh_bnd (r : Nat) : SeqAt.shaped (bnd r).dat = true := shaped_dat (ok_bnd r) ⟨by decide +kernel, fun z e => by cases e⟩ (by show 1 ≤ 64; decide)
theorem sh_nme {z : Str} (h : NmOk z) : SeqAt.shaped (nme z).dat = true := shaped_dat (ok_nme z) ⟨by decide +kernel, fun y e => by injection e with e; rw [← e]; exact h⟩ (by show 1 ≤ 64; decide)
/-- what the three rest on -/
structure Put (P : Program) (w : World) (K : PySem.W.Frag) (mg : Str → Option Value) (base : Heap) (T : List (Addr × Str)) (gc gp L : Addr) (dc dp : FuncData) : Prop where
  C : Fun K "changed" "changed" sChanged gc dc
  bC : Binds K dc ["thing", "leaf"] []
  mC : mg "changed" = some (.ref gc)
  G : FnOk P w K mg base CX0 2 gp dp ["thing"] spPieces
  bG : Binds K dp ["thing"] []
  kG : PySem.W.keepIn K (.ref gp) = true
  mG : mg "pieces_of" = some (.ref gp)
  mL : mg "LEAVES" = some (.ref L)
  tL : ∀ H, SqT K H L leafVs
  ml : mg "len" = none
theorem leaf_deep {t : Tr} (ok : t.Ok) (h : leafy t.word = true) : t.deep ≤ 64 := by
  cases t with
  | leaf w x => show 1 ≤ 64; decide
  | n0 w => show 1 ≤ 64; decide
  | n1 w a => exact (no_leaf ok.1 h).elim
  | n2 w a b => exact (no_leaf ok.1 h).elim
section
variable {P : Program} {w : World} {K : PySem.W.Frag} {mg : Str → Option Value} {base : Heap} {T : List (Addr × Str)} {gc gp L : Addr} {dc dp : FuncData}
theorem ok_putfor {f c PT : Addr} {oc kV dcv pm ct : Value} {od an : Option Addr} {osl : Array (Option Value)}
    (lk : K.lookup f = some ⟨oc, od, .func (PySem.W.fnOf "put_for" "put_for" (defArgs sPutFor) (defBody sPutFor) (defScope sPutFor) .none kV dcv pm an (.ref c) ct), osl⟩) (hcd : PySem.W.codeIn K (.ref c) "put_for" = true) (tab : TabB base mg c PT)
    (hm : (PT, lq "put_for") ∈ T) (hu : ∀ p ∈ T, p.1 = PT → p.2 = lq "put_for") (W : Put P w K mg base T gc gp L dc dp) {PW : Addr} (far : PT ≠ PW) :
    FnOk P w K mg base CX0 4 f (PySem.W.fnOf "put_for" "put_for" (defArgs sPutFor) (defBody sPutFor) (defScope sPutFor) .none kV dcv pm an (.ref c) ct) ["saying", "name", "term"] (spPutFor T PW) := by
  obtain ⟨oc2, od2, kV2, doc2, pm2, an2, cdv2, ct2, osl2, rfl, lk2, hcd2⟩ := W.C.ex
  refine fn_of lk hcd scPutFor (fun vs H Q E h => ?_) fun A outer s H vs Q E hr h => ?_
  · obtain ⟨v1, v2, z, t, u, rfl, _⟩ := h
    rfl
  obtain ⟨v1, v2, z, t, u, rfl, hA, hO, hL, hd, hz, hB, hT, q⟩ := h
  refine ⟨_, pss_one (ps_ret (pe_lamcall3 (js := [1, 2]) (ps := ["piece", "around"]) (a0 := "thing") (a := "leaf") (by rfl) W.mC W.C.kp lk2 hcd2 W.bC scChanged rfl (.inl rfl)
    (changed_gives W.G W.bG W.kG W.mG W.mL W.tL W.ml) (pv 0) tab rfl hr (nscope_by (N := ["piece", "around", "name", "term"]) (fr := ["name", "term"]) (by decide +kernel)) (show ndefB (defScope sPutFor) _ ["name", "term"] = true from by decide +kernel) rfl (by rfl)
    (fun _ _ _ _ _ us hl => match us, hl with | [_, _], _ => rfl)
    (fun A outer sh hp fo k hr2 => pe_ifExp (pt_cmpR (show OpR _ (compareOp .Eq) (rEqD K) from op_eqD hr2.units) (pv 0) (pe_tup (pa_cons pe_str (pa_cons (pv 2) pa_nil))) (nomark _)) (pv 3) (pv 0)))), ?_⟩
  refine ⟨_, rfl, hT.lam _ hm, fun H1 b1 t1 => ?_⟩
  have hT1 := hT.made hm b1 t1 hu far
  have e1 : ExtN H H1 := fun b o e n => b1 b o (fun z => by
    obtain ⟨ps, at1, _⟩ := hT.lam _ hm
    rw [z, at1] at e
    exact n ps (Option.some.inj e).symm) e
  refine ⟨t, sub (fun _ => nme z) fun _ => u, hA.keep (extN_tups e1), hO, hd, fun H' t1 v1 r Q' mem sm a1 lf k => ?_, fun w H' sm a => q w H' (e1.trans (same_extN sm)) (hT1.ext sm) a⟩
  have ok1 : t1.Ok := post_ok t 0 hO (t1, r) mem
  have ly1 : t1.Lay := post_lay t 0 hL (t1, r) mem
  refine ⟨_, rfl, _, rfl, (by show 2 ≤ sizeLine; decide), fun p np => ?_⟩
  have sp : Same H' (upd H' p (.tup [.str "name", .str z])) := same_new np
  refine ⟨t1.dat, (nme z).dat, (a1.keep (tups_same sp)).dp ok1, At.dp (ok_nme z) ⟨p, rfl, upd_same⟩, shaped_dat ok1 ly1 (leaf_deep ok1 lf), sh_nme hz, _, rfl, ?_⟩
  have e2 : ∀ {b : Bool}, PyData.eqv t1.dat (nme z).dat = b → sub (fun _ => nme z) (fun _ => u) t1 r = if b = true then u else t1 := fun {b} e => by
    unfold sub
    rw [e]
  cases eb : PyData.eqv t1.dat (nme z).dat with
  | true =>
    refine iteT ⟨_, rfl, k _ _ sp ?_⟩
    rw [e2 eb]
    exact hB.keep ((extN_tups e1).trans ((tups_same sm).trans (tups_same sp)))
  | false =>
    refine iteF ⟨_, rfl, k _ _ sp ?_⟩
    rw [e2 eb]
    exact a1.keep (tups_same sp)
end
end Kf
set_option Elab.async false
set_option linter.all false
set_option maxRecDepth 100000
set_option maxHeartbeats 4000000
set_option pp.maxSteps 400
/-! Puttings, one behind the other. -/
namespace Kf
open PySem PySem.Spec PyProof.Rows L2 Sx
theorem sub_yes {old new : Nat → Tr} {t : Tr} {r : Nat} (ok : t.Ok) (e : t = old r) : sub old new t r = new r := by
  unfold sub
  rw [if_pos ((eqv_dat t (old r) ok (e ▸ ok)).2 e)]
theorem sub_no {old new : Nat → Tr} {t : Tr} {r : Nat} (ok : t.Ok) (ok2 : (old r).Ok) (e : t ≠ old r) : sub old new t r = t := by
  unfold sub
  rw [if_neg fun h => e ((eqv_dat t (old r) ok ok2).1 h)]
/-- a leaf: a number, a name, a bound -/
theorem leaf_ways {w : Str} {x : V} (ok : (Tr.leaf w x).Ok) : (∃ z, Tr.leaf w x = nme z ∧ (Tr.leaf w x).names = [z]) ∨ (w ≠ "name" ∧ (Tr.leaf w x).names = []) := by
  rcases ok.2 with ⟨_, ne⟩ | ⟨⟨z, e⟩, ew⟩
  · exact .inr ⟨ne, if_neg ne⟩
  · subst e
    subst ew
    exact .inl ⟨z, rfl, if_pos rfl⟩
theorem nme_names (z : Str) : (nme z).names = [z] := if_pos rfl
theorem not_nme {w : Str} {x : V} (h : w ≠ "name") (z : Str) : Tr.leaf w x ≠ nme z := fun e => h (by injection e)
theorem nme_ne {y z : Str} (h : y ≠ z) : nme y ≠ nme z := fun e => h (by injection e with _ e; injection e)
theorem nme_bnd (y : Str) (r : Nat) : nme y ≠ bnd r := fun e => by
  injection e with e _
  exact absurd e (by decide +kernel)
/-- by a test that is nowhere so, all stays -/
theorem chg_none {z : Str} {new : Nat → Tr} : ∀ (t : Tr) (r : Nat), t.Ok → z ∉ t.names → chg (sub (fun _ => nme z) new) t r = t
  | .leaf w x, r, ok, h => by
    refine sub_no ok (ok_nme z) fun e => h ?_
    rw [e, nme_names]
    exact List.mem_singleton.mpr rfl
  | .n0 w, r, ok, h => rfl
  | .n1 w a, r, ok, h => by
    show Tr.n1 w (chg _ a _) = _
    rw [chg_none a _ ok.2 h]
  | .n2 w a b, r, ok, h => by
    show Tr.n2 w (chg _ a _) (chg _ b _) = _
    rw [chg_none a _ ok.2.1 fun z => h (List.mem_append.mpr (.inl z)), chg_none b _ ok.2.2 fun z => h (List.mem_append.mpr (.inr z))]
theorem chg_same {z : Str} : ∀ (t : Tr) (r : Nat), t.Ok → chg (sub (fun _ => nme z) fun _ => nme z) t r = t
  | .leaf w x, r, ok => by
    show sub _ _ _ _ = _
    by_cases e : Tr.leaf w x = nme z
    · rw [sub_yes ok e, e]
    · exact sub_no ok (ok_nme z) e
  | .n0 w, r, ok => rfl
  | .n1 w a, r, ok => by
    show Tr.n1 w (chg _ a _) = _
    rw [chg_same a _ ok.2]
  | .n2 w a b, r, ok => by
    show Tr.n2 w (chg _ a _) (chg _ b _) = _
    rw [chg_same a _ ok.2.1, chg_same b _ ok.2.2]
theorem chg_far {z : Str} {u : Tr} : ∀ (t : Tr) (r q : Nat), chg (sub (fun _ => nme z) fun _ => u) t r = chg (sub (fun _ => nme z) fun _ => u) t q
  | .leaf w x, r, q => rfl
  | .n0 w, r, q => rfl
  | .n1 w a, r, q => by
    show Tr.n1 w (chg _ a _) = Tr.n1 w (chg _ a _)
    rw [chg_far a _ (inner w q)]
  | .n2 w a b, r, q => by
    show Tr.n2 w (chg _ a _) (chg _ b _) = Tr.n2 w (chg _ a _) (chg _ b _)
    rw [chg_far a _ (inner w q), chg_far b _ (inner w q)]
/-- a name that stands nowhere put in -/
theorem taken_put {z : Str} : ∀ (t : Tr) (r : Nat), t.Ok → z ∉ t.names → chg (sub (fun _ => nme z) bnd) (chg (sub bnd fun _ => nme z) t r) r = t
  | .leaf w x, r, ok, h => by
    show chg (sub (fun _ => nme z) bnd) (sub _ _ (.leaf w x) r) r = _
    by_cases e : Tr.leaf w x = bnd r
    · rw [sub_yes ok e, e]
      exact sub_yes (ok_nme z) rfl
    · rw [sub_no ok (ok_bnd r) e]
      exact chg_none _ _ ok h
  | .n0 w, r, ok, h => rfl
  | .n1 w a, r, ok, h => by
    show Tr.n1 w (chg _ (chg _ a _) _) = _
    rw [taken_put a _ ok.2 h]
  | .n2 w a b, r, ok, h => by
    show Tr.n2 w (chg _ (chg _ a _) _) (chg _ (chg _ b _) _) = _
    rw [taken_put a _ ok.2.1 fun z => h (List.mem_append.mpr (.inl z)), taken_put b _ ok.2.2 fun z => h (List.mem_append.mpr (.inr z))]
theorem put_put {z : Str} {u : Tr} : ∀ (t : Tr) (r : Nat), t.Ok → z ∉ t.names → chg (sub (fun _ => nme z) fun _ => u) (chg (sub bnd fun _ => nme z) t r) r = chg (sub bnd fun _ => u) t r
  | .leaf w x, r, ok, h => by
    show chg (sub (fun _ => nme z) fun _ => u) (sub _ _ (.leaf w x) r) r = sub _ _ (.leaf w x) r
    by_cases e : Tr.leaf w x = bnd r
    · rw [sub_yes ok e, sub_yes ok e]
      exact sub_yes (ok_nme z) rfl
    · rw [sub_no ok (ok_bnd r) e, sub_no ok (ok_bnd r) e]
      exact chg_none _ _ ok h
  | .n0 w, r, ok, h => rfl
  | .n1 w a, r, ok, h => by
    show Tr.n1 w (chg _ (chg _ a _) _) = Tr.n1 w (chg _ a _)
    rw [put_put a _ ok.2 h]
  | .n2 w a b, r, ok, h => by
    show Tr.n2 w (chg _ (chg _ a _) _) (chg _ (chg _ b _) _) = Tr.n2 w (chg _ a _) (chg _ b _)
    rw [put_put a _ ok.2.1 fun z => h (List.mem_append.mpr (.inl z)), put_put b _ ok.2.2 fun z => h (List.mem_append.mpr (.inr z))]
/-- two names, either way about -/
theorem two_ways {n o : Str} {u v : Tr} (ne : n ≠ o) (okv : v.Ok) (hv : n ∉ v.names) : ∀ (t : Tr) (r : Nat), t.Ok →
    chg (sub (fun _ => nme o) fun _ => v) (chg (sub (fun _ => nme n) fun _ => u) t r) r = chg (sub (fun _ => nme n) fun _ => chg (sub (fun _ => nme o) fun _ => v) u 0) (chg (sub (fun _ => nme o) fun _ => v) t r) r
  | .leaf w x, r, ok => by
    show chg _ (sub _ _ (.leaf w x) r) r = chg _ (sub _ _ (.leaf w x) r) r
    by_cases e : Tr.leaf w x = nme n
    · rw [sub_yes ok e, sub_no ok (ok_nme o) (by rw [e]; exact nme_ne ne), e]
      show chg _ u r = sub _ _ (nme n) r
      rw [sub_yes (ok_nme n) rfl]
      exact chg_far u r 0
    · rw [sub_no ok (ok_nme n) e]
      by_cases e2 : Tr.leaf w x = nme o
      · show sub _ _ (.leaf w x) r = _
        rw [sub_yes ok e2]
        exact (chg_none v r okv hv).symm
      · show sub _ _ (.leaf w x) r = _
        rw [sub_no ok (ok_nme o) e2]
        exact (sub_no ok (ok_nme n) e).symm
  | .n0 w, r, ok => rfl
  | .n1 w a, r, ok => by
    show Tr.n1 w (chg _ (chg _ a _) _) = Tr.n1 w (chg _ (chg _ a _) _)
    rw [two_ways ne okv hv a _ ok.2]
  | .n2 w a b, r, ok => by
    show Tr.n2 w (chg _ (chg _ a _) _) (chg _ (chg _ b _) _) = Tr.n2 w (chg _ (chg _ a _) _) (chg _ (chg _ b _) _)
    rw [two_ways ne okv hv a _ ok.2.1, two_ways ne okv hv b _ ok.2.2]
/-- the names that stand there behind it -/
theorem put_names {n : Str} {u : Tr} : ∀ (t : Tr) (r : Nat), t.Ok → ∀ z, z ∈ (chg (sub (fun _ => nme n) fun _ => u) t r).names ↔ (z ∈ t.names ∧ z ≠ n) ∨ (n ∈ t.names ∧ z ∈ u.names)
  | .leaf w x, r, ok, z => by
    show z ∈ (sub _ _ (.leaf w x) r).names ↔ _
    by_cases e : Tr.leaf w x = nme n
    · rw [sub_yes ok e, e, nme_names]
      constructor
      · intro h
        exact .inr ⟨List.mem_singleton.mpr rfl, h⟩
      · rintro (⟨h, ne⟩ | ⟨_, h⟩)
        · exact absurd (List.mem_singleton.mp h) ne
        · exact h
    · rw [sub_no ok (ok_nme n) e]
      have hn : n ∉ (Tr.leaf w x).names := fun h => by
        rcases leaf_ways ok with ⟨y, e2, e3⟩ | ⟨_, e3⟩
        · rw [e3] at h
          exact e (by rw [e2, List.mem_singleton.mp h])
        · rw [e3] at h
          exact List.not_mem_nil h
      constructor
      · intro h
        exact .inl ⟨h, fun q => hn (q ▸ h)⟩
      · rintro (⟨h, _⟩ | ⟨h, _⟩)
        · exact h
        · exact absurd h hn
  | .n0 w, r, ok, z => by
    show z ∈ ([] : List Str) ↔ (z ∈ ([] : List Str) ∧ _) ∨ (n ∈ ([] : List Str) ∧ _)
    simp
  | .n1 w a, r, ok, z => put_names a (inner w r) ok.2 z
  | .n2 w a b, r, ok, z => by
    show z ∈ (chg _ a _).names ++ (chg _ b _).names ↔ (z ∈ a.names ++ b.names ∧ _) ∨ (n ∈ a.names ++ b.names ∧ _)
    rw [List.mem_append, List.mem_append, List.mem_append, put_names a _ ok.2.1 z, put_names b _ ok.2.2 z]
    constructor
    · rintro ((⟨h, q⟩ | ⟨h, q⟩) | (⟨h, q⟩ | ⟨h, q⟩))
      · exact .inl ⟨.inl h, q⟩
      · exact .inr ⟨.inl h, q⟩
      · exact .inl ⟨.inr h, q⟩
      · exact .inr ⟨.inr h, q⟩
    · rintro (⟨h | h, q⟩ | ⟨h | h, q⟩)
      · exact .inl (.inl ⟨h, q⟩)
      · exact .inr (.inl ⟨h, q⟩)
      · exact .inl (.inr ⟨h, q⟩)
      · exact .inr (.inr ⟨h, q⟩)
/-! ### what is put together stays a tree -/
theorem chg_ok {g : Tr → Nat → Tr} (hg : ∀ t r, t.Ok → leafy t.word = true → (g t r).Ok) : ∀ (t : Tr) (r : Nat), t.Ok → (chg g t r).Ok
  | .leaf w x, r, ok => hg _ r ok ok.1
  | .n0 w, r, ok => ok
  | .n1 w a, r, ok => ⟨ok.1, chg_ok hg a _ ok.2⟩
  | .n2 w a b, r, ok => ⟨ok.1, chg_ok hg a _ ok.2.1, chg_ok hg b _ ok.2.2⟩
theorem chg_not {g : Tr → Nat → Tr} (hg : ∀ t r, t.Not → (g t r).Not) : ∀ (t : Tr) (r : Nat), t.Not → (chg g t r).Not
  | .leaf w x, r, no => hg _ r no
  | .n0 w, r, no => no
  | .n1 w a, r, no => ⟨no.1, chg_not hg a _ no.2⟩
  | .n2 w a b, r, no => ⟨no.1, chg_not hg a _ no.2.1, chg_not hg b _ no.2.2⟩
theorem chg_lay {g : Tr → Nat → Tr} (hg : ∀ t r, t.Lay → (g t r).Lay) : ∀ (t : Tr) (r : Nat), t.Lay → (chg g t r).Lay
  | .leaf w x, r, h => hg _ r h
  | .n0 w, r, h => h
  | .n1 w a, r, h => ⟨h.1, chg_lay hg a _ h.2⟩
  | .n2 w a b, r, h => ⟨h.1, chg_lay hg a _ h.2.1, chg_lay hg b _ h.2.2⟩
theorem chg_deep {g : Tr → Nat → Tr} {d : Nat} (hg : ∀ t r, t.deep ≤ 1 → (g t r).deep ≤ d + 1) : ∀ (t : Tr) (r : Nat), (chg g t r).deep ≤ t.deep + d
  | .leaf w x, r => by
    have h := hg (.leaf w x) r (Nat.le_refl 1)
    show (g (.leaf w x) r).deep ≤ 1 + d
    omega
  | .n0 w, r => Nat.le_add_right _ _
  | .n1 w a, r => by
    have h := chg_deep hg a (inner w r)
    show (chg g a (inner w r)).deep + 1 ≤ a.deep + 1 + d
    omega
  | .n2 w a b, r => by
    have h1 := chg_deep hg a (inner w r)
    have h2 := chg_deep hg b (inner w r)
    show max (chg g a (inner w r)).deep (chg g b (inner w r)).deep + 1 ≤ max a.deep b.deep + 1 + d
    omega
section
variable {old new : Nat → Tr}
theorem sub_pick (old new : Nat → Tr) (t : Tr) (r : Nat) : sub old new t r = new r ∨ sub old new t r = t := by
  unfold sub
  split
  · exact .inl rfl
  · exact .inr rfl
theorem put_ok (hn : ∀ r, (new r).Ok) {t : Tr} {r : Nat} (ok : t.Ok) : (chg (sub old new) t r).Ok := chg_ok (fun t r h _ => (sub_pick old new t r).elim (fun e => e ▸ hn r) fun e => e.symm ▸ h) t r ok
theorem put_not (hn : ∀ r, (new r).Not) {t : Tr} {r : Nat} (no : t.Not) : (chg (sub old new) t r).Not := chg_not (fun t r h => (sub_pick old new t r).elim (fun e => e ▸ hn r) fun e => e.symm ▸ h) t r no
theorem put_lay (hn : ∀ r, (new r).Lay) {t : Tr} {r : Nat} (ly : t.Lay) : (chg (sub old new) t r).Lay := chg_lay (fun t r h => (sub_pick old new t r).elim (fun e => e ▸ hn r) fun e => e.symm ▸ h) t r ly
theorem put_deep {d : Nat} (hn : ∀ r, (new r).deep ≤ d + 1) (t : Tr) (r : Nat) : (chg (sub old new) t r).deep ≤ t.deep + d := chg_deep (fun t r h => (sub_pick old new t r).elim (fun e => e ▸ hn r) fun e => by rw [e]; omega) t r
end
/-! ### what comes of puttings is well made -/
theorem wb_chg {g : Tr → Nat → Tr} {a b : Int} (hl : ∀ w x (r : Nat), LeafB w x ((r : Int) + a) → (g (.leaf w x) r).Wb kT ((r : Int) + b)) : ∀ (t : Tr) (k : Str) (r : Nat), t.Wb k ((r : Int) + a) → (chg g t r).Wb k ((r : Int) + b)
  | .leaf w x, k, r, ⟨e, h⟩ => by
    rw [e]
    exact hl w x r h
  | .n0 w, k, r, h => h
  | .n1 w t, k, r, ⟨k1, h, ht⟩ => ⟨k1, h, by
    rw [up_inner] at ht ⊢
    exact wb_chg hl t k1 _ ht⟩
  | .n2 w t u, k, r, ⟨k1, k2, h, ht, hu⟩ => ⟨k1, k2, h, by
    rw [up_inner] at ht ⊢
    exact wb_chg hl t k1 _ ht, by
    rw [up_inner] at hu ⊢
    exact wb_chg hl u k2 _ hu⟩
theorem leafB_mono {w : Str} {x : V} {r q : Int} (le : r ≤ q) (h : LeafB w x r) : LeafB w x q := (wb_mono (t := .leaf w x) (k := kT) le ⟨rfl, h⟩).2
theorem wb_putB {u : Tr} (hu : u.Wb kT 0) {t : Tr} (h : t.Wb kS 1) : (putB u t).Wb kS 0 := by
  have z := wb_chg (g := sub bnd fun _ => u) (a := 1) (b := 0) (fun w x r hl => ?_) t kS 0 (by rw [show (((0 : Nat) : Int) + 1) = 1 from rfl]; exact h)
  · exact z
  · by_cases e : Tr.leaf w x = bnd r
    · rw [sub_yes (leaf_ok hl) e]
      exact wb_mono (by omega) hu
    · rw [sub_no (leaf_ok hl) (ok_bnd r) e]
      refine ⟨rfl, ?_⟩
      rcases hl with hl | hl | ⟨ew, n, en, h0, h1⟩
      · exact .inl hl
      · exact .inr (.inl hl)
      · refine .inr (.inr ⟨ew, n, en, h0, ?_⟩)
        have ne : n ≠ (r : Int) := fun z => e (by rw [ew, en, z])
        omega
theorem wb_takeN {z : Str} {t : Tr} (h : t.Wb kS 0) : (takeN z t).Wb kS 1 := by
  have z := wb_chg (g := sub (fun _ => nme z) bnd) (a := 0) (b := 1) (fun w x r hl => ?_) t kS 0 (by rw [show (((0 : Nat) : Int) + 0) = 0 from rfl]; exact h)
  · exact z
  · by_cases e : Tr.leaf w x = nme z
    · rw [sub_yes (leaf_ok hl) e]
      exact ⟨rfl, .inr (.inr ⟨rfl, r, rfl, Int.natCast_nonneg _, by omega⟩)⟩
    · rw [sub_no (leaf_ok hl) (ok_nme z) e]
      exact ⟨rfl, leafB_mono (by omega) hl⟩
theorem wb_putN {z : Str} {u : Tr} (hu : u.Wb kT 0) {t : Tr} (h : t.Wb kS 0) : (putN z u t).Wb kS 0 := by
  have z := wb_chg (g := sub (fun _ => nme z) fun _ => u) (a := 0) (b := 0) (fun w x r hl => ?_) t kS 0 (by rw [show (((0 : Nat) : Int) + 0) = 0 from rfl]; exact h)
  · exact z
  · by_cases e : Tr.leaf w x = nme z
    · rw [sub_yes (leaf_ok hl) e]
      exact wb_mono (by omega) hu
    · rw [sub_no (leaf_ok hl) (ok_nme z) e]
      exact ⟨rfl, hl⟩
/-- where no bound is loose, none is put for -/
theorem chg_tight {new : Nat → Tr} : ∀ (t : Tr) (k : Str) (r : Nat), t.Wb k ((r : Int) + 0) → chg (sub bnd new) t r = t
  | .leaf w x, k, r, h => by
    refine sub_no (leaf_ok h.2) (ok_bnd r) fun e => ?_
    rcases h.2 with ⟨ew, _⟩ | ⟨ew, _⟩ | ⟨_, n, en, _, lt⟩
    · injection e with e1 _
      rw [ew] at e1
      exact absurd e1 (by decide +kernel)
    · injection e with e1 _
      rw [ew] at e1
      exact absurd e1 (by decide +kernel)
    · injection e with _ e2
      rw [en] at e2
      injection e2 with e3
      omega
  | .n0 w, k, r, h => rfl
  | .n1 w t, k, r, ⟨k1, _, ht⟩ => by
    rw [up_inner] at ht
    show Tr.n1 w (chg _ t _) = _
    rw [chg_tight t k1 _ ht]
  | .n2 w t u, k, r, ⟨k1, k2, _, ht, hu⟩ => by
    rw [up_inner] at ht hu
    show Tr.n2 w (chg _ t _) (chg _ u _) = _
    rw [chg_tight t k1 _ ht, chg_tight u k2 _ hu]
end Kf
set_option Elab.async false
set_option linter.all false
set_option maxRecDepth 100000
set_option maxHeartbeats 4000000
set_option pp.maxSteps 400
/-! The law's own putting and counting. -/
namespace Kf
open PySem PySem.Spec PyProof.Rows L2 Sx
abbrev sLP : Stmt := top 35
abbrev lpN : List Str := ["thing", "old", "new", "deep", "here", "down", "one"]
theorem scLP : FnScope lpN ["thing", "old", "new", "deep"] (defScope sLP) := ⟨rfl, rfl, rfl, by decide +kernel, rfl, by decide +kernel, by decide +kernel⟩
theorem kids_deep {t k : Tr} (h : k ∈ t.kids) : k.deep + 1 ≤ t.deep := by
  cases t with
  | leaf wd x => cases h
  | n0 wd => cases h
  | n1 wd a =>
    rw [List.mem_singleton.mp h]
    exact Nat.le_refl _
  | n2 wd a b =>
    rcases List.mem_cons.mp h with z | z
    · rw [z]
      exact Nat.succ_le_succ (Nat.le_max_left _ _)
    · rw [List.mem_singleton.mp z]
      exact Nat.succ_le_succ (Nat.le_max_right _ _)
theorem kids_not {t : Tr} (no : t.Not) : ∀ a ∈ t.kids, a.Not := by
  cases t with
  | leaf w x => intro a h; cases h
  | n0 w => intro a h; cases h
  | n1 w a =>
    intro c h
    rw [List.mem_singleton.mp h]
    exact no.2
  | n2 w a b =>
    intro c h
    rcases List.mem_cons.mp h with z | z
    · rw [z]
      exact no.2.1
    · rw [List.mem_singleton.mp z]
      exact no.2.2
/-- what is put for: a bound, a name -/
def Olds (H : Hp) (v : V) (old : Nat → Tr) : Prop := (v = .non ∧ old = bnd) ∨ ∃ p u, v = .ref p ∧ At H u (.ref p) ∧ u.Ok ∧ u.Lay ∧ (∃ w x, u = .leaf w x) ∧ old = fun _ => u
theorem Olds.keep {H H' : Hp} {v : V} {old : Nat → Tr} (h : Olds H v old) (k : Tups H H') : Olds H' v old := h.imp id fun ⟨p, u, e, a, n⟩ => ⟨p, u, e, a.keep k, n⟩
/-- what is put: a bound, a tree -/
def News (H : Hp) (v : V) (new : Nat → Tr) : Prop := (v = .non ∧ new = bnd) ∨ ∃ p u, v = .ref p ∧ At H u (.ref p) ∧ new = fun _ => u
theorem News.keep {H H' : Hp} {v : V} {new : Nat → Tr} (h : News H v new) (k : Tups H H') : News H' v new := h.imp id fun ⟨p, u, e, a, n⟩ => ⟨p, u, e, a.keep k, n⟩
def spLP (n : Nat) : Sp := fun vs H Q _ => ∃ (v vo vn : V) (old new : Nat → Tr) (t : Tr) (r : Nat), vs = [v, vo, vn, .int (r : Int)] ∧ At H t v ∧ t.Ok ∧ t.Not ∧ t.Lay ∧ t.deep ≤ n ∧ t.deep ≤ 60 ∧ Olds H vo old ∧ News H vn new ∧
  ∀ w H', Same H H' → At H' (chg (sub old new) t r) w → Q w H'
theorem joinB {C G : Bool → Hp → Prop} {M : Prop} (main : (∀ b H, C b H → G b H) → M) (rest : ∀ b H, C b H → G b H) : M := main rest
abbrev end4 : List V := [.str "num", .str "name", .str "bound", .str "no"]
theorem end4_word {wd : Str} : inV (.str wd) end4 = true ↔ wd = "num" ∨ wd = "name" ∨ wd = "bound" ∨ wd = "no" := by
  have e1 : ∀ k : Str, eqV (.str k) (.str wd) = decide (k = wd) := fun k => by
    unfold eqV
    rfl
  unfold inV end4
  simp only [List.any_cons, List.any_nil, e1, Bool.or_false, Bool.or_eq_true, decide_eq_true_eq]
  exact ⟨fun h => h.imp Eq.symm (fun h => h.imp Eq.symm (fun h => h.imp Eq.symm Eq.symm)), fun h => h.imp Eq.symm (fun h => h.imp Eq.symm (fun h => h.imp Eq.symm Eq.symm))⟩
theorem end4_leaf {wd : Str} (h : wd = "num" ∨ wd = "name" ∨ wd = "bound" ∨ wd = "no") (n : wd ≠ "no") : leafy wd = true := by
  rcases h with e | e | e | e
  · rw [e]; decide +kernel
  · rw [e]; decide +kernel
  · rw [e]; decide +kernel
  · exact absurd e n
theorem end4_kids {t : Tr} (h : inV (.str t.word) end4 = true) (ok : t.Ok) (no : t.Not) : (∃ w x, t = .leaf w x) ∨ ∃ w, t = .n0 w := by
  have h2 := end4_word.1 h
  cases t with
  | leaf w x => exact .inl ⟨w, x, rfl⟩
  | n0 w => exact .inr ⟨w, rfl⟩
  | n1 w a => exact (no_leaf ok.1 (end4_leaf h2 no.1.1)).elim
  | n2 w a b => exact (no_leaf ok.1 (end4_leaf h2 no.1.1)).elim
theorem end4_not {wd : Str} (h : ¬ inV (.str wd) end4 = true) : leafy wd = false := by
  cases hl : leafy wd with
  | false => rfl
  | true =>
    refine absurd (end4_word.2 ?_) h
    have e1 : ∀ k : Str, eqV (.str k) (.str wd) = decide (k = wd) := fun k => by
      unfold eqV
      rfl
    unfold leafy inV leafVs at hl
    simp only [List.any_cons, List.any_nil, e1, Bool.or_false, Bool.or_eq_true, decide_eq_true_eq] at hl
    rcases hl with z | z | z
    · exact .inl z.symm
    · exact .inr (.inl z.symm)
    · exact .inr (.inr (.inl z.symm))
theorem chg_node {g : Tr → Nat → Tr} {t : Tr} {r : Nat} (ok : t.Ok) (nl : leafy t.word = false) : chg g t r = node t.word (t.kids.map fun k => chg g k (inner t.word r)) := by
  cases t with
  | leaf w x => exact (no_leaf nl ok.1).elim
  | n0 w => rfl
  | n1 w a => rfl
  | n2 w a b => rfl
theorem kids_lay {t : Tr} (h : t.Lay) : ∀ a ∈ t.kids, a.Lay := by
  cases t with
  | leaf w x => intro a h; cases h
  | n0 w => intro a h; cases h
  | n1 w a =>
    intro c z
    rw [List.mem_singleton.mp z]
    exact h.2
  | n2 w a b =>
    intro c z
    rcases List.mem_cons.mp z with z | z
    · rw [z]
      exact h.2.1
    · rw [List.mem_singleton.mp z]
      exact h.2.2
theorem same_up {H H1 : Hp} {D : Addr} {o : HO} (s : Same H H1) (n : H D = none) : Same H (upd H1 D o) := fun b u e => by
  rw [upd_ne (ne_of_none e n)]
  exact s _ _ e
section
variable {P : Program} {w : World} {K : PySem.W.Frag} {mg : Str → Option Value} {base : Heap}
theorem ok_LP {f : Addr} {fd : FuncData} {n : Nat} (F : Fun K "_law_turned" "_law_turned" sLP f fd) (S : FnOk P w K mg base CX0 n f fd ["thing", "old", "new", "deep"] (spLP n)) (bS : Binds K fd ["thing", "old", "new", "deep"] []) (mS : mg "_law_turned" = some (.ref f)) (zI : mg "int" = none) (zT : mg "tuple" = none) :
    FnOk P w K mg base CX0 (n + 1) f fd ["thing", "old", "new", "deep"] (spLP (n + 1)) := by
  refine F.ok scLP (fun vs H Q E h => ?_) (fun cdv A outer s H vs Q E hr h => ?_)
  · obtain ⟨v, vo, vn, old, new, t, r, rfl, _⟩ := h
    rfl
  obtain ⟨v, vo, vn, old, new, t, r, rfl, hA, hO, hN, hL, hd, h12, ho, hB, q⟩ := h
  refine ⟨_, pss_cons (ps_set (i := 4) scLP.nd rfl (.inl rfl) (pe_tup (pa_cons pe_str (pa_cons (pv 3) pa_nil))))
    (pss_cons (ps_if (pt_cmpR (op_eqD hr.units) (pv 0) (pe_ifExp (pt_cmpR op_isN (pv 1) pe_non (nomark _)) (pv 4) (pv 1)) (nomark _)) (pss_one (ps_ret (pe_ifExp (pt_cmpR op_isN (pv 2) pe_non (nomark _)) (pv 4) (pv 2)))) pss_nil)
    (pss_cons (ps_if (pt_cmpR op_in_seq (pe_ix ix_tup (pv 0) pe_int (fun _ _ => rfl)) (pe_tup (pa_cons pe_str (pa_cons pe_str (pa_cons pe_str (pa_cons pe_str pa_nil))))) (by rfl)) (pss_one (ps_ret (pv 0))) pss_nil)
    (pss_cons (ps_set (i := 5) scLP.nd rfl (.inr rfl) (pe_op op_add (pv 3) (pe_callTy call_int1 (by rfl) zI (by decide +kernel) (pa_cons (pe_cmpR op_in_seq (pe_ix ix_tup (pv 0) pe_int (fun _ _ => rfl)) (pe_tup (pa_cons pe_str (pa_cons pe_str pa_nil))) (by rfl)) pa_nil))))
    (pss_one (ps_ret (pe_op op_catT (pe_slice sl_tup (pv 0) po_none (po_some pe_int)) (pe_tupleOf (by rfl) zT
      (pe_lc (own := [("one", 6)]) (g := gName 6) (tt := tYes) rfl scLP.nd (pi_tup (pe_slice sl_tup (pv 0) (po_some pe_int) po_none))
        (blkOk_by (N := lpN) (sc := defScope sLP) (by decide +kernel)) (fun _ _ _ _ _ => pg_name (i := 6) scLP.nd rfl (Or.inl rfl)) (fun _ _ _ _ _ => pts_nil)
        (fun _ _ _ _ _ => pe_call S hr (by rfl) mS F.kp bS .nil pass0 (pa_cons (pv 6) (pa_cons (pv 1) (pa_cons (pv 2) (pa_cons (pv 5) pa_nil))))))))))))), ?_⟩
  obtain ⟨p1, us, rfl, hp1, lus, kids, leafs⟩ := hA.view hO
  have okOld : ∀ r, (old r).Ok := by
    rcases ho with ⟨_, e⟩ | ⟨p, u, _, _, oku, _, _, e⟩ <;> rw [e]
    · exact fun r => ok_bnd r
    · exact fun _ => oku
  refine ⟨_, rfl, (by show 2 ≤ sizeLine; decide), fun q0 nq0 => ?_⟩
  refine ⟨_, rfl, _, rfl, rfl, _, rfl, ?_⟩
  apply joinB (C := fun b X => (b = true ↔ t = old r) ∧ Same H X ∧ X q0 = some (.tup [.str "bound", .int (r : Int)]))
  · intro rest
    have s1 : Same H (upd H q0 (.tup [.str "bound", .int (r : Int)])) := same_new nq0
    have hq0 : (upd H q0 (.tup [.str "bound", .int (r : Int)])) q0 = some (.tup [.str "bound", .int (r : Int)]) := upd_same
    generalize upd H q0 (.tup [.str "bound", .int (r : Int)]) = X0 at s1 hq0 ⊢
    have ho2 := ho
    rcases ho2 with ⟨ev, eo⟩ | ⟨po, u, ev, hau, oku, lyu, lfu, eo⟩
    · rw [show decide (vo = V.non) = true from decide_eq_true ev]
      refine iteT ⟨_, rfl, ?_⟩
      refine ⟨t.dat, (bnd r).dat, (hA.keep (tups_same s1)).dp hO, At.dp (ok_bnd r) ⟨q0, rfl, hq0⟩, shaped_dat hO hL (by omega), sh_bnd r, _, rfl, ?_⟩
      have same : PyData.eqv t.dat (bnd r).dat = true ↔ t = old r := by
        rw [eo]
        exact eqv_dat t (bnd r) hO (ok_bnd r)
      generalize PyData.eqv t.dat (bnd r).dat = b at same ⊢
      exact rest b X0 ⟨same, s1, hq0⟩
    · rw [show decide (vo = V.non) = false from decide_eq_false (fun y => by rw [ev] at y; cases y)]
      refine iteF ?_
      refine ⟨_, rfl, ?_⟩
      have du : u.deep ≤ 64 := by
        obtain ⟨w, x, e⟩ := lfu
        rw [e]
        show 1 ≤ 64
        decide
      refine ⟨t.dat, u.dat, (hA.keep (tups_same s1)).dp hO, At.dp oku (by rw [ev]; exact hau.keep (tups_same s1)), shaped_dat hO hL (by omega), shaped_dat oku lyu du, _, rfl, ?_⟩
      have same : PyData.eqv t.dat u.dat = true ↔ t = old r := by
        rw [eo]
        exact eqv_dat t u hO oku
      generalize PyData.eqv t.dat u.dat = b at same ⊢
      exact rest b X0 ⟨same, s1, hq0⟩
  rintro b X ⟨same, s2, hq0⟩
  cases b with
  | true =>
    have et := same.1 rfl
    refine iteT ⟨_, rfl, rfl, _, rfl, ?_⟩
    have fin : chg (sub old new) t r = new r := by
      have lf : ∃ w x, t = .leaf w x := by
        rw [et]
        rcases ho with ⟨_, e⟩ | ⟨_, u, _, _, _, _, lfu, e⟩ <;> rw [e]
        · exact ⟨_, _, rfl⟩
        · exact lfu
      obtain ⟨w, x, el⟩ := lf
      subst el
      exact sub_yes hO et
    rcases hB with ⟨en, e2⟩ | ⟨p2, u, en, hB, e2⟩
    · subst en
      refine iteT ⟨_, rfl, q _ _ s2 ?_⟩
      rw [fin, e2]
      exact ⟨q0, rfl, hq0⟩
    · subst en
      refine iteF ⟨_, rfl, q _ _ s2 ?_⟩
      rw [fin, e2]
      exact hB.keep (tups_same s2)
  | false =>
    have nt : t ≠ old r := fun e => by
      have z := same.2 e
      cases z
    refine iteF ?_
    refine ⟨_, rfl, p1, _, 0, _, rfl, rfl, .inl (.inl (s2 _ _ hp1)), head_at _ _, (by show 4 ≤ sizeLine; decide), fun m nm => ?_⟩
    have s3 := same_put (o := .tup end4) s2 nm
    refine ⟨m, end4, rfl, .inr (.inl (.inl upd_same)), rfl, rfl, _, rfl, ?_⟩
    show if inV (.str t.word) end4 = true then _ else _
    by_cases ce : inV (.str t.word) end4 = true
    · rw [if_pos ce]
      refine ⟨_, rfl, q _ _ s3 ?_⟩
      have e : chg (sub old new) t r = t := by
        rcases end4_kids ce hO hN with ⟨w, x, rfl⟩ | ⟨w, rfl⟩
        · exact sub_no hO (okOld r) nt
        · rfl
      rw [e]
      exact hA.keep (tups_same s3)
    · rw [if_neg ce]
      refine ⟨_, rfl, _, rfl, p1, _, 0, _, rfl, rfl, .inl (.inl (s3 _ _ hp1)), head_at _ _, (by show 2 ≤ sizeLine; decide), fun m2 nm2 => ?_⟩
      have s4 := same_put (o := .tup bindVs) s3 nm2
      refine ⟨m2, bindVs, rfl, .inr (.inl (.inl upd_same)), rfl, rfl, .inr ⟨_, rfl, ?_⟩⟩
      refine ⟨(r : Int), _, rfl, rfl, ?_⟩
      show gName 5 (.int ((r : Int) + (if binds t.word = true then 1 else 0))) _ _ _
      rw [show ((r : Int) + (if binds t.word = true then 1 else 0)) = ((inner t.word r : Nat) : Int) by
        unfold inner
        split <;> omega]
      have nl := end4_not ce
      have kd := kids nl
      have len1 := kd.len
      have few : us ≠ [] := fun z => by
        rw [z] at len1
        cases t with
        | leaf w x => exact Bool.noConfusion ((show leafy w = true from hO.1).symm.trans nl)
        | n0 w =>
          have e : w = "no" := hN
          subst e
          exact ce (by decide +kernel)
        | n1 w a => cases len1
        | n2 w a b => cases len1
      obtain ⟨u0, ur, eus⟩ : ∃ a r, us = a :: r := by
        cases us with
        | nil => exact absurd rfl few
        | cons a r => exact ⟨a, r, rfl⟩
      have whole : ¬ (HT.sIx (V.str t.word :: us).length 0 none = 0 ∧ HT.sIx (V.str t.word :: us).length (V.str t.word :: us).length (some (1 : Int)) = (V.str t.word :: us).length) := fun z => by
        have z2 := z.2
        rw [show HT.sIx (V.str t.word :: us).length (V.str t.word :: us).length (some (1 : Int)) = min 1 (V.str t.word :: us).length from HT.sIx_nat _ _ 1, eus] at z2
        have : (V.str t.word :: u0 :: ur).length = ur.length + 2 := rfl
        omega
      have headc : cutV (V.str t.word :: us) none (some (1 : Int)) = [V.str t.word] := by
        unfold cutV
        rw [HT.sIx_none, show HT.sIx (V.str t.word :: us).length (V.str t.word :: us).length (some (1 : Int)) = min 1 (V.str t.word :: us).length from HT.sIx_nat _ _ 1]
        rw [show min 1 (V.str t.word :: us).length = 1 from Nat.min_eq_left (Nat.succ_le_succ (Nat.zero_le _))]
        rfl
      refine ⟨_, rfl, 1, rfl, p1, _, rfl, .inl (.inl (s4 _ _ hp1)), whole, fun q5 nq5 => ?_⟩
      rw [headc]
      have s5 := same_put (o := .tup [.str t.word]) s4 nq5
      refine ⟨_, rfl, 1, rfl, p1, _, rfl, .inl (.inl (s5 _ _ hp1)), cut_not _ _, fun c nc => ?_⟩
      rw [cut_one]
      have s6 := same_put (o := .tup us) s5 nc
      have h5c := (ne_of_none (show (upd _ q5 (.tup [.str t.word])) q5 = _ from upd_same) nc)
      refine ⟨c, rfl, ⟨_, .inl (.inl upd_same)⟩, fun D nD => ?_⟩
      generalize hHc : upd (upd _ q5 (.tup [.str t.word])) c (.tup us) = Hc at s6 nD
      have hc : Hc c = some (.tup us) := by rw [← hHc, upd_same]
      have hq5 : Hc q5 = some (.tup [.str t.word]) := by rw [← hHc, upd_ne h5c, upd_same]
      refine lc_tup (K := K) (a := c) (xs := us) (fun i H' => ∃ acc : List V, H' D = some (.lst acc) ∧ Same Hc H' ∧ All2 (At H') ((t.kids.take i).map fun k => chg (sub old new) k (inner t.word r)) acc)
        ⟨[], upd_same, same_new nD, by rw [List.take_zero]; exact .nil⟩ (fun i H' _ ⟨_, _, sm, _⟩ => .inl (.inl (sm _ _ hc))) ?_ ?_
      · rintro i x H' hx ⟨acc, hD, sm, all⟩
        obtain ⟨tk, htk, hax⟩ := kd.get hx
        have mk : tk ∈ t.kids := List.mem_of_getElem? htk
        have dk := kids_deep mk
        refine ⟨rfl, ?_⟩
        have sH := s6.trans sm
        refine ⟨_, rfl, _, rfl, _, rfl, _, rfl, x, _, _, old, new, tk, inner t.word r, rfl, hax.keep (tups_same sH), kids_ok hO _ mk, kids_not hN _ mk, kids_lay hL _ mk, by omega, by omega, ho.keep (tups_same sH), hB.keep (tups_same sH), fun w2 H6 sm6 aw => ?_⟩
        have la := all.len
        rw [List.length_map, List.length_take] at la
        have k6 : Tups H6 (upd H6 D (.lst (acc ++ [w2]))) := tups_put fun xs z => by
          rw [sm6 _ _ hD] at z
          cases z
        refine ⟨acc, sm6 _ _ hD, line_of (by omega), acc ++ [w2], upd_same, same_up (sm.trans sm6) nD, ?_⟩
        have et : (t.kids.take (i + 1)).map (fun k => chg (sub old new) k (inner t.word r)) = (t.kids.take i).map (fun k => chg (sub old new) k (inner t.word r)) ++ [chg (sub old new) tk (inner t.word r)] := by
          rw [List.take_add_one, htk, List.map_append]
          rfl
        rw [et]
        exact (all.mono fun a c h => h.keep ((tups_same sm6).trans k6)).app (.one (aw.keep k6))
      · rintro H7 ⟨acc, hD, sm, all⟩
        rw [← len1, List.take_length] at all
        have la := all.len
        rw [List.length_map] at la
        have sH := s6.trans sm
        refine .inl ⟨D, acc, rfl, .inl (.inl hD), fun q6 nq6 => ?_⟩
        have h5 := sm _ _ hq5
        refine ⟨q5, q6, [.str t.word], acc, rfl, rfl, .inl (.inl (by rw [upd_ne (ne_of_none h5 nq6)]; exact h5)), .inl (.inl upd_same), by simp, (by show 1 + acc.length ≤ sizeLine; refine Nat.le_trans (show _ ≤ 3 by omega) (by decide)), fun en => ?_, fun _ p7 np7 => ?_⟩
        · subst en
          refine q _ _ (same_put sH nq6) ?_
          rw [chg_node hO nl]
          exact at_node hO nl (by rw [List.length_map]) (all.mono fun a c h => h.keep (tups_same (same_new nq6))) (by rw [upd_ne (ne_of_none h5 nq6)]; exact h5)
        · refine q _ _ (same_put (same_put sH nq6) np7) ?_
          rw [chg_node hO nl]
          exact at_node hO nl (by rw [List.length_map]) (all.mono fun a c h => (h.keep (tups_same (same_new nq6))).keep (tups_same (same_new np7))) upd_same
theorem ok_LPs {f : Addr} {fd : FuncData} (F : Fun K "_law_turned" "_law_turned" sLP f fd) (bS : Binds K fd ["thing", "old", "new", "deep"] []) (mS : mg "_law_turned" = some (.ref f)) (zI : mg "int" = none) (zT : mg "tuple" = none) : ∀ n : Nat, FnOk P w K mg base CX0 n f fd ["thing", "old", "new", "deep"] (spLP n)
  | 0 => no_calls fun vs H Q E h => by
    obtain ⟨v, vo, vn, old, new, t, r, _, _, _, _, _, hd, _⟩ := h
    have : 1 ≤ t.deep := by
      cases t
      · exact Nat.le_refl 1
      · exact Nat.le_refl 1
      · exact Nat.le_add_left 1 _
      · exact Nat.le_add_left 1 _
    omega
  | n + 1 => ok_LP F (ok_LPs F bS mS zI zT n) bS mS zI zT
end
end Kf
set_option Elab.async false
set_option linter.all false
set_option maxRecDepth 100000
set_option maxHeartbeats 4000000
set_option pp.maxSteps 400
/-! k07: the names that the law finds. -/
namespace Kf
open PySem PySem.Spec PyProof.Rows L2 Sx
abbrev sLN : Stmt := top 36
theorem scLN : FnScope ["thing", "found", "one"] ["thing"] (defScope sLN) := ⟨rfl, rfl, rfl, by decide +kernel, rfl, by decide +kernel, by decide +kernel⟩
theorem leaf_name {t : Tr} (ok : t.Ok) {H : Hp} {v : V} (h : At H t v) : ∃ p us, v = .ref p ∧ H p = some (.tup (.str t.word :: us)) ∧ (t.word = "name" → ∃ z, us = [.str z] ∧ leafName t = [z]) ∧ (t.word ≠ "name" → leafName t = []) := by
  obtain ⟨p, us, e, hp, _, kids, leafs⟩ := h.view ok
  refine ⟨p, us, e, hp, fun ew => ?_, fun nw => ?_⟩
  · have hl : leafy t.word = true := by
      rw [ew]
      decide +kernel
    obtain ⟨x, et, eu⟩ := leafs hl
    cases t with
    | leaf wd x2 =>
      have ex : x2 = x := by
        injection et
      subst ex
      rcases ok.2 with ⟨_, ne⟩ | ⟨⟨z, ez⟩, ew2⟩
      · exact absurd ew ne
      · refine ⟨z, by rw [eu, ez], ?_⟩
        show (if wd = "name" then (match x2 with | .str z => [z] | _ => []) else []) = [z]
        rw [if_pos ew2, ez]
    | n0 _ => cases et
    | n1 _ _ => cases et
    | n2 _ _ _ => cases et
  · cases t with
    | leaf wd x =>
      show (if wd = "name" then (match x with | .str z => [z] | _ => []) else []) = ([] : List Str)
      rw [if_neg (show ¬ wd = "name" from nw)]
    | n0 _ => rfl
    | n1 _ _ => rfl
    | n2 _ _ _ => rfl
section
variable {P : Program} {w : World} {K : PySem.W.Frag} {mg : Str → Option Value} {base : Heap}
/-! ### _law_names -/
def spLN (n : Nat) : Sp := fun vs H Q _ => ∃ (v : V) (t : Tr), vs = [v] ∧ At H t v ∧ t.Ok ∧ t.Not ∧ t.deep ≤ n ∧ t.size ≤ 4000 ∧
  ∀ (p : Addr) (H' : Hp), Same H H' → H p = none → H' p = some (.lst (t.names.map V.str)) → Q (.ref p) H'
theorem leaf_none {t : Tr} (h : leafName t = []) (hl : leafy t.word = true) (ok : t.Ok) : t.names = [] := by
  cases t with
  | leaf wd x => exact h
  | n0 wd => rfl
  | n1 wd a => exact (no_leaf ok.1 hl).elim
  | n2 wd a b => exact (no_leaf ok.1 hl).elim
theorem names_kids {t : Tr} (hl : leafy t.word = false) (ok : t.Ok) : t.names = t.kids.flatMap Tr.names := by
  cases t with
  | leaf wd x => exact (no_leaf hl ok.1).elim
  | n0 wd => rfl
  | n1 wd a => simp [Tr.names, Tr.kids]
  | n2 wd a b => simp [Tr.names, Tr.kids]
abbrev endVs : List V := [.str "num", .str "bound"]
theorem inV_strs (z : Str) : ∀ ys : List Str, inV (.str z) (ys.map V.str) = decide (z ∈ ys)
  | [] => by simp [inV]
  | y :: r => by
    have h := inV_strs z r
    unfold inV at h ⊢
    rw [List.map_cons, List.any_cons, h]
    have e1 : eqV (.str y) (.str z) = decide (y = z) := by
      unfold eqV
      rfl
    rw [e1]
    by_cases e : y = z
    · subst e
      simp
    · rw [decide_eq_false e, Bool.false_or]
      have e3 : z ≠ y := fun q => e q.symm
      simp [e3]
theorem ends_in {wd : Str} : inV (.str wd) endVs = true ↔ wd = "num" ∨ wd = "bound" := by
  rw [show endVs = ([("num" : Str), "bound"]).map V.str from rfl, inV_strs]
  rw [decide_eq_true_iff, List.mem_cons, List.mem_singleton]
theorem ends_or (wd : Str) (h : inV (.str wd) endVs = false) (hl : leafy wd = true) : wd = "name" := by
  have hl2 : decide (wd ∈ ([("num" : Str), "name", "bound"])) = true := by
    rw [← inV_strs]
    exact hl
  rcases List.mem_cons.mp (of_decide_eq_true hl2) with e | e
  · rw [ends_in.2 (.inl e)] at h
    cases h
  rcases List.mem_cons.mp e with e | e
  · exact e
  · rw [ends_in.2 (.inr (List.mem_singleton.mp e))] at h
    cases h
theorem names_leaf {t : Tr} (hl : leafy t.word = true) (ok : t.Ok) : t.names = leafName t := by
  cases t with
  | leaf wd x => rfl
  | n0 wd => rfl
  | n1 wd a => exact (no_leaf ok.1 hl).elim
  | n2 wd a b => exact (no_leaf ok.1 hl).elim
theorem end_names {t : Tr} (h : inV (.str t.word) endVs = true) (ok : t.Ok) : t.names = [] := by
  have hl : leafy t.word = true := by
    rcases ends_in.1 h with e | e <;> rw [e] <;> decide +kernel
  have nw : t.word ≠ "name" := by
    intro e
    rcases ends_in.1 h with z | z <;> rw [e] at z <;> exact absurd z (by decide +kernel)
  rw [names_leaf hl ok]
  cases t with
  | leaf wd x =>
    show (if wd = "name" then (match x with | .str z => [z] | _ => []) else []) = ([] : List Str)
    rw [if_neg (show ¬ wd = "name" from nw)]
  | n0 _ => rfl
  | n1 _ _ => rfl
  | n2 _ _ _ => rfl
theorem kid_size {t k : Tr} (h : k ∈ t.kids) : k.size ≤ t.size := by
  have e := size_kids t
  have l : ∀ (xs : List Tr), k ∈ xs → k.size ≤ (xs.map Tr.size).sum := fun xs => by
    induction xs with
    | nil => exact fun z => nomatch z
    | cons x r ih =>
      intro z
      rw [List.map_cons, List.sum_cons]
      rcases List.mem_cons.mp z with rfl | z
      · omega
      · have := ih z
        omega
  have := l _ h
  omega
theorem ok_LN {f : Addr} {fd : FuncData} {n : Nat} (F : Fun K "_law_names" "_law_names" sLN f fd) (S : FnOk P w K mg base CX0 n f fd ["thing"] (spLN n)) (bS : Binds K fd ["thing"] []) (mS : mg "_law_names" = some (.ref f)) :
    FnOk P w K mg base CX0 (n + 1) f fd ["thing"] (spLN (n + 1)) := by
  refine F.ok scLN (fun vs H Q E h => ?_) (fun cdv A outer s H vs Q E hr h => ?_)
  · obtain ⟨v, t, rfl, _⟩ := h
    rfl
  obtain ⟨v, t, rfl, hA, hO, hN, hd, h12, q⟩ := h
  refine ⟨_, pss_cons (ps_if (pt_cmpR op_eq (pe_ix ix_tup (pv 0) pe_int (fun _ _ => rfl)) pe_str (nomark _)) (pss_one (ps_ret (pe_lst (pa_cons (pe_ix ix_tup (pv 0) pe_int (fun _ _ => rfl)) pa_nil)))) pss_nil)
    (pss_cons (ps_set (i := 1) scLN.nd rfl (.inl rfl) (pe_lst pa_nil))
    (pss_cons (ps_if (pt_cmpR op_notIn_seq (pe_ix ix_tup (pv 0) pe_int (fun _ _ => rfl)) (pe_tup (pa_cons pe_str (pa_cons pe_str pa_nil))) (by rfl))
      (pss_one (ps_for PassesOwn.never rfl (pi_tup (pe_slice sl_tup (pv 0) (po_some pe_int) po_none)) (pg_name (i := 2) scLN.nd rfl (.inl rfl))
      (pss_one (ps_set (i := 1) scLN.nd rfl (.inl rfl) (pe_op op_cat (pv 1) (pe_call S hr (by rfl) mS F.kp bS .nil pass0 (pa_cons (pv 2) pa_nil))))))) pss_nil)
    (pss_one (ps_ret (pv 1))))), ?_⟩
  obtain ⟨p1, us, rfl, hp1, isN, noN⟩ := leaf_name hO hA
  obtain ⟨p2, us2, e2, hp2, _, kids, leafs⟩ := hA.view hO
  have e3 : p1 = p2 := by
    injection e2
  subst e3
  rw [hp1] at hp2
  have e4 : us = us2 := by
    injection hp2 with z
    injection z with z
    injection z
  subst e4
  refine ⟨_, rfl, p1, _, 0, _, rfl, rfl, .inl (.inl hp1), head_at _ _, rfl, _, rfl, ?_⟩
  refine ite2 (fun c => ?_) (fun c => ?_)
  · have ew : t.word = "name" := by
      have z := of_decide_eq_true c
      injection z
    obtain ⟨z, eu, el⟩ := isN ew
    have en : t.names = [z] := (names_leaf (by rw [ew]; decide +kernel) hO).trans el
    refine ⟨_, rfl, p1, _, 1, .str z, rfl, rfl, .inl (.inl hp1), (by rw [eu]; exact atI_nat (j := 1) rfl), (by show 1 ≤ sizeLine; decide), fun l hl => ?_⟩
    exact q l _ (same_new hl) hl (by rw [en, upd_same]; rfl)
  have nw : t.word ≠ "name" := fun z => c (by rw [z]; exact decide_eq_true rfl)
  refine ⟨Nat.zero_le _, fun l0 nl0 => ?_⟩
  have s0 : Same H (upd H l0 (.lst [])) := same_new nl0
  refine ⟨_, rfl, p1, _, 0, _, rfl, rfl, .inl (.inl (s0 _ _ hp1)), head_at _ _, (by show 2 ≤ sizeLine; decide), fun m nm => ?_⟩
  have s2 := same_put (o := .tup endVs) s0 nm
  have nlm : l0 ≠ m := fun z => by
    rw [← z, upd_same] at nm
    cases nm
  refine ⟨m, endVs, rfl, .inr (.inl (.inl upd_same)), rfl, rfl, _, rfl, ?_⟩
  show if (!inV (.str t.word) endVs) = true then _ else _
  by_cases ce : inV (.str t.word) endVs = true
  · rw [ce]
    refine iteF ⟨_, rfl, ?_⟩
    exact q l0 _ s2 nl0 (by rw [end_names ce hO, upd_ne nlm, upd_same]; rfl)
  · rw [Bool.eq_false_iff.mpr ce]
    refine iteT ?_
    have nl : leafy t.word = false := by
      cases hl : leafy t.word with
      | false => rfl
      | true => exact absurd (ends_or t.word (Bool.eq_false_iff.mpr ce) hl) nw
    have kd := kids nl
    have len1 := kd.len
    refine ⟨_, rfl, 1, rfl, p1, _, rfl, .inl (.inl (s2 _ _ hp1)), cut_not _ _, fun c nc => ?_⟩
    rw [cut_one]
    have s3 := same_put (o := .tup us) s2 nc
    have ncl : c ≠ l0 := fun z => by
      rw [z, upd_ne nlm, upd_same] at nc
      cases nc
    refine ⟨c, rfl, ⟨_, .inl (.inl upd_same)⟩, for_tup (K := K) (a := c) (xs := us) (fun i σ H' => ∃ (l : Addr) (y2 : Option V), σ = [some (.ref p1), some (.ref l), y2] ∧ Same H H' ∧ H l = none ∧ H' c = some (.tup us) ∧ H' l = some (.lst (((t.kids.take i).flatMap Tr.names).map V.str)))
      ⟨l0, none, rfl, s3, nl0, upd_same, ?_⟩ (fun i σ H' _ ⟨_, _, _, _, _, kt, _⟩ => .inl (.inl kt)) ?_ ?_⟩
    · rw [upd_ne ncl.symm, upd_ne nlm, upd_same]
      simp
    · rintro i x σ H' hx ⟨l, y2, rfl, sm, fl, hc, hl⟩
      obtain ⟨tk, htk, hax⟩ := kd.get hx
      have mk : tk ∈ t.kids := List.mem_of_getElem? htk
      have dk := kids_deep mk
      refine ⟨_, rfl, _, rfl, x, tk, rfl, hax.keep (tups_same sm), kids_ok hO _ mk, kids_not hN _ mk, by omega, Nat.le_trans (kid_size mk) h12, fun l2 H2 sm2 nl2 hl2 => ?_⟩
      have en : (t.kids.take (i + 1)).flatMap Tr.names = (t.kids.take i).flatMap Tr.names ++ tk.names := by
        rw [List.take_add_one, htk, List.flatMap_append]
        simp
      have small : (((t.kids.take i).flatMap Tr.names).map V.str).length + (tk.names.map V.str).length ≤ sizeLine := by
        have h1 : ((t.kids.take i).flatMap Tr.names).length ≤ t.names.length := by
          rw [names_kids nl hO]
          conv => rhs; rw [← List.take_append_drop i t.kids, List.flatMap_append, List.length_append]
          exact Nat.le_add_right _ _
        have h2 := names_size t
        have h5 := names_size tk
        have h6 := kid_size mk
        rw [List.length_map, List.length_map]
        refine Nat.le_trans (show _ ≤ 8192 by omega) (by decide)
      refine ⟨l, l2, _, _, rfl, rfl, sm2 _ _ hl, hl2, small, fun l3 nl3 => ?_⟩
      have sm3 := same_put (o := .lst (((t.kids.take i).flatMap Tr.names).map V.str ++ tk.names.map V.str)) (sm.trans sm2) nl3
      refine ⟨l3, some x, rfl, sm3, (sm.trans sm2).free nl3, ?_, ?_⟩
      · have e1 := sm2 _ _ hc
        rw [upd_ne (ne_of_none e1 nl3)]
        exact e1
      · rw [upd_same, en, List.map_append]
    · rintro σ H' ⟨l, y2, rfl, sm, fl, hc, hl⟩
      rw [← len1, List.take_length, ← names_kids nl hO] at hl
      exact ⟨_, rfl, q l H' sm fl hl⟩
theorem ok_LNs {f : Addr} {fd : FuncData} (F : Fun K "_law_names" "_law_names" sLN f fd) (bS : Binds K fd ["thing"] []) (mS : mg "_law_names" = some (.ref f)) : ∀ n : Nat, FnOk P w K mg base CX0 n f fd ["thing"] (spLN n)
  | 0 => no_calls fun vs H Q E h => by
    obtain ⟨v, t, _, _, _, _, hd, _⟩ := h
    have : 1 ≤ t.deep := by
      cases t
      · exact Nat.le_refl 1
      · exact Nat.le_refl 1
      · exact Nat.le_add_left 1 _
      · exact Nat.le_add_left 1 _
    omega
  | n + 1 => ok_LN F (ok_LNs F bS mS n) bS mS
end
end Kf
set_option Elab.async false
set_option linter.all false
set_option maxRecDepth 100000
set_option maxHeartbeats 4000000
/-! names_in; the law's walk _law_names. -/
namespace Kf
open PySem PySem.Spec PyProof.Rows L2 Sx
abbrev sNamesIn : Stmt := top 21
theorem scNamesIn : FnScope ["thing", "found", "piece", "_"] ["thing"] (defScope sNamesIn) := ⟨rfl, rfl, rfl, by decide +kernel, rfl, by decide +kernel, by decide +kernel⟩
section
variable {P : Program} {w : World} {K : PySem.W.Frag} {mg : Str → Option Value} {base : Heap} {L B : Addr}
/-- the names of the tree, once each, rising -/
structure Rising (t : Tr) (ys : List Str) : Prop where
  pairs : ys.Pairwise Le
  nd : ys.Nodup
  mem : ∀ z, z ∈ ys ↔ z ∈ t.names
theorem Rising.one {t : Tr} {ys zs : List Str} (a : Rising t ys) (b : Rising t zs) : ys = zs := one_order ys zs a.pairs b.pairs a.nd b.nd fun x => (a.mem x).trans (b.mem x).symm
def spNamesIn : Sp := fun vs H Q _ => ∃ (v : V) (t : Tr) (ns : List Str), vs = [v] ∧ At H t v ∧ t.Ok ∧ t.size ≤ 6000 ∧ (∀ z ∈ t.names, z ∈ ns) ∧ ns.length ≤ 60 ∧
  ∀ (ys : List Str) (p : Addr) (H' : Hp), Same H H' → H p = none → H' p = some (.lst (ys.map V.str)) → Rising t ys → Q (.ref p) H'
theorem ok_names {f g : Addr} {fd gd : FuncData} (F : Fun K "names_in" "names_in" sNamesIn f fd) (G : FnOk P w K mg base CX0 2 g gd ["thing"] spPieces) (bG : Binds K gd ["thing"] []) (kG : PySem.W.keepIn K (.ref g) = true) (mG : mg "pieces_of" = some (.ref g)) (mS : mg "set" = none) (mO : mg "sorted" = none) :
    FnOk P w K mg base CX0 3 f fd ["thing"] spNamesIn := by
  refine F.ok scNamesIn (fun vs H Q E h => ?_) (fun cdv A outer s H vs Q E hr h => ?_)
  · obtain ⟨v, t, ns, rfl, _⟩ := h
    rfl
  obtain ⟨v, t, ns, rfl, hA, hO, hd, sub, few, q⟩ := h
  refine ⟨_, pss_cons (ps_set (i := 1) scNamesIn.nd rfl (.inl rfl) (pe_callTy0 cr_newX (by rfl) mS (by decide +kernel)))
    (pss_cons (ps_for PassesOwn.never rfl (pi_list (pe_call G hr (by rfl) mG kG bG .nil pass0 (pa_cons (pv 0) pa_nil))) (pg_tup (by rfl) (pgs_cons (pg_name (i := 2) scNamesIn.nd rfl (.inl rfl)) (pgs_cons (pg_name (i := 3) scNamesIn.nd rfl (.inl rfl)) pgs_nil)))
      (pss_one (ps_if (pt_cmpR op_eq (pe_ix ix_tup (pv 2) pe_int (fun _ _ => rfl)) pe_str (nomark _)) (pss_one (ps_expr (pe_addX (pv 1) (pa_cons (pe_ix ix_tup (pv 2) pe_int (fun _ _ => rfl)) pa_nil)))) pss_nil)))
    (pss_one (ps_ret (pe_callB (cr_sortX rfl) (by rfl) mO (by decide +kernel) (pa_cons (pv 1) pa_nil))))), ?_⟩
  refine ⟨rfl, fun S nS => ?_⟩
  have s1 : Same H (upd H S (SetX w S [])) := same_new nS
  refine ⟨_, rfl, v, t, rfl, hA.keep (tups_same s1), hO, hd, fun p H1 vf sm np hp rows => ?_⟩
  have hS1 : H1 S = some (SetX w S []) := sm _ _ upd_same
  have npS : p ≠ S := fun z => by
    rw [z, upd_same] at np
    cases np
  have all := post_names t 0
  refine ⟨p, rfl, ⟨_, .inl (.inl hp)⟩, for_list (K := K) (a := p) (xs := vf) (fun i σ H' => ∃ (ks : List Str) (y2 y3 : Option V), σ = [some v, some (.ref S), y2, y3] ∧ But S H1 H' ∧ H' S = some (SetX w S ks) ∧ ks.Nodup ∧ ∀ z, z ∈ ks ↔ z ∈ ((t.post 0).take i).flatMap fun (e : Tr × Nat) => leafName e.1)
    ⟨[], none, none, rfl, But.refl _ _, hS1, List.nodup_nil, fun z => by simp⟩ (fun i σ H' _ ⟨_, _, _, _, b, _⟩ => .inl (.inl (b _ _ npS hp))) ?_ ?_⟩
  · rintro i y σ H' hy ⟨ks, y2, y3, rfl, b, hS, nd, mem⟩
    obtain ⟨⟨t1, r1⟩, he, ⟨q1, x1, rfl, h1, a1⟩⟩ := rows.get hy
    have k1 : Tups H1 H' := fun c xs e => b c _ (fun z => by rw [z, hS1] at e; cases e) e
    have a2 : At H' t1 x1 := At.keep k1 a1
    have ok1 : t1.Ok := post_ok t 0 hO (t1, r1) (List.mem_of_getElem? he)
    obtain ⟨p1, us, rfl, hp1, isN, noN⟩ := leaf_name ok1 a2
    have et : ((t.post 0).take (i + 1)).flatMap (fun (e : Tr × Nat) => leafName e.1) = ((t.post 0).take i).flatMap (fun (e : Tr × Nat) => leafName e.1) ++ leafName t1 := by
      rw [List.take_add_one, he, List.flatMap_append]
      show _ ++ ([(t1, r1)].flatMap fun (e : Tr × Nat) => leafName e.1) = _
      simp
    refine ⟨q1, [.ref p1, .int (r1 : Int)], rfl, .inl (.inl (k1 _ _ h1)), rfl, .ref p1, [.int (r1 : Int)], rfl, .int (r1 : Int), [], rfl, rfl, ?_⟩
    refine ⟨_, rfl, p1, _, 0, _, rfl, rfl, .inl (.inl hp1), head_at _ _, rfl, _, rfl, ?_⟩
    refine ite2 (fun c => ?_) (fun c => ?_)
    · have ew : t1.word = "name" := by
        have z := of_decide_eq_true c
        injection z
      obtain ⟨z, eu, el⟩ := isN ew
      have ksub : ∀ k ∈ ks, k ∈ ns := fun k hk => sub k (by
        rw [← all]
        obtain ⟨e, e1, e2⟩ := List.mem_flatMap.mp ((mem k).1 hk)
        exact List.mem_flatMap.mpr ⟨e, List.mem_of_mem_take e1, e2⟩)
      have kfew := nodup_le ks ns nd ksub
      refine ⟨_, rfl, ⟨S, ks, rfl, hS⟩, _, rfl, p1, _, 1, .str z, rfl, rfl, .inl (.inl hp1), (by rw [eu]; exact atI_nat (j := 1) rfl), S, z, ks, rfl, rfl, hS, (by unfold scanBound; omega), ?_⟩
      refine ⟨ins z ks, _, _, rfl, b.own, upd_same, ins_nodup nd, fun j => ?_⟩
      rw [ins_mem, et, List.mem_append, el, List.mem_singleton, mem j]
      exact Or.comm
    · have nw : t1.word ≠ "name" := fun z => c (by rw [z]; exact decide_eq_true rfl)
      refine ⟨ks, _, _, rfl, b, hS, nd, fun j => ?_⟩
      rw [et, noN nw, List.append_nil]
      exact mem j
  · rintro σ H' ⟨ks, y2, y3, rfl, b, hS, nd, mem⟩
    rw [← rows.len, List.take_length, all] at mem
    have kfew := nodup_le ks ns nd fun k hk => sub k ((mem k).1 hk)
    refine ⟨_, rfl, S, ks, rfl, hS, by omega, fun ys l pm ynd srt nl => ?_⟩
    refine q ys l _ (fun c u e => ?_) ?_ upd_same ⟨sorted_pairs ys srt, ynd, fun z => (pm.mem_iff).trans (mem z)⟩
    · have ncS : c ≠ S := ne_of_none e nS
      have e1 := b _ _ ncS (sm _ _ (s1 _ _ e))
      rw [upd_ne (ne_of_none e1 nl)]
      exact e1
    · cases hl : H l with
      | none => rfl
      | some u =>
        have ncS : l ≠ S := ne_of_none hl nS
        have e1 := b _ _ ncS (sm _ _ (s1 _ _ hl))
        rw [nl] at e1
        cases e1
end
end Kf
set_option Elab.async false
set_option linter.all false
set_option maxRecDepth 100000
set_option maxHeartbeats 3900000
/-! The end of a law whose defs want to know that no repr is under way around them: its def is run from the caller alone. -/
namespace Gd
open PySem PySem.Spec PyProof.Rows L2 LamX LmY
section
variable {P : Program} {w : World} {K : PySem.W.Frag} {mg mb : Str → Option Value} {k : Nat} {fa scr : Addr} {cs : List (Addr × Addr)} {st : Shared} {vs : List Value} {ns : List Int}
/-- what stands in the heap ahead of the law's call -/
structure Ahead (K : PySem.W.Frag) (mg mb : Str → Option Value) (cs : List (Addr × Addr)) (scr : Addr) (vs : List Value) (st : Shared) : Prop where
  kin : K.In st.heap
  glob : st.heap.Ns mainGlobals mg
  blt : st.heap.Ns builtinsNs mb
  boot : ∀ x : Str, x ≠ "__name__" → mb x = bootBuiltins x
  lim : st.heap.NoLimit
  gens : st.gens = #[]
  tabs : ∀ p ∈ cs, st.heap.get? p.2 = some { cls := .none, data := .fields #[] }
  offK : ∀ p ∈ cs, K.lookup p.2 = none
  codes : ∀ p ∈ cs, PySem.W.CodeHd st.heap p.1 p.2
  mod : ∃ (bm : Addr) (ob : Obj), mg "__builtins__" = some (.ref bm) ∧ bm ≠ builtinsNs ∧ st.heap.get? bm = some ob ∧ ob.cls = .type "module" ∧ ob.dict = some builtinsNs ∧ ob.data = .plain
  list : st.heap.get? scr = some { cls := .type "list", data := .seq vs.toArray }
/-- tracked are the script and the tables at most -/
structure Few (K : PySem.W.Frag) (cs : List (Addr × Addr)) (scr : Addr) (H : Hp) : Prop where
  only : ∀ b, H b ≠ none → b = scr ∨ ∃ p ∈ cs, p.2 = b
  notK : H scr ≠ none → K.lookup scr = none
theorem untracked (W : Ahead K mg mb cs scr vs st) {H : Hp} (F : Few K cs scr H) {b : Addr} {ob : Obj} (at_ : st.heap.get? b = some ob) (n1 : ∀ us m, ob.data ≠ .seq us m) (n2 : ob.data ≠ .fields #[]) : H b = none := by
  refine Decidable.byContradiction fun z => ?_
  rcases F.only b z with rfl | ⟨p, hp, rfl⟩
  · rw [W.list] at at_
    cases at_
    exact n1 _ _ rfl
  · rw [W.tabs p hp] at at_
    cases at_
    exact n2 rfl
theorem hid_ns (W : Ahead K mg mb cs scr vs st) {H : Hp} (F : Few K cs scr H) {b : Addr} {m : Str → Option Value} (h : st.heap.Ns b m) : (hidT st.heap H).Ns b m := by
  obtain ⟨ob, es, ep, at_, dat, rest⟩ := h
  refine ⟨ob, es, ep, hidT_get at_ (untracked W F at_ (fun us m z => ?_) fun z => ?_), dat, rest⟩ <;> (rw [dat] at z; cases z)
theorem hid_in (W : Ahead K mg mb cs scr vs st) {H : Hp} (F : Few K cs scr H) : K.In (hidT st.heap H) := fun b ob e => by
  refine hidT_get (W.kin b ob e) (Decidable.byContradiction fun z => ?_)
  rcases F.only b z with rfl | ⟨p, hp, rfl⟩
  · rw [F.notK z] at e
    cases e
  · rw [W.offK p hp] at e
    cases e
theorem hid_tab (W : Ahead K mg mb cs scr vs st) {H : Hp} (F : Few K cs scr H) : ∀ p ∈ cs, TabB (hidT st.heap H) mg p.1 p.2 := fun p hp => by
  have here := W.tabs p hp
  have plainG : ∀ {b : Addr} {ob : Obj}, st.heap.get? b = some ob → (∃ es ep, ob.data = .dict es ep) → b ≠ p.2 := fun e ⟨es, ep, d⟩ z => by
    rw [z, here] at e
    cases e
    cases d
  refine ⟨?_, ?_, ?_⟩
  · obtain ⟨ob, us, file, tf, flags, tg, inF, text, tt, e1, r1, r2, r3, rest⟩ := W.codes p hp
    refine ⟨ob, us, file, tf, flags, tg, inF, text, tt, hidT_get e1 (untracked W F e1 (fun us m z => ?_) fun z => ?_), r1, r2, r3, rest⟩
    · rw [r2] at z
      cases z
    · rw [r2] at z
      cases z
      simp at r3
  · obtain ⟨bm, ob, b1, b2, b3, b4, b5, b6⟩ := W.mod
    refine ⟨bm, ob, b1, b2, fun z => ?_, fun z => ?_, hidT_get b3 (untracked W F b3 (fun us m z => ?_) fun z => ?_), b4, b5, b6⟩
    · obtain ⟨og, es, ep, e, dat, _⟩ := W.glob
      rw [z, e] at b3
      cases b3
      rw [dat] at b6
      cases b6
    · rw [z, here] at b3
      cases b3
      cases b6
    · rw [b6] at z
      cases z
    · rw [b6] at z
      cases z
  · obtain ⟨og, es, ep, e, dat, _⟩ := W.glob
    exact plainG e ⟨es, ep, dat⟩
theorem hid_env (W : Ahead K mg mb cs scr vs st) {H : Hp} (F : Few K cs scr H) (hok : HOk P w H st.heap) : Env0 P w K mg (hidT st.heap H) callerA [] st H :=
  ⟨rfl, ⟨hid_in W F, hid_ns W F W.glob, ⟨mb, hid_ns W F W.blt, W.boot⟩, let ⟨mc, c1, c2⟩ := W.lim; ⟨mc, hid_ns W F c1, c2⟩⟩, fun b ob e => of_hidT e, Nat.le_of_eq (hidT_size _ _), trivial, fun b hb => (List.not_mem_nil (show b ∈ ([] : List Addr) from hb)).elim, hok, .of_eq W.gens⟩
/-- what is told of the heap behind the call -/
theorem behind (W : Ahead K mg mb cs scr vs st) {H : Hp} (F : Few K cs scr H) (hok : HOk P w H st.heap) (tb : ∀ p ∈ cs, H p.2 = some (.tbl #[])) (fz : H scr = none ∨ ∃ ob xs, H scr = some (.frz ob (.lst xs))) {r : Result} {s' : Shared}
    (told : CR L2.CX0 [] P w H st (fun v _ => v = .bl true) L2.E0 r s') : r = .ok (.ret (.bool true)) ∧ OldK st.heap s'.heap ∧ s'.os = st.os ∧ AllBare s'.gens := by
  match r, told with
  | .error _, told => exact (show False from told).elim
  | .ok .next, told => exact (show False from told).elim
  | .ok .brk, told => exact (show False from told).elim
  | .ok .cont, told => exact (show False from told).elim
  | .ok (.ret u), told =>
    obtain ⟨v, H2, os, bare, un, hok2, rel, isT⟩ := told
    have isT : v = .bl true := isT
    subst isT
    obtain rfl : u = Value.bool true := rel
    have noE : ∀ b : Addr, b ∉ ([] : List Addr) := fun _ => List.not_mem_nil
    have grown : ∀ p ∈ cs, ∃ more : Array Value, s'.heap.get? p.2 = some { cls := .none, data := .fields more } := fun p hp => by
      obtain ⟨more, e⟩ := un.tbls p.2 #[] (tb p hp)
      exact ⟨_, hok2 p.2 _ e⟩
    have stays : ∀ b ob, (¬ ∃ p ∈ cs, p.2 = b) → st.heap.get? b = some ob → s'.heap.get? b = some ob := fun b ob far e => by
      by_cases z : H b = none
      · exact un.keep b ob e z (noE b) (noE b)
      · rcases F.only b z with rfl | h
        · rcases fz with f | ⟨o2, xs, f⟩
          · exact absurd f z
          · obtain ⟨e1, _⟩ := hok _ _ f
            obtain ⟨e2, _⟩ := hok2 _ _ (un.frzs _ _ _ f)
            rw [e] at e1
            cases e1
            exact e2
        · exact absurd h far
    refine ⟨rfl, ⟨fun b ob e => ?_, fun b ob e => ?_⟩, os, bare⟩
    · by_cases h : ∃ p ∈ cs, p.2 = b
      · obtain ⟨p, hp, rfl⟩ := h
        obtain ⟨more, hm⟩ := grown p hp
        rw [W.tabs p hp] at e
        cases e
        exact .inr (.inl ⟨((W.codes p hp).tab (W.tabs p hp)).isCodeTable, rfl, #[], more, rfl, by rw [Array.empty_append]; exact hm⟩)
      · exact .inl (stays b ob h e)
    · by_cases h : ∃ p ∈ cs, p.2 = b
      · obtain ⟨p, hp, rfl⟩ := h
        obtain ⟨more, hm⟩ := grown p hp
        exact ⟨_, hm⟩
      · exact ⟨ob, stays b ob h e⟩
open Classical in
/-- THE END: the law's def by its run from the caller alone -/
theorem end_at (W : Ahead K mg mb cs scr vs st) (are : IntsAre vs ns) (short : ns.length ≤ sizeLine)
    (run : ∀ (base : Heap) (H : Hp), K.In base → base.Ns mainGlobals mg → (∀ p ∈ cs, TabB base mg p.1 p.2) → (∀ p ∈ cs, H p.2 = some (.tbl #[])) → SqL K H scr (ns.map V.int) → Env0 P w K mg base callerA [] st H →
      codeAny (model P w) callerA (.call (.ref fa) ⟨[.ref scr], []⟩) (CR L2.CX0 [] P w H st (fun v _ => v = .bl true) L2.E0) st) :
    codeAny (model P w) callerA (.call (.ref fa) ⟨[.ref scr], []⟩) (fun r s' => r = .ok (.ret (.bool true)) ∧ OldK st.heap s'.heap ∧ s'.os = st.os ∧ AllBare s'.gens) st := by
  have rv := vals_ints are
  have same := are.length
  have scrT : ¬ ∃ p ∈ cs, p.2 = scr := fun ⟨p, hp, e⟩ => by
    have z := W.tabs p hp
    rw [e, W.list] at z
    cases z
  have go : ∀ H : Hp, (∀ b, (∃ p ∈ cs, p.2 = b) → H b = some (.tbl #[])) → (∀ b, (¬ ∃ p ∈ cs, p.2 = b) → b ≠ scr → H b = none) → (H scr = none ∨ (K.lookup scr = none ∧ H scr = some (.frz { cls := .type "list", data := .seq vs.toArray } (.lst (ns.map V.int))))) → SqL K H scr (ns.map V.int) →
      codeAny (model P w) callerA (.call (.ref fa) ⟨[.ref scr], []⟩) (fun r s' => r = .ok (.ret (.bool true)) ∧ OldK st.heap s'.heap ∧ s'.os = st.os ∧ AllBare s'.gens) st := by
    intro H isTab noneElse atScr seq
    have few : Few K cs scr H := ⟨fun b z => by
      by_cases h : ∃ p ∈ cs, p.2 = b
      · exact .inr h
      · exact .inl (Decidable.byContradiction fun n => z (noneElse b h n)), fun z => (atScr.resolve_left z).1⟩
    have hok : HOk P w H st.heap := fun b ob e => by
      by_cases h : ∃ p ∈ cs, p.2 = b
      · rw [isTab b h] at e
        cases e
        obtain ⟨p, hp, rfl⟩ := h
        exact W.tabs p hp
      · by_cases n : b = scr
        · subst n
          rcases atScr with z | ⟨_, z⟩
          · rw [z] at e
            cases e
          · rw [z] at e
            cases e
            exact ⟨W.list, by rw [List.length_map]; exact short, vs, _, rv, W.list⟩
        · rw [noneElse b h n] at e
          cases e
    have tb : ∀ p ∈ cs, H p.2 = some (.tbl #[]) := fun p hp => isTab p.2 ⟨p, hp, rfl⟩
    exact codeAny_mono (run _ H (hid_in W few) (hid_ns W few W.glob) (hid_tab W few) tb seq (hid_env W few hok)) fun r s' told => behind W few hok tb (atScr.imp id fun z => ⟨_, _, z.2⟩) told
  cases hk : K.lookup scr with
  | some ob =>
    have e := W.kin scr ob hk
    rw [W.list] at e
    cases e
    exact go (fun b => if ∃ p ∈ cs, p.2 = b then some (.tbl #[]) else none) (fun b h => if_pos h) (fun b h _ => if_neg h) (.inl (if_neg scrT)) (.inr ⟨_, vs.toArray, _, hk, rfl, rfl, rfl, by rw [List.size_toArray, same]; exact short, by simpa using rv⟩)
  | none =>
    refine go (fun b => if b = scr then some (.frz { cls := .type "list", data := .seq vs.toArray } (.lst (ns.map V.int))) else if ∃ p ∈ cs, p.2 = b then some (.tbl #[]) else none) (fun b h => ?_) (fun b h n => ?_) (.inr ⟨hk, if_pos rfl⟩) (.inl (.inr ⟨_, if_pos rfl⟩))
    · exact (if_neg (fun z => scrT (by rw [← z]; exact h))).trans (if_pos h)
    · exact (if_neg n).trans (if_neg h)
end
end Gd
set_option Elab.async false
set_option linter.all false
set_option maxRecDepth 100000
set_option maxHeartbeats 3900000
/-! Defs that are run where no repr is under way; repr of data. -/
namespace Gd
open PySem PySem.Spec PyProof.Rows L2 LamX LmY
/-- as FnOk, where no repr is under way around the call -/
structure FnG (P : Program) (w : World) (K : PySem.W.Frag) (mg : Str → Option Value) (base : Heap) (k : Nat) (f : Addr) (fd : FuncData) (ps : List Str) (sp : Sp) : Prop where
  len : ∀ vs H Q E, sp vs H Q E → vs.length = ps.length
  run : ∀ (A : Around) (outer : List Env) (s : Shared) (H : Hp) (args : Args) (us : List Value) (vs : List V) (Q : VK), A.guards = some [] → Room k A → Env0 P w K mg base A outer s H → BindsTo s fd args (ps.zip us) → Vals vs us → sp vs H Q L2.E0 →
    codeAny (model P w) A (.call (.ref f) args) (CR L2.CX0 outer P w H s Q L2.E0) s
section
variable {P : Program} {w : World} {K : PySem.W.Frag} {mg : Str → Option Value} {base : Heap}
/-- a def of the text, by its body -/
theorem okG {x : Str} {st : Stmt} {f : Addr} {fd : FuncData} {N ps : List Str} {k : Nat} {sp : Sp} (F : Fun K x x st f fd) (S : FnScope N ps (defScope st)) (len : ∀ vs H Q E, sp vs H Q E → vs.length = ps.length)
    (body : ∀ (cdv : Value) (A : Around) (outer : List Env) (s : Shared) (H : Hp) (vs : List V) (Q : VK), A.guards = some [] → Room k (A.deeper (envOfC x (defScope st) s.heap.objs.size f cdv)) → sp vs H Q L2.E0 →
      ∃ t, PSs (cxOf L2.CX0 P w K mg base N x (defScope st) f cdv A outer s H L2.E0).nox (defBody st) t ∧ t { nx := fun _ H' => Q .non H', rt := Q } (L2.start N vs) H) : FnG P w K mg base (k + 1) f fd ps sp := by
  obtain ⟨oc, od, kV, doc, pm, an, cdv, ct, osl, rfl, look, code⟩ := F.ex
  refine ⟨len, fun A outer s H args us vs Q gu room e0 bind rel h => ?_⟩
  refine run_ofS look code S room e0 bind rel (len _ _ _ _ h) fun room1 => ?_
  obtain ⟨t, run, told⟩ := body cdv A outer s H vs Q gu room1 h
  exact ⟨t, run.nox, told⟩
/-- FnOk is more -/
theorem FnG.of {k : Nat} {f : Addr} {fd : FuncData} {ps : List Str} {sp : Sp} (F : FnOk P w K mg base L2.CX0 k f fd ps sp) : FnG P w K mg base k f fd ps sp := ⟨F.len, fun A outer s H args us vs Q _ room e0 bind rel h => F.run A outer s H args us vs Q L2.E0 room e0 bind rel h⟩
end
section
variable {X : Cx}
/-- x(e, ..), x such a def -/
theorem pe_callG {k : Nat} {f : Addr} {fd : FuncData} {ps : List Str} {sp : Sp} {x : Str} {p pos : Pos} {e : Expr} {es : List Expr} {t : TA} (F : FnG X.prog X.w X.K X.mg X.base k f fd ps sp) (gu : X.A.guards = some []) (room : Room k X.A) (gl : Gl X x) (mx : X.mg x = some (.ref f)) (kx : PySem.W.keepIn X.K (.ref f) = true)
    (bind : L2.Binds X.K fd ps []) (pa : PA X (e :: es) t) (h0 : (x == ("__debug__" : Str)) = false := by decide)
    (h1 : starEach (e :: es) X.env = (false, eval e X.env) :: starEach es X.env := by rfl) (h2 : (backTo pos (starEach es X.env)).any (·.1) = false := by rfl) :
    PE X (.Call (.Name x p) (e :: es) [] pos) (fun σ H Q => t σ H fun vs H1 => sp vs H1 Q L2.E0) := by
  refine ⟨fun pins s σ H Q I reading => wpAny_Call_Name_kw (ld_glob I gl mx (PySem.W.callWith_K (h₀ := X.base) I.ok.mod.kin kx (thn (pa.run pos pins s σ H _ I reading) fun us s1 ⟨vs, H1, I1, rel, q⟩ => ⟨I1.kIn, land (us := us) I1 ?_⟩) h1 h2) h0)⟩
  have given := bind s1 us I1.kIn (by rw [List.append_nil]; exact rel.length.symm.trans (F.len _ _ _ _ q))
  rw [List.append_nil] at given
  exact F.run X.A X.stack s1 H1 ⟨us, []⟩ us vs Q gu room I1.env0 given rel q
/-- repr of data, no repr being under way -/
theorem cr_reprD (gu : X.A.guards = some []) (un : X.A.units + 64 < cLine) : CallR X (.builtin "repr") (fun xs H Q => ∃ (a : Addr) (d : PyData), xs = [.ref a] ∧ Dp X.K H (.ref a) d ∧ d.showable = true ∧ d.hasDict = false ∧ d.depth ≤ 60 ∧ d.shown.length ≤ sizeLine ∧ Q (.str d.shown) H) := by
  intro pins s σ H xs us Q I rel ⟨a, d, ex, dp, sh, nd, dd, fits, q⟩
  subst ex
  rw [Vals.ref1 rel]
  obtain ⟨as, rd⟩ := Dp.reads I d (.ref a) (.ref a) dp rfl
  exact repr_of_reads' rd sh (fun e => by rw [nd] at e; cases e) gu (by omega) (fun _ _ e => e) (fun h' u tk kp => ⟨.str d.shown, H, I.kept kp, ⟨u, rfl⟩, q⟩) fits
end
/-- what the end wants of the law's def -/
def LawG (l : PySem.W.OpenLaw) (w : World) (K : PySem.W.Frag) (k n : Nat) (x : Str) (mg : Str → Option Value) (fa : Addr) (h : Heap) : Prop :=
  ∃ (fd : FuncData) (cs : List (Addr × Addr)) (sp : Sp), (∀ p ∈ cs, h.get? p.2 = some { cls := .none, data := .fields #[] }) ∧ (∀ p ∈ cs, K.lookup p.2 = none) ∧ (∀ p ∈ cs, PySem.W.CodeHd h p.1 p.2) ∧ (∀ (s : Shared) (u : Value), BindsTo s fd ⟨[u], []⟩ [(x, u)]) ∧
    (∀ (H : Hp) (a : Addr) (ns : List Int), ns.length ≤ n → (∀ z ∈ ns, Builtin.Int.intBits z ≤ 1048576) → (∀ p ∈ cs, H p.2 = some (.tbl #[])) → SqL K H a (ns.map V.int) → sp [.ref a] H (fun v _ => v = .bl true) L2.E0) ∧
    ∀ base : Heap, K.In base → base.Ns mainGlobals mg → (∀ p ∈ cs, TabB base mg p.1 p.2) → FnG l.prog w K mg base k fa fd [x] sp
/-- the end of a law some defs of which say repr, or hold lambdas: these ones' tables are still empty -/
theorem walk_guard {l : PySem.W.OpenLaw} {n k : Nat} {q : Program} {loose : List Str} {XP : (Str → Option Value) → Heap → Prop} {YP : World → Heap → Prop} {d : DefRec} {K : Params → PySem.W.Frag} {x : Str} (nms : List Str)
    (hn : l.most = some n) (line : n ≤ sizeLine) (hdf : d.params.defaults = []) (room : Room k callerA) (recs : ∀ nm ∈ nms, ((recsOf q).any fun e => e.name == nm) = true) (hY : ∀ (w : World) (h : Heap), YP w h → (K w.params).In h)
    (F : ∀ (w : World) (mg : Str → Option Value) (fa : Addr) (h : Heap), YP w h → (K w.params).In h → h.Ns mainGlobals mg → mg d.name = some (.ref fa) → (∀ nm ∈ nms, ∀ fw, mg nm = some (.ref fw) → OwnTab (K w.params) fw h) → LawG l w (K w.params) k n x mg fa h) :
    PySem.W.WalkO q loose XP YP l.row.toRowW d [] (fun f vs => PySem.call f vs) := by
  refine Att.attach_callB hn hdf fun w s0 s1 mg mb fa o pm cd doc a vs ns G Y ho hd hcd hmg hobj hints hlen hbits hg => ?_
  have KX := hY w _ Y
  have tabs : ∀ nm ∈ nms, ∀ fw, mg nm = some (.ref fw) → OwnTab (K w.params) fw s1.heap := by
    intro nm inn fw hw c P o1 fd1 e dd us sl look isF isC lookC at11
    obtain ⟨dR, mem, same⟩ := List.any_eq_true.mp (recs nm inn)
    have eN : dR.name = nm := beq_iff_eq.mp same
    obtain ⟨a2, o2, fd2, c2, P2, g1, g2, g3, g4, _, ⟨oc, vc, g5, _, g6, g7⟩, empty⟩ := G.T.tab dR mem
    rw [eN] at g1
    cases hw.symm.trans g1
    cases (KX _ _ look).symm.trans g2
    cases isF.symm.trans g3
    cases isC.symm.trans g4
    cases (KX _ _ lookC).symm.trans g5
    cases g6
    cases at11.symm.trans g7
    exact empty
  obtain ⟨fd, cs, sp, hT, nT, hC, hb, hsp, hF⟩ := F w mg fa _ Y KX G.T.g hmg tabs
  exact end_at ⟨KX, G.T.g, G.T.b, G.T.builtins, G.T.nolimit, hg, hT, nT, hC, G.T.bmain, hobj⟩ hints (Nat.le_trans hlen line) fun base H hK hG hB ht hS e0 =>
    (hF base hK hG hB).run callerA [] s1 H ⟨[.ref a], []⟩ [.ref a] [.ref a] _ rfl room e0 (hb s1 (.ref a)) (.cons rfl .nil) (hsp H a ns hlen hbits ht hS)
end Gd
set_option Elab.async false
set_option linter.all false
set_option maxRecDepth 100000
set_option maxHeartbeats 4000000
set_option pp.maxSteps 400
/-! The terms and sayings that the laws of grounds draw: names x and n, numbers. -/
namespace Kf
open PySem PySem.Spec PyProof.Rows L2 Sx
abbrev sTerm : Stmt := top 37
abbrev termN : List Str := ["feed", "deep", "way", "great", "one"]
theorem scTerm : FnScope termN ["feed", "deep"] (defScope sTerm) := ⟨rfl, rfl, rfl, by decide +kernel, rfl, by decide +kernel, by decide +kernel⟩
abbrev sSaying : Stmt := top 38
abbrev sayingN : List Str := ["feed", "deep", "way", "one", "word"]
theorem scSaying : FnScope sayingN ["feed", "deep"] (defScope sSaying) := ⟨rfl, rfl, rfl, by decide +kernel, rfl, by decide +kernel, by decide +kernel⟩
abbrev xn : List Str := ["x", "n"]
theorem okX : GoodW "x" := by decide +kernel
theorem okN : GoodW "n" := by decide +kernel
theorem inX : ("x" : Str) ∈ xn := by decide +kernel
theorem inN : ("n" : Str) ∈ xn := by decide +kernel
section
variable {P : Program} {w : World} {K : PySem.W.Frag} {mg : Str → Option Value} {base : Heap}
def spTerm (n : Nat) : Sp := fun vs H Q _ => ∃ (f : Addr) (d : Nat), vs = [.ref f, .int (d : Int)] ∧ d + 1 ≤ n ∧ FeedAt H f ∧ Out f H kT xn 0 (d + 1) Q
theorem at_leaf {H : Hp} {p : Addr} {w : Str} {x : V} (h : H p = some (.tup [.str w, x])) : At H (.leaf w x) (.ref p) := ⟨p, rfl, h⟩
theorem one_of {α : Type} {xs : List α} {r : Int} {F : α → Prop} (h0 : 0 ≤ r) (h1 : r < (xs.length : Int)) (h : ∀ x ∈ xs, F x) : ∃ x, F x ∧ atI xs r = some x := by
  obtain ⟨x, hx, e⟩ := atI_in h0 h1
  exact ⟨x, h x hx, e⟩
theorem menu5 {H : Hp} {p1 p2 p3 p4 g : Addr} {k k4 : Int} (k40 : 0 ≤ k4) (k41 : k4 < 10 ^ 60) (k0 : 0 ≤ k) (k1 : k < 10 ^ 60) (e1 : H p1 = some (.tup [.str "num", .int k4])) (e2 : H p2 = some (.tup [.str "name", .str "x"])) (e3 : H p3 = some (.tup [.str "name", .str "n"])) (e4 : H p4 = some (.tup [.str "num", .int 0])) (e5 : H g = some (.tup [.str "num", .int k])) :
    ∀ x ∈ ([.ref p1, .ref p2, .ref p3, .ref p4, .ref g] : List V), ∃ t, Made kT xn 0 1 t ∧ At H t x := by
  intro x hx
  rcases List.mem_cons.mp hx with rfl | hx
  · exact ⟨_, made_num k40 k41, at_leaf e1⟩
  rcases List.mem_cons.mp hx with rfl | hx
  · exact ⟨_, made_name okX inX, at_leaf e2⟩
  rcases List.mem_cons.mp hx with rfl | hx
  · exact ⟨_, made_name okN inN, at_leaf e3⟩
  rcases List.mem_cons.mp hx with rfl | hx
  · exact ⟨_, made_num (by decide) (by decide), at_leaf e4⟩
  · rw [List.mem_singleton.mp hx]
    exact ⟨_, made_num k0 k1, at_leaf e5⟩
theorem two_words : ∀ x ∈ ([.str "plus", .str "times"] : List V), ∃ wd : Str, x = .str wd ∧ (wd, kT, [kT, kT]) ∈ table ∧ binds wd = false := by
  intro x hx
  rcases List.mem_cons.mp hx with e | hx
  · exact ⟨_, e, by decide +kernel⟩
  · exact ⟨_, List.mem_singleton.mp hx, by decide +kernel⟩
theorem ok_term {f ft fp : Addr} {fd dt dp : FuncData} {n : Nat} (F : Fun K "_law_term" "_law_term" sTerm f fd) (D : Draw P w K mg base ft fp dt dp)
    (S : FnOk P w K mg base CX0 (1 + n) f fd ["feed", "deep"] (spTerm n)) (bS : Binds K fd ["feed", "deep"] []) (mS : mg "_law_term" = some (.ref f)) :
    FnOk P w K mg base CX0 (1 + n + 1) f fd ["feed", "deep"] (spTerm (n + 1)) := by
  refine F.ok scTerm (fun vs H Q E h => ?_) (fun cdv A outer s H vs Q E hr h => ?_)
  · obtain ⟨a, d, rfl, _⟩ := h
    rfl
  obtain ⟨f, d, rfl, dn, hF, q⟩ := h
  have h1 : Room 1 _ := hr.mono (by omega)
  refine ⟨_, (pss_cons (ps_set (i := 2) scTerm.nd rfl (.inl rfl) (pe_call D.T h1 (by rfl) D.mT D.kT D.bT .nil pass0 (pa_cons (pv 0) (pa_cons pe_int pa_nil))))
    (pss_cons (ps_if (PW.pt (pw_or (pt_cmpR op_eq (pv 1) pe_int (nomark _)) (pw_or1 (pt_cmpR op_lt (pv 2) pe_int (nomark _))))) (pss_cons (ps_set (i := 3) scTerm.nd rfl (.inl rfl) (pe_tup (pa_cons pe_str (pa_cons (pe_call D.T h1 (by rfl) D.mT D.kT D.bT .nil pass0 (pa_cons (pv 0) (pa_cons (pe_op op_pow pe_int pe_int) pa_nil))) pa_nil))))
    (pss_one (ps_ret (pe_ix ix_list (pe_lst (pa_cons (pe_tup (pa_cons pe_str (pa_cons (pe_call D.T h1 (by rfl) D.mT D.kT D.bT .nil pass0 (pa_cons (pv 0) (pa_cons pe_int pa_nil))) pa_nil))) (pa_cons (pe_tup (pa_cons pe_str (pa_cons pe_str pa_nil))) (pa_cons (pe_tup (pa_cons pe_str (pa_cons pe_str pa_nil))) (pa_cons (pe_tup (pa_cons pe_str (pa_cons pe_int pa_nil))) (pa_cons (pv 3) pa_nil)))))) (pe_op op_modN (pv 2) pe_int) (fun _ _ => rfl))))) pss_nil)
    (pss_cons (ps_set (i := 4) scTerm.nd rfl (.inl rfl) (pe_call S hr (by rfl) mS F.kp bS .nil pass0 (pa_cons (pv 0) (pa_cons (pe_op op_sub (pv 1) pe_int) pa_nil))))
    (pss_cons (ps_if (pt_cmpR op_lt (pv 2) pe_int (nomark _)) (pss_one (ps_ret (pe_tup (pa_cons pe_str (pa_cons (pv 4) pa_nil))))) pss_nil)
    (pss_one (ps_ret (pe_tup (pa_cons (pe_ix ix_list (pe_lst (pa_cons pe_str (pa_cons pe_str pa_nil))) (pe_op op_sub (pv 2) pe_int) (fun _ _ => rfl)) (pa_cons (pv 4) (pa_cons (pe_call S hr (by rfl) mS F.kp bS .nil pass0 (pa_cons (pv 0) (pa_cons (pe_op op_sub (pv 1) pe_int) pa_nil))) pa_nil)))))))))), ?_⟩
  refine ⟨_, rfl, f, 9, rfl, by decide, by decide, hF, fun way H1 w0 w9 b1 hF1 => ?_⟩
  apply join (C := fun X => X = H1)
  · intro leaf
    refine ⟨_, rfl, rfl, _, rfl, ?_⟩
    refine ite2 (fun c => iteT (leaf H1 rfl)) (fun c => ?_)
    have dpos : 0 < d := by
      rcases Nat.eq_zero_or_pos d with e | e
      · exact absurd (show decide (V.int (d : Int) = V.int 0) = true from decide_eq_true (by rw [e]; rfl)) c
      · exact e
    have ed : (d : Int) - 1 = ((d - 1 : Nat) : Int) := by omega
    refine ⟨_, rfl, _, _, rfl, rfl, _, rfl, ?_⟩
    refine ite2 (fun _ => leaf H1 rfl) (fun c5 => ?_)
    have c5' : ¬ way < 5 := fun z => c5 (decide_eq_true z)
    refine ⟨_, rfl, _, rfl, _, _, rfl, rfl, f, d - 1, (by show [V.ref f, V.int ((d : Int) - 1)] = _; rw [ed]), by omega, hF1, fun t1 v1 H2 m1 a1 b2 hF2 => ?_⟩
    have bb2 := b1.trans b2
    refine ⟨_, rfl, _, _, rfl, rfl, _, rfl, ?_⟩
    refine ite2 (fun _ => ?_) (fun c7 => ?_)
    · refine ⟨_, rfl, (by show 2 ≤ sizeLine; decide), fun p hp => ?_⟩
      exact q _ _ _ ((made_one next_row rfl m1).up (by omega)) ⟨p, v1, rfl, upd_same, a1.keep (tups_same (same_new hp))⟩ (bb2.new hp) (hF2.same (same_new hp))
    · have c7' : ¬ way < 7 := fun z => c7 (decide_eq_true z)
      refine ⟨(by show 2 ≤ sizeLine; decide), fun g hg => ?_⟩
      obtain ⟨x, ⟨wd, rfl, row, bw⟩, item⟩ := one_of (r := way - 7) (by omega) (by show way - 7 < 2; omega) two_words
      refine ⟨_, rfl, _, _, rfl, rfl, g, _, _, _, rfl, rfl, .inl (.inl upd_same), item, ?_⟩
      have s3 := same_new (o := .lst [.str "plus", .str "times"]) hg
      refine ⟨_, rfl, _, rfl, _, rfl, _, _, rfl, rfl, f, d - 1, (by show [V.ref f, V.int ((d : Int) - 1)] = _; rw [ed]), by omega, hF2.same s3, fun t2 v2 H3 m2 a2 b3 hF3 => ?_⟩
      refine ⟨(by show 3 ≤ sizeLine; decide), fun p hp => ?_⟩
      have k1 : At H3 t1 v1 := (a1.keep (tups_same s3)).keep ((hF2.same s3).tups b3)
      exact q _ _ _ ((made_two row bw m1 m2).up (by omega)) ⟨p, v1, v2, rfl, upd_same, k1.keep (tups_same (same_new hp)), a2.keep (tups_same (same_new hp))⟩ (((bb2.new hg).trans b3).new hp) (hF3.same (same_new hp))
  · rintro X rfl
    refine ⟨_, rfl, _, _, rfl, rfl, ⟨by decide, by decide, by decide⟩, f, _, rfl, by decide, by decide +kernel, hF1, fun k H2 k0 k1 b2 hF2 => ?_⟩
    have ka : k < 10 ^ 59 := k1
    refine ⟨(by show 2 ≤ sizeLine; decide), fun g hg => ?_⟩
    have sg := same_new (o := .tup [.str "num", .int k]) hg
    have hF3 := hF2.same sg
    have bg : But f H _ := (b1.trans b2).new (o := .tup [.str "num", .int k]) hg
    have eg : (upd H2 g (.tup [.str "num", .int k])) g = some (.tup [.str "num", .int k]) := upd_same
    generalize upd H2 g (.tup [.str "num", .int k]) = G2 at sg hF3 bg eg ⊢
    refine ⟨_, rfl, f, 4, rfl, by decide, by decide, hF3, fun k4 H4 k40 k41 b4 hF4 => ?_⟩
    refine ⟨(by show 2 ≤ sizeLine; decide), fun p1 n1 => ?_⟩
    have s1 := same_new (o := .tup [.str "num", .int k4]) n1
    refine ⟨(by show 2 ≤ sizeLine; decide), fun p2 n2 => ?_⟩
    have s2 := same_new (o := .tup [.str "name", .str "x"]) n2
    refine ⟨(by show 2 ≤ sizeLine; decide), fun p3 n3 => ?_⟩
    have s3 := same_new (o := .tup [.str "name", .str "n"]) n3
    refine ⟨(by show 2 ≤ sizeLine; decide), fun p4 n4 => ?_⟩
    have s4 := same_new (o := .tup [.str "num", .int 0]) n4
    refine ⟨_, rfl, (by show 5 ≤ sizeLine; decide), fun l nl => ?_⟩
    have s5 := same_new (o := .lst [.ref p1, .ref p2, .ref p3, .ref p4, .ref g]) nl
    have s15 := s1.trans (s2.trans (s3.trans (s4.trans s5)))
    have e1 := (s2.trans (s3.trans (s4.trans s5))) _ _ upd_same
    have e2 := (s3.trans (s4.trans s5)) _ _ upd_same
    have e3 := (s4.trans s5) _ _ upd_same
    have e4 := s5 _ _ upd_same
    have e5 := s15 _ _ ((hF3.tups b4) _ _ eg)
    have bb : But f H _ := (((((bg.trans b4).new n1).new n2).new n3).new n4).new (o := .lst [.ref p1, .ref p2, .ref p3, .ref p4, .ref g]) nl
    have all := menu5 k40 (Int.lt_trans k41 (by decide)) k0 (Int.lt_trans ka (by decide)) e1 e2 e3 e4 e5
    have m5 := mod_in (i := way) (m := 5) (by decide)
    obtain ⟨x, ⟨t, mt, at_⟩, item⟩ := one_of m5.1 (by show way.fmod 5 < 5; exact m5.2) all
    refine ⟨_, rfl, _, _, rfl, rfl, (show (5 : Int) ≠ 0 by decide), l, _, _, _, rfl, rfl, .inl (.inl upd_same), item, ?_⟩
    exact q t x _ (mt.up (by omega)) at_ bb (hF4.same s15)
theorem ok_terms {f ft fp : Addr} {fd dt dp : FuncData} (F : Fun K "_law_term" "_law_term" sTerm f fd) (D : Draw P w K mg base ft fp dt dp) (bS : Binds K fd ["feed", "deep"] []) (mS : mg "_law_term" = some (.ref f)) : ∀ n : Nat, FnOk P w K mg base CX0 (1 + n) f fd ["feed", "deep"] (spTerm n)
  | 0 => no_calls fun vs H Q E h => by
    obtain ⟨a, d, _, dn, _⟩ := h
    omega
  | n + 1 => ok_term F D (ok_terms F D bS mS n) bS mS
/-! ### _law_saying -/
theorem turn_wb {u : Tr} (hu : u.Ok) {t : Tr} (h : t.Wb kS 0) : (chg (sub (fun _ => u) bnd) t 0).Wb kS 1 := by
  have z := wb_chg (g := sub (fun _ => u) bnd) (a := 0) (b := 1) (fun w x r hl => ?_) t kS 0 (by rw [show (((0 : Nat) : Int) + 0) = 0 from rfl]; exact h)
  · exact z
  · by_cases e : Tr.leaf w x = u
    · rw [sub_yes (leaf_ok hl) e]
      exact ⟨rfl, .inr (.inr ⟨rfl, r, rfl, Int.natCast_nonneg _, by omega⟩)⟩
    · rw [sub_no (leaf_ok hl) hu e]
      exact ⟨rfl, leafB_mono (by omega) hl⟩
theorem turn_names {u : Tr} {z : Str} : ∀ (t : Tr) (r : Nat), z ∈ (chg (sub (fun _ => u) bnd) t r).names → z ∈ t.names
  | .leaf w x, r, h => by
    have h2 : z ∈ (sub (fun _ => u) bnd (Tr.leaf w x) r).names := h
    rcases sub_pick (fun _ => u) bnd (Tr.leaf w x) r with e | e
    · rw [e] at h2
      exact (no_names_bound h2).elim
    · rw [e] at h2
      exact h2
  | .n0 w, r, h => h
  | .n1 w t, r, h => turn_names t _ h
  | .n2 w t u, r, h => (List.mem_append.mp h).elim (fun q => List.mem_append.mpr (.inl (turn_names t _ q))) fun q => List.mem_append.mpr (.inr (turn_names u _ q))
theorem turn_made {u t : Tr} {d : Nat} (hu : u.Ok) (m : Made kS xn 0 d t) : Made kS xn 1 d (chg (sub (fun _ => u) bnd) t 0) :=
  ⟨turn_wb hu m.wb, Nat.le_trans (put_deep (old := fun _ => u) (new := bnd) (d := 0) (fun r => Nat.le_refl 1) t 0) (by have := m.dp; omega), fun z h => m.nm z (turn_names t 0 h)⟩
def spSaying (n : Nat) : Sp := fun vs H Q _ => ∃ (f : Addr) (d : Nat), vs = [.ref f, .int (d : Int)] ∧ d + 1 ≤ n ∧ d ≤ 4 ∧ FeedAt H f ∧ Out f H kS xn 0 (d + 3) Q
theorem two_binds : ∀ x ∈ ([.str "all", .str "some"] : List V), ∃ wd : Str, x = .str wd ∧ (wd, kS, [kS]) ∈ table ∧ binds wd = true := by
  intro x hx
  rcases List.mem_cons.mp hx with e | hx
  · exact ⟨_, e, by decide +kernel⟩
  · exact ⟨_, List.mem_singleton.mp hx, by decide +kernel⟩
theorem four_words : ∀ x ∈ ([.str "and", .str "or", .str "if", .str "or"] : List V), ∃ wd : Str, x = .str wd ∧ (wd, kS, [kS, kS]) ∈ table ∧ binds wd = false := by
  intro x hx
  rcases List.mem_cons.mp hx with e | hx
  · exact ⟨_, e, by decide +kernel⟩
  rcases List.mem_cons.mp hx with e | hx
  · exact ⟨_, e, by decide +kernel⟩
  rcases List.mem_cons.mp hx with e | hx
  · exact ⟨_, e, by decide +kernel⟩
  · exact ⟨_, List.mem_singleton.mp hx, by decide +kernel⟩
theorem menu3 {H : Hp} {p1 p2 p3 : Addr} (e1 : H p1 = some (.tup [.str "name", .str "x"])) (e2 : H p2 = some (.tup [.str "name", .str "n"])) (e3 : H p3 = some (.tup [.str "num", .int 0])) :
    ∀ x ∈ ([.ref p1, .ref p2, .ref p3] : List V), ∃ p u d, x = .ref p ∧ Made kT xn 0 d u ∧ (∃ w x, u = .leaf w x) ∧ At H u (.ref p) := by
  intro x hx
  rcases List.mem_cons.mp hx with rfl | hx
  · exact ⟨_, _, _, rfl, made_name okX inX, ⟨_, _, rfl⟩, at_leaf e1⟩
  rcases List.mem_cons.mp hx with rfl | hx
  · exact ⟨_, _, _, rfl, made_name okN inN, ⟨_, _, rfl⟩, at_leaf e2⟩
  · rw [List.mem_singleton.mp hx]
    exact ⟨_, _, _, rfl, made_num (by decide) (by decide), ⟨_, _, rfl⟩, at_leaf e3⟩
theorem menuS {H : Hp} {p1 p2 p3 : Addr} {t1 t2 : Tr} {v1 v2 : V} (m1 : Made kT xn 0 2 t1) (m2 : Made kT xn 0 2 t2) (a1 : At H t1 v1) (a2 : At H t2 v2) (e1 : H p1 = some (.tup [.str "no"])) (e2 : H p2 = some (.tup [.str "same", v1, v2])) (e3 : H p3 = some (.tup [.str "same", v1, v1])) :
    ∀ x ∈ ([.ref p1, .ref p2, .ref p3] : List V), ∃ t, Made kS xn 0 3 t ∧ At H t x := by
  intro x hx
  rcases List.mem_cons.mp hx with rfl | hx
  · exact ⟨_, made_no.up (by decide), p1, rfl, e1⟩
  rcases List.mem_cons.mp hx with rfl | hx
  · exact ⟨_, made_two same_row (by decide +kernel) m1 m2, p2, v1, v2, rfl, e2, a1, a2⟩
  · rw [List.mem_singleton.mp hx]
    exact ⟨_, made_two same_row (by decide +kernel) m1 m1, p3, v1, v1, rfl, e3, a1, a1⟩
theorem ok_saying {f ft fp fm fu : Addr} {fd dt dp dm du : FuncData} {n : Nat} (F : Fun K "_law_saying" "_law_saying" sSaying f fd) (D : Draw P w K mg base ft fp dt dp)
    (M : FnOk P w K mg base CX0 3 fm dm ["feed", "deep"] (spTerm 2)) (bM : Binds K dm ["feed", "deep"] []) (kM : PySem.W.keepIn K (.ref fm) = true) (mM : mg "_law_term" = some (.ref fm))
    (U : FnOk P w K mg base CX0 8 fu du ["thing", "old", "new", "deep"] (spLP 8)) (bU : Binds K du ["thing", "old", "new", "deep"] []) (kU : PySem.W.keepIn K (.ref fu) = true) (mU : mg "_law_turned" = some (.ref fu))
    (S : FnOk P w K mg base CX0 (8 + n) f fd ["feed", "deep"] (spSaying n)) (bS : Binds K fd ["feed", "deep"] []) (mS : mg "_law_saying" = some (.ref f)) :
    FnOk P w K mg base CX0 (8 + n + 1) f fd ["feed", "deep"] (spSaying (n + 1)) := by
  refine F.ok scSaying (fun vs H Q E h => ?_) (fun cdv A outer s H vs Q E hr h => ?_)
  · obtain ⟨a, d, rfl, _⟩ := h
    rfl
  obtain ⟨f, d, rfl, dn, d4, hF, q⟩ := h
  have h1 : Room 1 _ := hr.mono (by omega)
  have h2 : Room 2 _ := hr.mono (by omega)
  have h3 : Room 3 _ := hr.mono (by omega)
  have h8 : Room 8 _ := hr.mono (by omega)
  refine ⟨_, (pss_cons (ps_set (i := 2) scSaying.nd rfl (.inl rfl) (pe_call D.T h1 (by rfl) D.mT D.kT D.bT .nil pass0 (pa_cons (pv 0) (pa_cons pe_int pa_nil))))
    (pss_cons (ps_if (PW.pt (pw_or (pt_cmpR op_eq (pv 1) pe_int (nomark _)) (pw_or1 (pt_cmpR op_lt (pv 2) pe_int (nomark _))))) (pss_cons (ps_set (i := 3) scSaying.nd rfl (.inl rfl) (pe_call M h3 (by rfl) mM kM bM .nil pass0 (pa_cons (pv 0) (pa_cons pe_int pa_nil))))
    (pss_one (ps_ret (pe_ix ix_list (pe_lst (pa_cons (pe_tup (pa_cons pe_str pa_nil)) (pa_cons (pe_tup (pa_cons pe_str (pa_cons (pv 3) (pa_cons (pe_call M h3 (by rfl) mM kM bM .nil pass0 (pa_cons (pv 0) (pa_cons pe_int pa_nil))) pa_nil)))) (pa_cons (pe_tup (pa_cons pe_str (pa_cons (pv 3) (pa_cons (pv 3) pa_nil)))) pa_nil)))) (pe_call D.T h1 (by rfl) D.mT D.kT D.bT .nil pass0 (pa_cons (pv 0) (pa_cons pe_int pa_nil))) (fun _ _ => rfl))))) pss_nil)
    (pss_cons (ps_set (i := 3) scSaying.nd rfl (.inl rfl) (pe_call S hr (by rfl) mS F.kp bS .nil pass0 (pa_cons (pv 0) (pa_cons (pe_op op_sub (pv 1) pe_int) pa_nil))))
    (pss_cons (ps_if (pt_cmpR op_lt (pv 2) pe_int (nomark _)) (pss_cons (ps_set (i := 4) scSaying.nd rfl (.inl rfl) (pe_ix ix_list (pe_lst (pa_cons pe_str (pa_cons pe_str pa_nil))) (pe_op op_modN (pv 2) pe_int) (fun _ _ => rfl)))
    (pss_one (ps_ret (pe_tup (pa_cons (pv 4) (pa_cons (pe_call U h8 (by rfl) mU kU bU .nil pass0 (pa_cons (pv 3) (pa_cons (pe_call D.Pk h2 (by rfl) D.mP D.kP D.bP .nil pass0 (pa_cons (pv 0) (pa_cons (pe_lst (pa_cons (pe_tup (pa_cons pe_str (pa_cons pe_str pa_nil))) (pa_cons (pe_tup (pa_cons pe_str (pa_cons pe_str pa_nil))) (pa_cons (pe_tup (pa_cons pe_str (pa_cons pe_int pa_nil))) pa_nil)))) pa_nil))) (pa_cons pe_non (pa_cons pe_int pa_nil))))) pa_nil)))))) pss_nil)
    (pss_one (ps_ret (pe_tup (pa_cons (pe_ix ix_list (pe_lst (pa_cons pe_str (pa_cons pe_str (pa_cons pe_str (pa_cons pe_str pa_nil))))) (pe_op op_sub (pv 2) pe_int) (fun _ _ => rfl)) (pa_cons (pv 3) (pa_cons (pe_call S hr (by rfl) mS F.kp bS .nil pass0 (pa_cons (pv 0) (pa_cons (pe_op op_sub (pv 1) pe_int) pa_nil))) pa_nil)))))))))), ?_⟩
  refine ⟨_, rfl, f, 12, rfl, by decide, by decide, hF, fun way H1 w0 w9 b1 hF1 => ?_⟩
  apply join (C := fun X => X = H1)
  · intro leaf
    refine ⟨_, rfl, rfl, _, rfl, ?_⟩
    refine ite2 (fun c => iteT (leaf H1 rfl)) (fun c => ?_)
    have dpos : 0 < d := by
      rcases Nat.eq_zero_or_pos d with e | e
      · exact absurd (show decide (V.int (d : Int) = V.int 0) = true from decide_eq_true (by rw [e]; rfl)) c
      · exact e
    have ed : (d : Int) - 1 = ((d - 1 : Nat) : Int) := by omega
    refine ⟨_, rfl, _, _, rfl, rfl, _, rfl, ?_⟩
    refine ite2 (fun _ => leaf H1 rfl) (fun c5 => ?_)
    have c5' : ¬ way < 4 := fun z => c5 (decide_eq_true z)
    refine ⟨_, rfl, _, rfl, _, _, rfl, rfl, f, d - 1, (by show [V.ref f, V.int ((d : Int) - 1)] = _; rw [ed]), by omega, by omega, hF1, fun t1 v1 H2 m1 a1 b2 hF2 => ?_⟩
    have bb2 := b1.trans b2
    have ok1 := wb_ok m1.wb
    refine ⟨_, rfl, _, _, rfl, rfl, _, rfl, ?_⟩
    refine ite2 (fun _ => ?_) (fun c8 => ?_)
    · refine ⟨(by show 2 ≤ sizeLine; decide), fun g hg => ?_⟩
      have m2 := mod_in (i := way) (m := 2) (by decide)
      obtain ⟨x, ⟨wd, rfl, row, bw⟩, item⟩ := one_of m2.1 (by show way.fmod 2 < 2; exact m2.2) two_binds
      have sg := same_new (o := .lst [.str "all", .str "some"]) hg
      refine ⟨_, rfl, _, _, rfl, rfl, (show (2 : Int) ≠ 0 by decide), g, _, _, _, rfl, rfl, .inl (.inl upd_same), item, ?_⟩
      have bg := bb2.new (o := .lst [.str "all", .str "some"]) hg
      have hF3 := hF2.same sg
      have a3 := a1.keep (tups_same sg)
      generalize upd H2 g (.lst [.str "all", .str "some"]) = G2 at bg hF3 a3 ⊢
      refine ⟨_, rfl, _, rfl, _, rfl, (by show 2 ≤ sizeLine; decide), fun p1 n1 => ?_⟩
      have s1 := same_new (o := .tup [.str "name", .str "x"]) n1
      refine ⟨(by show 2 ≤ sizeLine; decide), fun p2 n2 => ?_⟩
      have s2 := same_new (o := .tup [.str "name", .str "n"]) n2
      refine ⟨(by show 2 ≤ sizeLine; decide), fun p3 n3 => ?_⟩
      have s3 := same_new (o := .tup [.str "num", .int 0]) n3
      refine ⟨(by show 3 ≤ sizeLine; decide), fun l nl => ?_⟩
      have s4 := same_new (o := .lst [.ref p1, .ref p2, .ref p3]) nl
      have s14 := s1.trans (s2.trans (s3.trans s4))
      have e1 := (s2.trans (s3.trans s4)) _ _ upd_same
      have e2 := (s3.trans s4) _ _ upd_same
      have e3 := s4 _ _ upd_same
      have all := menu3 e1 e2 e3
      have hF4 := hF3.same s14
      have bb : But f H _ := (((bg.new n1).new n2).new n3).new (o := .lst [.ref p1, .ref p2, .ref p3]) nl
      refine ⟨f, l, _, rfl, (hF3.same (s1.trans (s2.trans s3))).ne nl, .inl (.inl upd_same), (by show 0 < 3; decide), (by show 3 ≤ 1000; decide), hF4, fun x hx H5 b5 hF5 => ?_⟩
      obtain ⟨p, u, du, rfl, mu, lf, au⟩ := all x hx
      have k5 := hF4.tups b5
      refine ⟨v1, .ref p, .non, fun _ => u, bnd, t1, 0, rfl, (a3.keep (tups_same s14)).keep k5, ok1, wb_not m1.wb, wb_lay m1.wb, ?_, ?_, .inr ⟨p, u, rfl, au.keep k5, wb_ok mu.wb, wb_lay mu.wb, lf, rfl⟩, .inl ⟨rfl, rfl⟩, fun w2 H6 s6 aw => ?_⟩
      · have := m1.dp
        omega
      · have := m1.dp
        omega
      refine ⟨(by show 2 ≤ sizeLine; decide), fun p7 n7 => ?_⟩
      have mm := made_one (r := 0) (r2 := 1) row (by unfold Kf.up; rw [bw]; rfl) (turn_made (wb_ok mu.wb) m1)
      exact q _ _ _ (mm.up (by omega)) ⟨p7, w2, rfl, upd_same, aw.keep (tups_same (same_new n7))⟩ (((bb.trans b5).trans (fun b o _ e => s6 b o e)).new n7) ((hF5.same s6).same (same_new n7))
    · have c8' : ¬ way < 8 := fun z => c8 (decide_eq_true z)
      refine ⟨(by show 4 ≤ sizeLine; decide), fun g hg => ?_⟩
      obtain ⟨x, ⟨wd, rfl, row, bw⟩, item⟩ := one_of (r := way - 8) (by omega) (by show way - 8 < 4; omega) four_words
      refine ⟨_, rfl, _, _, rfl, rfl, g, _, _, _, rfl, rfl, .inl (.inl upd_same), item, ?_⟩
      have s3 := same_new (o := .lst [.str "and", .str "or", .str "if", .str "or"]) hg
      refine ⟨_, rfl, _, rfl, _, rfl, _, _, rfl, rfl, f, d - 1, (by show [V.ref f, V.int ((d : Int) - 1)] = _; rw [ed]), by omega, by omega, hF2.same s3, fun t2 v2 H3 m2 a2 b3 hF3 => ?_⟩
      refine ⟨(by show 3 ≤ sizeLine; decide), fun p hp => ?_⟩
      have k1 : At H3 t1 v1 := (a1.keep (tups_same s3)).keep ((hF2.same s3).tups b3)
      exact q _ _ _ ((made_two row bw m1 m2).up (by omega)) ⟨p, v1, v2, rfl, upd_same, k1.keep (tups_same (same_new hp)), a2.keep (tups_same (same_new hp))⟩ (((bb2.new hg).trans b3).new hp) (hF3.same (same_new hp))
  · rintro X rfl
    refine ⟨_, rfl, f, 1, rfl, by decide, hF1, fun t1 v1 H2 m1 a1 b2 hF2 => ?_⟩
    refine ⟨(by show 1 ≤ sizeLine; decide), fun p1 n1 => ?_⟩
    have s1 := same_new (o := .tup [.str "no"]) n1
    refine ⟨_, rfl, _, rfl, f, 1, rfl, by decide, hF2.same s1, fun t2 v2 H3 m2 a2 b3 hF3 => ?_⟩
    have k3 := (hF2.same s1).tups b3
    have a1' := (a1.keep (tups_same s1)).keep k3
    refine ⟨(by show 3 ≤ sizeLine; decide), fun p2 n2 => ?_⟩
    have s2 := same_new (o := .tup [.str "same", v1, v2]) n2
    refine ⟨_, rfl, _, rfl, (by show 3 ≤ sizeLine; decide), fun p3 n3 => ?_⟩
    have s3 := same_new (o := .tup [.str "same", v1, v1]) n3
    refine ⟨(by show 3 ≤ sizeLine; decide), fun l nl => ?_⟩
    have s4 := same_new (o := .lst [.ref p1, .ref p2, .ref p3]) nl
    have s24 := s2.trans (s3.trans s4)
    have hF5 := hF3.same s24
    have e1 := s24 _ _ (k3 _ _ upd_same)
    have e2 := (s3.trans s4) _ _ upd_same
    have e3 := s4 _ _ upd_same
    have all := menuS m1 m2 (a1'.keep (tups_same s24)) (a2.keep (tups_same s24)) e1 e2 e3
    have bb : But f H _ := (((((b1.trans b2).new n1).trans b3).new n2).new n3).new (o := .lst [.ref p1, .ref p2, .ref p3]) nl
    refine ⟨_, rfl, f, 3, rfl, by decide, by decide, hF5, fun k H6 k0 k1 b6 hF6 => ?_⟩
    obtain ⟨x, ⟨t, mt, at_⟩, item⟩ := one_of k0 (by show k < 3; exact k1) all
    refine ⟨l, _, _, _, rfl, rfl, .inl (.inl (b6 _ _ ((hF3.same (s2.trans s3)).ne nl) upd_same)), item, ?_⟩
    exact q t x _ (mt.up (by omega)) (at_.keep (hF5.tups b6)) (bb.trans b6) hF6
theorem ok_sayings {f ft fp fm fu : Addr} {fd dt dp dm du : FuncData} (F : Fun K "_law_saying" "_law_saying" sSaying f fd) (D : Draw P w K mg base ft fp dt dp)
    (M : FnOk P w K mg base CX0 3 fm dm ["feed", "deep"] (spTerm 2)) (bM : Binds K dm ["feed", "deep"] []) (kM : PySem.W.keepIn K (.ref fm) = true) (mM : mg "_law_term" = some (.ref fm))
    (U : FnOk P w K mg base CX0 8 fu du ["thing", "old", "new", "deep"] (spLP 8)) (bU : Binds K du ["thing", "old", "new", "deep"] []) (kU : PySem.W.keepIn K (.ref fu) = true) (mU : mg "_law_turned" = some (.ref fu))
    (bS : Binds K fd ["feed", "deep"] []) (mS : mg "_law_saying" = some (.ref f)) : ∀ n : Nat, FnOk P w K mg base CX0 (8 + n) f fd ["feed", "deep"] (spSaying n)
  | 0 => no_calls fun vs H Q E h => by
    obtain ⟨a, d, _, dn, _⟩ := h
    omega
  | n + 1 => ok_saying F D M bM kM mM U bU kU mU (ok_sayings F D M bM kM mM U bU kU mU bS mS n) bS mS
end
end Kf
set_option Elab.async false
set_option linter.all false
set_option maxRecDepth 100000
set_option maxHeartbeats 4000000
set_option pp.maxSteps 400
/-! k06, k07: trees as data that repr writes. -/
namespace Kf
open PySem PySem.Spec PyProof.Rows L2 Sx
theorem word_shown {w : Str} (h : NmOk w) (l : w.length ≤ 8) : (PyData.shown (.str w)).length ≤ 82 := by
  have all : ∀ c ∈ w.cps.toList, c < 16 ^ 8 := fun c hc => by
    have q := (Array.all_eq_true_iff_forall_mem.mp h) c (Array.mem_toList_iff.mp hc)
    have q2 : c < 0x110000 := by simpa using q
    exact Nat.lt_of_lt_of_le q2 (by decide)
  have z := StrLaws.reprText_len w all
  have e : (PyData.shown (.str w)).length = (reprText w).length := rfl
  rw [e]
  omega
theorem int_shown {n : Int} (h0 : 0 ≤ n) (h1 : n < 10 ^ 60) : (PyData.shown (.int n)).length ≤ 61 := by
  have lt : n.natAbs < 10 ^ 60 := by omega
  have e := int_text_length_le10 (k := 60) (by decide) lt
  show (Str.ofString (toString n)).length ≤ 61
  rw [PySem.ofString_length]
  exact e
theorem int_log {n : Int} (h0 : 0 ≤ n) (h1 : n < 10 ^ 60) : n.natAbs.log2 < 1920 := by
  by_cases z : n.natAbs = 0
  · rw [z]
    decide
  · refine (Nat.log2_lt z).2 ?_
    have lt : n.natAbs < 10 ^ 60 := by omega
    exact Nat.lt_of_lt_of_le lt (Nat.le_trans (show 10 ^ 60 ≤ 2 ^ 200 by decide) (Nat.pow_le_pow_right (by decide) (by decide)))
/-- what repr wants of a tree -/
structure Sh (d : PyData) (n m : Nat) : Prop where
  show_ : d.showable = true
  dict : d.hasDict = false
  deep : d.depth ≤ n
  len : d.shown.length ≤ 200 * m
theorem tup_len (ds : List PyData) : (PyData.shown (.tuple ds)).length ≤ ((PyData.shownAll ds).map (·.length)).sum + 2 * (PyData.shownAll ds).length + 3 := tupleText_len_le _
theorem sh_leaf {w : Str} {x : V} {r : Int} (h : LeafB w x r) (hr : r ≤ 5000) : Sh (Tr.dat (.leaf w x)) 1 1 := by
  have hw : NmOk w ∧ w.length ≤ 8 := by
    rcases h with ⟨e, _⟩ | ⟨e, _⟩ | ⟨e, _⟩ <;> subst e <;> decide +kernel
  have hv : (datV x).showable = true ∧ (datV x).hasDict = false ∧ (datV x).depth = 0 ∧ (datV x).shown.length ≤ 82 := by
    rcases h with ⟨_, n, e, h0, h1⟩ | ⟨_, z, e, g⟩ | ⟨_, n, e, h0, h1⟩
    · subst e
      exact ⟨decide_eq_true (int_log h0 h1), rfl, rfl, Nat.le_trans (int_shown h0 h1) (by decide)⟩
    · subst e
      exact ⟨rfl, rfl, rfl, word_shown g.2.2.2 g.2.2.1⟩
    · subst e
      have h2 : n < 10 ^ 60 := Int.lt_of_lt_of_le h1 (Int.le_trans hr (by decide))
      exact ⟨decide_eq_true (int_log h0 h2), rfl, rfl, Nat.le_trans (int_shown h0 h2) (by decide)⟩
  have hs := word_shown hw.1 hw.2
  refine ⟨?_, ?_, ?_, ?_⟩
  · show (true && ((datV x).showable && true)) = true
    rw [hv.1]
    rfl
  · show (false || ((datV x).hasDict || false)) = false
    rw [hv.2.1]
    rfl
  · show max 0 (max (datV x).depth 0) + 1 ≤ 1
    rw [hv.2.2.1]
    exact Nat.le_refl 1
  · have z := tup_len [.str w, datV x]
    have e : ((PyData.shownAll [.str w, datV x]).map (·.length)).sum = (PyData.shown (.str w)).length + ((datV x).shown.length + 0) := rfl
    have e2 : (PyData.shownAll [.str w, datV x]).length = 2 := rfl
    have l := hv.2.2.2
    show (PyData.shown (.tuple [.str w, datV x])).length ≤ 200 * 1
    omega
theorem sh_tree : ∀ (t : Tr) (k : Str) (r : Int), t.Wb k r → r + t.deep ≤ 5000 → Sh t.dat t.deep t.size
  | .leaf w x, k, r, h, hr => sh_leaf h.2 (by have : r + ((1 : Nat) : Int) ≤ 5000 := hr; omega)
  | .n0 w, k, r, h, hr => by
    have hw : NmOk w ∧ w.length ≤ 8 := table_nm _ h
    have hs := word_shown hw.1 hw.2
    refine ⟨rfl, rfl, Nat.le_refl 1, ?_⟩
    have z := tup_len [.str w]
    have e : ((PyData.shownAll [.str w]).map (·.length)).sum = (PyData.shown (.str w)).length + 0 := rfl
    have e2 : (PyData.shownAll [.str w]).length = 1 := rfl
    show (PyData.shown (.tuple [.str w])).length ≤ 200 * 1
    omega
  | .n1 w a, k, r, h, hr => by
    have hr2 : r + ((a.deep + 1 : Nat) : Int) ≤ 5000 := hr
    have u1 : up w r ≤ r + 1 := by unfold up; split <;> omega
    obtain ⟨k1, hr, ha⟩ := h
    have hw : NmOk w ∧ w.length ≤ 8 := table_nm _ hr
    have hs := word_shown hw.1 hw.2
    have A := sh_tree a k1 _ ha (by omega)
    refine ⟨?_, ?_, ?_, ?_⟩
    · show (true && (a.dat.showable && true)) = true
      rw [A.show_]
      rfl
    · show (false || (a.dat.hasDict || false)) = false
      rw [A.dict]
      rfl
    · show max 0 (max a.dat.depth 0) + 1 ≤ a.deep + 1
      have := A.deep
      omega
    · have z := tup_len [.str w, a.dat]
      have e : ((PyData.shownAll [.str w, a.dat]).map (·.length)).sum = (PyData.shown (.str w)).length + (a.dat.shown.length + 0) := rfl
      have e2 : (PyData.shownAll [.str w, a.dat]).length = 2 := rfl
      have l := A.len
      show (PyData.shown (.tuple [.str w, a.dat])).length ≤ 200 * (a.size + 1)
      omega
  | .n2 w a b, k, r, h, hr => by
    have hr2 : r + ((max a.deep b.deep + 1 : Nat) : Int) ≤ 5000 := hr
    have u1 : up w r ≤ r + 1 := by unfold up; split <;> omega
    obtain ⟨k1, k2, hr, ha, hb⟩ := h
    have hw : NmOk w ∧ w.length ≤ 8 := table_nm _ hr
    have hs := word_shown hw.1 hw.2
    have A := sh_tree a k1 _ ha (by omega)
    have B := sh_tree b k2 _ hb (by omega)
    refine ⟨?_, ?_, ?_, ?_⟩
    · show (true && (a.dat.showable && (b.dat.showable && true))) = true
      rw [A.show_, B.show_]
      rfl
    · show (false || (a.dat.hasDict || (b.dat.hasDict || false))) = false
      rw [A.dict, B.dict]
      rfl
    · show max 0 (max a.dat.depth (max b.dat.depth 0)) + 1 ≤ max a.deep b.deep + 1
      have := A.deep
      have := B.deep
      omega
    · have z := tup_len [.str w, a.dat, b.dat]
      have e : ((PyData.shownAll [.str w, a.dat, b.dat]).map (·.length)).sum = (PyData.shown (.str w)).length + (a.dat.shown.length + (b.dat.shown.length + 0)) := rfl
      have e2 : (PyData.shownAll [.str w, a.dat, b.dat]).length = 3 := rfl
      have l := A.len
      have l2 := B.len
      show (PyData.shown (.tuple [.str w, a.dat, b.dat])).length ≤ 200 * (a.size + b.size + 1)
      omega
theorem sh_fits {t : Tr} {k : Str} {r : Int} (h : t.Wb k r) (hr : r ≤ 1000) (d : t.deep ≤ 60) (s : t.size ≤ 6000) : t.dat.showable = true ∧ t.dat.hasDict = false ∧ t.dat.depth ≤ 60 ∧ t.dat.shown.length ≤ sizeLine := by
  have S := sh_tree t k r h (by omega)
  refine ⟨S.show_, S.dict, Nat.le_trans S.deep (by omega), Nat.le_trans S.len ?_⟩
  have : 200 * t.size ≤ 3276800 := by omega
  exact Nat.le_trans this (by decide)
theorem table_shown : ∀ e ∈ table, 4 ≤ (PyData.shown (.str e.1)).length := by decide +kernel
/-- how long a tree's text is at least -/
theorem long_tree : ∀ (t : Tr) (k : Str) (r : Int), t.Wb k r → 8 * t.size ≤ t.dat.shown.length + 2
  | .leaf w x, k, r, h => by
    have hw : 4 ≤ (PyData.shown (.str w)).length := by
      rcases h.2 with ⟨e, _⟩ | ⟨e, _⟩ | ⟨e, _⟩ <;> subst e <;> decide +kernel
    have z := piled_le_tupleText (PyData.shownAll [.str w, datV x])
    rw [show PyData.shownAll [.str w, datV x] = [PyData.shown (.str w), (datV x).shown] from rfl, piled_cons, piled_cons] at z
    show 8 * 1 ≤ (PyData.shown (.tuple [.str w, datV x])).length + 2
    rw [show PyData.shown (.tuple [.str w, datV x]) = tupleText [PyData.shown (.str w), (datV x).shown] from rfl]
    omega
  | .n0 w, k, r, h => by
    have hw := table_shown _ h
    have z := piled_le_tupleText [PyData.shown (.str w)]
    rw [piled_cons] at z
    show 8 * 1 ≤ (PyData.shown (.tuple [.str w])).length + 2
    rw [show PyData.shown (.tuple [.str w]) = tupleText [PyData.shown (.str w)] from rfl]
    dsimp only at hw
    omega
  | .n1 w a, k, r, h => by
    obtain ⟨k1, hr, ha⟩ := h
    have hw := table_shown _ hr
    have A := long_tree a k1 _ ha
    have z := piled_le_tupleText [PyData.shown (.str w), a.dat.shown]
    rw [piled_cons, piled_cons] at z
    show 8 * (a.size + 1) ≤ (PyData.shown (.tuple [.str w, a.dat])).length + 2
    rw [show PyData.shown (.tuple [.str w, a.dat]) = tupleText [PyData.shown (.str w), a.dat.shown] from rfl]
    dsimp only at hw
    omega
  | .n2 w a b, k, r, h => by
    obtain ⟨k1, k2, hr, ha, hb⟩ := h
    have hw := table_shown _ hr
    have A := long_tree a k1 _ ha
    have B := long_tree b k2 _ hb
    have z := piled_le_tupleText [PyData.shown (.str w), a.dat.shown, b.dat.shown]
    rw [piled_cons, piled_cons, piled_cons] at z
    show 8 * (a.size + b.size + 1) ≤ (PyData.shown (.tuple [.str w, a.dat, b.dat])).length + 2
    rw [show PyData.shown (.tuple [.str w, a.dat, b.dat]) = tupleText [PyData.shown (.str w), a.dat.shown, b.dat.shown] from rfl]
    dsimp only at hw
    omega
end Kf
set_option Elab.async false
set_option linter.all false
set_option maxRecDepth 100000
set_option maxHeartbeats 4000000
set_option pp.maxSteps 400
/-! k70: sayings_of, a wish, sayings doubled by it; the law's own doubling. -/
namespace Kf
open PySem PySem.Spec PyProof.Rows L2 Sx RZ
theorem lc_zipT {K : PySem.W.Frag} {a b : Addr} {xs ys : List V} {g : TG} {tt : TT} {te : TE} {vs : List Nat} {σ : L2.St} {H1 : Hp} {D : Addr} {Qd : Hp → Prop} (hl : xs.length = ys.length) (Pv : Nat → Hp → Prop) (h0 : Pv 0 (upd H1 D (.lst []))) (hq : ∀ i H, Pv i H → SqT K H a xs ∧ SqT K H b ys)
    (hs : ∀ i x y T H, xs[i]? = some x → ys[i]? = some y → Pv i H → H T = none → g (.ref T) (wipe σ vs) (upd H T (.tup [x, y])) fun σ2 H2 => wipe σ2 vs = wipe σ vs ∧ tt σ2 H2 fun b H3 =>
      if b = true then te σ2 H3 fun y H4 => ∃ acc, H4 D = some (.lst acc) ∧ acc.length < sizeLine ∧ Pv (i + 1) (upd H4 D (.lst (acc ++ [y]))) else Pv (i + 1) H3) (hd : ∀ H, Pv xs.length H → Qd H) :
    ∃ W : Nat → Nat → Hp → Prop, (∃ m, W 0 m (upd H1 D (.lst []))) ∧ ∀ i m H, W i m H →
      ((ItzT K a b).stop i H ∧ Qd H) ∨ ((ItzT K a b).go i H ∧ ∃ Nx : Hp → Prop, (∀ H', Nx H' → ∃ m', m' < m ∧ W (i + 1) m' H') ∧ ∀ x H', (ItzT K a b).yld i H x H' → g x (wipe σ vs) H' fun σ2 H2 => wipe σ2 vs = wipe σ vs ∧ tt σ2 H2 fun b H3 =>
        if b = true then te σ2 H3 fun y H4 => ∃ acc, H4 D = some (.lst acc) ∧ acc.length < sizeLine ∧ Nx (upd H4 D (.lst (acc ++ [y]))) else Nx H3) := by
  refine ⟨fun i m H => m = xs.length - i ∧ i ≤ xs.length ∧ Pv i H, ⟨xs.length, by simp, Nat.zero_le _, h0⟩, ?_⟩
  rintro i m H ⟨rfl, hi, p⟩
  obtain ⟨q1, q2⟩ := hq i H p
  by_cases lt : i < xs.length
  · have lt2 : i < ys.length := by omega
    refine .inr ⟨⟨xs, ys, xs[i], ys[i], q1, q2, List.getElem?_eq_getElem lt, List.getElem?_eq_getElem lt2⟩, Pv (i + 1), fun H' p' => ⟨xs.length - (i + 1), by omega, rfl, lt, p'⟩, fun x H' y => ?_⟩
    obtain ⟨T, x1, y1, rfl, nT, rfl, e1, e2⟩ := y
    exact hs i x1 y1 T H (e1 xs q1) (e2 ys q2) p nT
  · exact .inl ⟨⟨xs, ys, q1, q2, .inl (by omega)⟩, hd H (by rw [show xs.length = i by omega]; exact p)⟩
/-- the sayings that are parts -/
def Tr.says : Tr → List Tr
  | .leaf _ _ => []
  | .n0 _ => []
  | .n1 _ a => [a]
  | .n2 w a b => if w = "same" then [] else [a, b]
def keepS (ts : List Tr) (ks : List Str) (i : Nat) : List Tr := (((ts.zip ks).take i).filter fun p => decide (p.2 = kS)).map (·.1)
theorem row1 : ∀ e ∈ table, e.2.1 = kS → e.2.2.length = 1 → e.2.2 = [kS] ∧ (e.1 = "all" ∨ e.1 = "some") := by decide +kernel
theorem row2 : ∀ e ∈ table, e.2.1 = kS → e.2.2.length = 2 → (e.1 = "same" ∧ e.2.2 = [kT, kT]) ∨ ((e.1 = "and" ∨ e.1 = "or" ∨ e.1 = "if") ∧ e.2.2 = [kS, kS]) := by decide +kernel
theorem row0 : ∀ e ∈ table, e.2.1 = kS → e.2.2.length = 0 → e.1 = "no" := by decide +kernel
theorem kTS : kT ≠ kS := by decide +kernel
theorem keep_says {t : Tr} {r : Int} (h : t.Wb kS r) (nl : leafy t.word = false) : ∃ ks, (t.word, kS, ks) ∈ table ∧ t.kids.length = ks.length ∧ keepS t.kids ks t.kids.length = t.says := by
  cases t with
  | leaf w x => exact (kTS (show kT = kS from h.1.symm)).elim
  | n0 w => exact ⟨[], h, rfl, rfl⟩
  | n1 w a =>
    obtain ⟨k1, hr, _⟩ := h
    obtain ⟨e, _⟩ := row1 _ hr rfl rfl
    injection e with e
    subst e
    exact ⟨[kS], hr, rfl, rfl⟩
  | n2 w a b =>
    obtain ⟨k1, k2, hr, _⟩ := h
    rcases row2 _ hr rfl rfl with ⟨e1, e⟩ | ⟨e1, e⟩
    · injection e with e2 e
      injection e with e3
      subst e2 e3
      have ew : w = "same" := e1
      subst ew
      exact ⟨[kT, kT], hr, rfl, rfl⟩
    · injection e with e2 e
      injection e with e3
      subst e2 e3
      refine ⟨[kS, kS], hr, rfl, ?_⟩
      show [a, b] = if w = "same" then [] else [a, b]
      rw [if_neg]
      have e1 : w = "and" ∨ w = "or" ∨ w = "if" := e1
      rcases e1 with e | e | e <;> rw [e] <;> decide +kernel
theorem keep_next {ts : List Tr} {ks : List Str} {i : Nat} {t : Tr} {k : Str} (ht : ts[i]? = some t) (hk : ks[i]? = some k) : keepS ts ks (i + 1) = keepS ts ks i ++ (if k = kS then [t] else []) := by
  have hz : (ts.zip ks)[i]? = some (t, k) := List.getElem?_zip_eq_some.mpr ⟨ht, hk⟩
  unfold keepS
  rw [List.take_add_one, hz]
  by_cases c : k = kS
  · simp [c]
  · simp [c]
abbrev sOf : Stmt := top 26
abbrev ofN : List Str := ["saying", "part", "what"]
theorem scOf : FnScope ofN ["saying"] (defScope sOf) := ⟨rfl, rfl, rfl, by decide +kernel, rfl, by decide +kernel, by decide +kernel⟩
abbrev sWInit : Stmt := inClass (top 24) 0
abbrev wInitN : List Str := ["self", "used"]
theorem scWInit : FnScope wInitN ["self", "used"] (defScope sWInit) := ⟨rfl, rfl, rfl, by decide +kernel, rfl, by decide +kernel, by decide +kernel⟩
abbrev sInit : Stmt := inClass (top 28) 0
abbrev initN : List Str := ["self", "saying", "used"]
theorem scInit : FnScope initN ["self", "saying", "used"] (defScope sInit) := ⟨rfl, rfl, rfl, by decide +kernel, rfl, by decide +kernel, by decide +kernel⟩
abbrev sFrom : Stmt := inClass (top 28) 4
abbrev fromN : List Str := ["self", "saying"]
theorem scFrom : FnScope fromN ["self", "saying"] (defScope sFrom) := ⟨rfl, rfl, rfl, by decide +kernel, rfl, by decide +kernel, by decide +kernel⟩
abbrev sMDoubled : Stmt := inClass (top 28) 3
abbrev mDoubledN : List Str := ["self", "saying", "word", "parts", "part"]
theorem scMDoubled : FnScope mDoubledN ["self", "saying"] (defScope sMDoubled) := ⟨rfl, rfl, rfl, by decide +kernel, rfl, by decide +kernel, by decide +kernel⟩
abbrev sDoubled : Stmt := top 30
abbrev doubledN : List Str := ["saying", "wish"]
theorem scDoubled : FnScope doubledN ["saying", "wish"] (defScope sDoubled) := ⟨rfl, rfl, rfl, by decide +kernel, rfl, by decide +kernel, by decide +kernel⟩
abbrev sLDb : Stmt := top 39
abbrev lDbN : List Str := ["saying", "wish", "word", "some", "one"]
theorem scLDb : FnScope lDbN ["saying", "wish"] (defScope sLDb) := ⟨rfl, rfl, rfl, by decide +kernel, rfl, by decide +kernel, by decide +kernel⟩
section
variable {P : Program} {w : World} {K : PySem.W.Frag} {mg : Str → Option Value} {base : Heap} {L B FV : Addr}
def spOf : Sp := fun vs H Q _ => ∃ (v : V) (t : Tr) (r : Int), vs = [v] ∧ At H t v ∧ t.Wb kS r ∧ ∀ (p : Addr) (H' : Hp) (ws : List V), Same H H' → H p = none → H' p = some (.lst ws) → All2 (At H') t.says ws → Q (.ref p) H'
theorem nleaf {t : Tr} {r : Int} (h : t.Wb kS r) : leafy t.word = false := by
  cases t with
  | leaf w x => exact (kTS (show kT = kS from h.1.symm)).elim
  | n0 w => exact table_leafy _ h
  | n1 w a => exact table_leafy _ h.choose_spec.1
  | n2 w a b => exact table_leafy _ h.choose_spec.choose_spec.1
theorem ok_of {f : Addr} {fd : FuncData} {j : Nat} (F : Fun K "sayings_of" "sayings_of" sOf f fd) (T : Txt K w mg L B FV) : FnOk P w K mg base CX0 (j + 1) f fd ["saying"] spOf := by
  obtain ⟨es, n, D⟩ := T.dict
  refine F.ok scOf (fun vs H Q E h => ?_) (fun cdv A outer s H vs Q E hr h => ?_)
  · obtain ⟨v, t, r, rfl, _⟩ := h
    rfl
  obtain ⟨v, t, r, rfl, hA, hW, q⟩ := h
  refine ⟨_, pss_one (ps_ret (pe_lc (own := [("part", 1), ("what", 2)]) (g := gTup K 2 (gCons (gName 1) (gCons (gName 2) gNil))) (tt := _) rfl scOf.nd
    (pi_zipA (by rfl) T.zZip (pa_cons (pe_slice sl_tup (pv 0) (po_some pe_int) po_none) (pa_cons (pe_ix ix_tup (pe_ix ix_kdict (pe_glob (v := .ref FV) (by rfl) T.mF rfl) (pe_ix ix_tup (pv 0) pe_int (fun _ _ => rfl)) (fun _ _ => rfl)) pe_int (fun _ _ => rfl)) pa_nil)))
    (blkOk_by (N := ofN) (sc := defScope sOf) (by decide +kernel)) (fun _ _ _ _ _ => pg_tup (by rfl) (pgs_cons (pg_name (i := 1) scOf.nd rfl (Or.inl rfl)) (pgs_cons (pg_name (i := 2) scOf.nd rfl (Or.inl rfl)) pgs_nil)))
    (fun _ _ _ _ _ => pts_one (pt_cmpR op_eq (pv 2) pe_str (nomark _))) (fun _ _ _ _ _ => pv 1))), ?_⟩
  have hO := wb_ok hW
  have nl := nleaf hW
  obtain ⟨p1, us, rfl, hp1, lus, kids, leafs⟩ := hA.view hO
  have kd := kids nl
  obtain ⟨ks, hrow, hlen, hks⟩ := keep_says hW nl
  obtain ⟨fa, fb, n1, sa, sb⟩ := T.form _ _ _ hrow
  have lenU : us.length = (ks.map V.str).length := by
    rw [List.length_map, ← hlen]
    exact kd.len.symm
  refine ⟨_, rfl, 1, rfl, p1, _, rfl, .inl (.inl hp1), cut_not _ _, fun c nc => ?_⟩
  rw [cut_one]
  have s1 : Same H (upd H c (.tup us)) := same_new nc
  refine ⟨_, rfl, p1, _, 0, _, rfl, rfl, .inl (.inl (s1 _ _ hp1)), head_at _ _, FV, _, .ref fa, rfl, rfl, ⟨es, n, _, D.at_, D.lit, n1, rfl⟩, fa, _, 1, .ref fb, rfl, rfl, sa _, atI_nat (j := 1) rfl, ?_⟩
  refine ⟨c, fb, us, ks.map V.str, rfl, .inr ⟨.inl (.inl upd_same), sb _, fun D nD => ?_⟩⟩
  generalize hHc : upd H c (.tup us) = Hc at s1 nD
  have hc : Hc c = some (.tup us) := by rw [← hHc, upd_same]
  refine lc_zipT (K := K) (xs := us) (ys := ks.map V.str) lenU (fun i H' => ∃ acc : List V, H' D = some (.lst acc) ∧ Same Hc H' ∧ All2 (At H') (keepS t.kids ks i) acc)
    ⟨[], upd_same, same_new nD, .nil⟩ (fun i H' ⟨_, _, sm, _⟩ => ⟨.inl (.inl (sm _ _ hc)), sb _⟩) ?_ ?_
  · rintro i x y T2 H' hx hy ⟨acc, hD, sm, all⟩ nT
    obtain ⟨tk, htk, hax⟩ := kd.get hx
    rw [List.getElem?_map] at hy
    obtain ⟨kk, hkk, rfl⟩ := Option.map_eq_some_iff.mp hy
    have sT : Same H' (upd H' T2 (.tup [x, .str kk])) := same_new nT
    refine ⟨T2, [x, .str kk], rfl, .inl (.inl upd_same), rfl, x, [.str kk], rfl, .str kk, [], rfl, rfl, rfl, ?_⟩
    have all2 := all.mono fun a v h => h.keep (tups_same sT)
    refine ⟨_, rfl, rfl, _, rfl, ?_⟩
    have nx := keep_next htk hkk
    refine eqW (fun e => ?_) (fun ne => ?_)
    · rw [if_pos e] at nx
      have la := all.len
      have lk : (keepS t.kids ks i).length ≤ 2 := by
        unfold keepS
        rw [List.length_map]
        refine Nat.le_trans (List.length_filter_le _ _) (Nat.le_trans (List.length_take_le' _ _) ?_)
        rw [List.length_zip, kd.len]
        omega
      refine ⟨_, rfl, acc, sT _ _ hD, line_of (by omega), acc ++ [x], upd_same, same_up (sm.trans sT) nD, ?_⟩
      rw [nx]
      have k2 : Tups (upd H' T2 (.tup [x, .str kk])) (upd (upd H' T2 (.tup [x, .str kk])) D (.lst (acc ++ [x]))) := tups_put fun xs z => by
        rw [sT _ _ hD] at z
        cases z
      exact (all2.mono fun a v h => h.keep k2).app (.one ((((hax.keep (tups_same s1)).keep (tups_same sm)).keep (tups_same sT)).keep k2))
    · rw [if_neg ne, List.append_nil] at nx
      refine ⟨acc, sT _ _ hD, sm.trans sT, ?_⟩
      rw [nx]
      exact all2
  · rintro H' ⟨acc, hD, sm, all⟩
    rw [← kd.len, hks] at all
    exact q D H' acc (s1.trans sm) (s1.free nD) hD all

end
end Kf
set_option Elab.async false
set_option linter.all false
set_option maxRecDepth 100000
set_option maxHeartbeats 4000000
set_option pp.maxSteps 400
/-! Sayings doubled, as trees. -/
namespace Kf
open PySem PySem.Spec PyProof.Rows L2 Sx
def dbl (W : Tr) : Tr → Tr
  | .leaf w x => .leaf w x
  | .n0 _ => W
  | .n1 w a => if w = "some" then .n2 "if" (.n1 "all" (.n2 "if" (dbl W a) W)) W else .n1 w (dbl W a)
  | .n2 w a b => if w = "same" then .n2 "if" (.n2 "if" (.n2 w a b) W) W else if w = "or" then .n2 "if" (.n2 "and" (.n2 "if" (dbl W a) W) (.n2 "if" (dbl W b) W)) W else .n2 w (dbl W a) (dbl W b)
theorem some_all : ¬ ("all" : Str) = "some" := by decide +kernel
theorem and_same : ¬ ("and" : Str) = "same" := by decide +kernel
theorem or_same : ¬ ("or" : Str) = "same" := by decide +kernel
theorem if_same : ¬ ("if" : Str) = "same" := by decide +kernel
theorem and_or : ¬ ("and" : Str) = "or" := by decide +kernel
theorem if_or : ¬ ("if" : Str) = "or" := by decide +kernel
theorem if_row : (("if" : Str), kS, [kS, kS]) ∈ table := by decide +kernel
theorem and_row : (("and" : Str), kS, [kS, kS]) ∈ table := by decide +kernel
theorem or_row : (("or" : Str), kS, [kS, kS]) ∈ table := by decide +kernel
theorem all_row : (("all" : Str), kS, [kS]) ∈ table := by decide +kernel
theorem some_row : (("some" : Str), kS, [kS]) ∈ table := by decide +kernel
/-- what a saying is -/
inductive Say : Int → Tr → Prop
  | no (r : Int) : Say r (.n0 "no")
  | same {r : Int} {a b : Tr} (ha : a.Wb kT r) (hb : b.Wb kT r) : Say r (.n2 "same" a b)
  | all {r : Int} {a : Tr} (ha : Say (r + 1) a) : Say r (.n1 "all" a)
  | some {r : Int} {a : Tr} (ha : Say (r + 1) a) : Say r (.n1 "some" a)
  | and {r : Int} {a b : Tr} (ha : Say r a) (hb : Say r b) : Say r (.n2 "and" a b)
  | or {r : Int} {a b : Tr} (ha : Say r a) (hb : Say r b) : Say r (.n2 "or" a b)
  | if {r : Int} {a b : Tr} (ha : Say r a) (hb : Say r b) : Say r (.n2 "if" a b)
theorem up_no {w : Str} {r : Int} (h : binds w = false) : up w r = r := if_neg (by rw [h]; exact Bool.false_ne_true)
theorem up_yes {w : Str} {r : Int} (h : binds w = true) : up w r = r + 1 := if_pos h
theorem say_of : ∀ {t : Tr} {r : Int}, t.Wb kS r → Say r t
  | .leaf w x, r, h => (kTS (show kT = kS from h.1.symm)).elim
  | .n0 w, r, h => by
    have e : w = "no" := row0 _ h rfl rfl
    subst e
    exact .no r
  | .n1 w a, r, ⟨k1, hr, ha⟩ => by
    obtain ⟨e, ew⟩ := row1 _ hr rfl rfl
    injection e with e
    subst e
    have ew : w = "all" ∨ w = "some" := ew
    rcases ew with e | e
    · subst e
      rw [up_yes (by decide +kernel)] at ha
      exact .all (say_of ha)
    · subst e
      rw [up_yes (by decide +kernel)] at ha
      exact .some (say_of ha)
  | .n2 w a b, r, ⟨k1, k2, hr, ha, hb⟩ => by
    rcases row2 _ hr rfl rfl with ⟨e1, e⟩ | ⟨e1, e⟩
    · injection e with e2 e
      injection e with e3
      subst e2 e3
      have ew : w = "same" := e1
      subst ew
      rw [up_no (by decide +kernel)] at ha hb
      exact .same ha hb
    · injection e with e2 e
      injection e with e3
      subst e2 e3
      have e1 : w = "and" ∨ w = "or" ∨ w = "if" := e1
      rcases e1 with e | e | e
      · subst e
        rw [up_no (by decide +kernel)] at ha hb
        exact .and (say_of ha) (say_of hb)
      · subst e
        rw [up_no (by decide +kernel)] at ha hb
        exact .or (say_of ha) (say_of hb)
      · subst e
        rw [up_no (by decide +kernel)] at ha hb
        exact .if (say_of ha) (say_of hb)
theorem wb_of {r : Int} {t : Tr} (h : Say r t) : t.Wb kS r := by
  induction h with
  | no r => exact no_row
  | same ha hb => exact ⟨kT, kT, same_row, by rw [up_no (by decide +kernel)]; exact ha, by rw [up_no (by decide +kernel)]; exact hb⟩
  | all ha ih => exact ⟨kS, all_row, by rw [up_yes (by decide +kernel)]; exact ih⟩
  | some ha ih => exact ⟨kS, some_row, by rw [up_yes (by decide +kernel)]; exact ih⟩
  | and ha hb iha ihb => exact ⟨kS, kS, and_row, by rw [up_no (by decide +kernel)]; exact iha, by rw [up_no (by decide +kernel)]; exact ihb⟩
  | or ha hb iha ihb => exact ⟨kS, kS, or_row, by rw [up_no (by decide +kernel)]; exact iha, by rw [up_no (by decide +kernel)]; exact ihb⟩
  | «if» ha hb iha ihb => exact ⟨kS, kS, if_row, by rw [up_no (by decide +kernel)]; exact iha, by rw [up_no (by decide +kernel)]; exact ihb⟩
theorem say_up {r q : Int} {t : Tr} (le : r ≤ q) (h : Say r t) : Say q t := say_of (wb_mono le (wb_of h))
theorem say_pos {W : Tr} {r : Int} (h0 : 0 ≤ r) (h : Say 0 W) : Say r W := say_up h0 h
section
variable {W : Tr}
theorem dbl_no : dbl W (.n0 "no") = W := rfl
theorem dbl_same (a b : Tr) : dbl W (.n2 "same" a b) = .n2 "if" (.n2 "if" (.n2 "same" a b) W) W := if_pos rfl
theorem dbl_all (a : Tr) : dbl W (.n1 "all" a) = .n1 "all" (dbl W a) := if_neg some_all
theorem dbl_some (a : Tr) : dbl W (.n1 "some" a) = .n2 "if" (.n1 "all" (.n2 "if" (dbl W a) W)) W := if_pos rfl
theorem dbl_and (a b : Tr) : dbl W (.n2 "and" a b) = .n2 "and" (dbl W a) (dbl W b) := (if_neg and_same).trans (if_neg and_or)
theorem dbl_or (a b : Tr) : dbl W (.n2 "or" a b) = .n2 "if" (.n2 "and" (.n2 "if" (dbl W a) W) (.n2 "if" (dbl W b) W)) W := (if_neg or_same).trans (if_pos rfl)
theorem dbl_if (a b : Tr) : dbl W (.n2 "if" a b) = .n2 "if" (dbl W a) (dbl W b) := (if_neg if_same).trans (if_neg if_or)
theorem dbl_say (hW : Say 0 W) {r : Int} {t : Tr} (h : Say r t) : 0 ≤ r → Say r (dbl W t) := by
  induction h with
  | no r => exact fun r0 => say_pos r0 hW
  | same ha hb =>
    intro r0
    rw [dbl_same]
    exact .if (.if (.same ha hb) (say_pos r0 hW)) (say_pos r0 hW)
  | all ha ih =>
    intro r0
    rw [dbl_all]
    exact .all (ih (by omega))
  | some ha ih =>
    intro r0
    rw [dbl_some]
    exact .if (.all (.if (ih (by omega)) (say_pos (by omega) hW))) (say_pos r0 hW)
  | and ha hb iha ihb =>
    intro r0
    rw [dbl_and]
    exact .and (iha r0) (ihb r0)
  | or ha hb iha ihb =>
    intro r0
    rw [dbl_or]
    exact .if (.and (.if (iha r0) (say_pos r0 hW)) (.if (ihb r0) (say_pos r0 hW))) (say_pos r0 hW)
  | «if» ha hb iha ihb =>
    intro r0
    rw [dbl_if]
    exact .if (iha r0) (ihb r0)
theorem two_le {a : Nat} : 2 * a = a + a := by omega
theorem dbl_size {r : Int} {t : Tr} (h : Say r t) : (dbl W t).size + (W.size + 1) ≤ (2 * W.size + 3) * t.size := by
  have hw := size_pos W
  induction h with
  | no r =>
    show W.size + (W.size + 1) ≤ (2 * W.size + 3) * 1
    omega
  | @same r a b ha hb =>
    rw [dbl_same]
    have pa := size_pos a
    have pb := size_pos b
    show a.size + b.size + 1 + W.size + 1 + W.size + 1 + (W.size + 1) ≤ (2 * W.size + 3) * (a.size + b.size + 1)
    have e : (2 * W.size + 3) * (a.size + b.size + 1) = W.size * (2 * (a.size + b.size)) + 2 * W.size + 3 * (a.size + b.size) + 3 := by
      rw [Nat.mul_add, Nat.add_mul, Nat.add_mul]
      rw [show 2 * W.size * (a.size + b.size) = W.size * (2 * (a.size + b.size)) by rw [Nat.mul_comm 2 W.size, Nat.mul_assoc]]
      omega
    have g : W.size * 4 ≤ W.size * (2 * (a.size + b.size)) := Nat.mul_le_mul_left _ (by omega)
    omega
  | @all r a ha ih =>
    rw [dbl_all]
    show (dbl W a).size + 1 + (W.size + 1) ≤ (2 * W.size + 3) * (a.size + 1)
    rw [Nat.mul_add]
    omega
  | @some r a ha ih =>
    rw [dbl_some]
    show (dbl W a).size + W.size + 1 + 1 + W.size + 1 + (W.size + 1) ≤ (2 * W.size + 3) * (a.size + 1)
    rw [Nat.mul_add]
    omega
  | @and r a b ha hb iha ihb =>
    rw [dbl_and]
    show (dbl W a).size + (dbl W b).size + 1 + (W.size + 1) ≤ (2 * W.size + 3) * (a.size + b.size + 1)
    rw [Nat.mul_add, Nat.mul_add]
    omega
  | @or r a b ha hb iha ihb =>
    rw [dbl_or]
    show (dbl W a).size + W.size + 1 + ((dbl W b).size + W.size + 1) + 1 + W.size + 1 + (W.size + 1) ≤ (2 * W.size + 3) * (a.size + b.size + 1)
    rw [Nat.mul_add, Nat.mul_add]
    omega
  | @«if» r a b ha hb iha ihb =>
    rw [dbl_if]
    show (dbl W a).size + (dbl W b).size + 1 + (W.size + 1) ≤ (2 * W.size + 3) * (a.size + b.size + 1)
    rw [Nat.mul_add, Nat.mul_add]
    omega
theorem dbl_deep {r : Int} {t : Tr} (h : Say r t) : (dbl W t).deep ≤ 3 * t.deep + W.deep := by
  have hw := deep_pos W
  induction h with
  | no r =>
    show W.deep ≤ 3 * 1 + W.deep
    omega
  | @same r a b ha hb =>
    rw [dbl_same]
    have pa := deep_pos a
    show max (max (max a.deep b.deep + 1) W.deep + 1) W.deep + 1 ≤ 3 * (max a.deep b.deep + 1) + W.deep
    omega
  | @all r a ha ih =>
    rw [dbl_all]
    show (dbl W a).deep + 1 ≤ 3 * (a.deep + 1) + W.deep
    omega
  | @some r a ha ih =>
    rw [dbl_some]
    show max (max (dbl W a).deep W.deep + 1 + 1) W.deep + 1 ≤ 3 * (a.deep + 1) + W.deep
    omega
  | @and r a b ha hb iha ihb =>
    rw [dbl_and]
    show max (dbl W a).deep (dbl W b).deep + 1 ≤ 3 * (max a.deep b.deep + 1) + W.deep
    omega
  | @or r a b ha hb iha ihb =>
    rw [dbl_or]
    show max (max (max (dbl W a).deep W.deep + 1) (max (dbl W b).deep W.deep + 1) + 1) W.deep + 1 ≤ 3 * (max a.deep b.deep + 1) + W.deep
    omega
  | @«if» r a b ha hb iha ihb =>
    rw [dbl_if]
    show max (dbl W a).deep (dbl W b).deep + 1 ≤ 3 * (max a.deep b.deep + 1) + W.deep
    omega
theorem dbl_names {z : Str} {r : Int} {t : Tr} (h : Say r t) : z ∈ (dbl W t).names → z ∈ t.names ∨ z ∈ W.names := by
  induction h with
  | no r => exact fun m => .inr m
  | @same r a b ha hb =>
    rw [dbl_same]
    intro m
    rcases List.mem_append.mp m with m | m
    · exact List.mem_append.mp m
    · exact .inr m
  | @all r a ha ih =>
    rw [dbl_all]
    exact ih
  | @some r a ha ih =>
    rw [dbl_some]
    intro m
    rcases List.mem_append.mp m with m | m
    · rcases List.mem_append.mp m with m | m
      · exact ih m
      · exact .inr m
    · exact .inr m
  | @and r a b ha hb iha ihb =>
    rw [dbl_and]
    intro m
    rcases List.mem_append.mp m with m | m
    · exact (iha m).imp (fun q => List.mem_append.mpr (.inl q)) id
    · exact (ihb m).imp (fun q => List.mem_append.mpr (.inr q)) id
  | @or r a b ha hb iha ihb =>
    rw [dbl_or]
    intro m
    rcases List.mem_append.mp m with m | m
    · rcases List.mem_append.mp m with m | m
      · rcases List.mem_append.mp m with m | m
        · exact (iha m).imp (fun q => List.mem_append.mpr (.inl q)) id
        · exact .inr m
      · rcases List.mem_append.mp m with m | m
        · exact (ihb m).imp (fun q => List.mem_append.mpr (.inr q)) id
        · exact .inr m
    · exact .inr m
  | @«if» r a b ha hb iha ihb =>
    rw [dbl_if]
    intro m
    rcases List.mem_append.mp m with m | m
    · exact (iha m).imp (fun q => List.mem_append.mpr (.inl q)) id
    · exact (ihb m).imp (fun q => List.mem_append.mpr (.inr q)) id
/-- a term put for a name that the wish has not -/
theorem dbl_put {z : Str} {u : Tr} (ok : W.Ok) (nz : z ∉ W.names) {r : Int} {t : Tr} (h : Say r t) : ∀ q : Nat, dbl W (chg (sub (fun _ => nme z) fun _ => u) t q) = chg (sub (fun _ => nme z) fun _ => u) (dbl W t) q := by
  have cW : ∀ q : Nat, chg (sub (fun _ => nme z) fun _ => u) W q = W := fun q => chg_none W q ok nz
  induction h with
  | no r => exact fun q => (cW q).symm
  | @same r a b ha hb =>
    intro q
    rw [dbl_same]
    show dbl W (.n2 "same" (chg _ a _) (chg _ b _)) = .n2 "if" (.n2 "if" (.n2 "same" (chg _ a _) (chg _ b _)) (chg _ W _)) (chg _ W _)
    rw [dbl_same, cW, cW]
    rfl
  | @all r a ha ih =>
    intro q
    rw [dbl_all]
    show dbl W (.n1 "all" (chg _ a _)) = .n1 "all" (chg _ (dbl W a) _)
    rw [dbl_all, ih]
  | @some r a ha ih =>
    intro q
    rw [dbl_some]
    show dbl W (.n1 "some" (chg _ a _)) = .n2 "if" (.n1 "all" (.n2 "if" (chg _ (dbl W a) _) (chg _ W _))) (chg _ W _)
    rw [dbl_some, cW, cW, ih]
    rfl
  | @and r a b ha hb iha ihb =>
    intro q
    rw [dbl_and]
    show dbl W (.n2 "and" (chg _ a _) (chg _ b _)) = .n2 "and" (chg _ (dbl W a) _) (chg _ (dbl W b) _)
    rw [dbl_and, iha, ihb]
  | @or r a b ha hb iha ihb =>
    intro q
    rw [dbl_or]
    show dbl W (.n2 "or" (chg _ a _) (chg _ b _)) = .n2 "if" (.n2 "and" (.n2 "if" (chg _ (dbl W a) _) (chg _ W _)) (.n2 "if" (chg _ (dbl W b) _) (chg _ W _))) (chg _ W _)
    rw [dbl_or, cW, cW, iha, ihb]
    rfl
  | @«if» r a b ha hb iha ihb =>
    intro q
    rw [dbl_if]
    show dbl W (.n2 "if" (chg _ a _) (chg _ b _)) = .n2 "if" (chg _ (dbl W a) _) (chg _ (dbl W b) _)
    rw [dbl_if, iha, ihb]
end
end Kf
set_option Elab.async false
set_option linter.all false
set_option maxRecDepth 100000
set_option maxHeartbeats 4000000
set_option pp.maxSteps 400
/-! k70: a wish, and sayings doubled by it; the law's own doubling. -/
namespace Kf
open PySem PySem.Spec PyProof.Rows L2 Sx RZ
/-- what the classes are -/
structure TWs (K : PySem.W.Frag) (mg : Str → Option Value) (CWd C : Addr) : Prop where
  clW : Cls K CWd
  cl : Cls K C
  nU : NoAttr K CWd "used"
  nT : NoAttr K CWd "tried"
  nS : NoAttr K C "saying"
  nW : NoAttr K C "words"
  mWords : mg "Words" = some (.ref CWd)
  mWish : mg "Wish" = some (.ref C)
/-- a wish at p by vW -/
def WishAt (C : Addr) (H : Hp) (p : Addr) (vW : V) : Prop := ∃ dx fs, H p = some (.ins C dx fs) ∧ fs.lookup ("saying" : Str) = some vW ∧ fs.lookup ("from_it" : Str) = none ∧ fs.lookup ("doubled" : Str) = none
theorem WishAt.same {C : Addr} {H H' : Hp} {p : Addr} {vW : V} (h : WishAt C H p vW) (s : Same H H') : WishAt C H' p vW := by
  obtain ⟨dx, fs, e, q⟩ := h
  exact ⟨dx, fs, s _ _ e, q⟩
theorem ws_ne : ("saying" : Str) ≠ "words" := by decide +kernel
theorem wish_fs (vW vd : V) : putF "words" vd [(("saying" : Str), vW)] = [(("saying" : Str), vW), ("words", vd)] := by
  show (if ("saying" : Str) = "words" then _ else (("saying" : Str), vW) :: [(("words" : Str), vd)]) = _
  rw [if_neg ws_ne]
theorem wish_look (vW vd : V) : ([(("saying" : Str), vW), ("words", vd)] : List (Str × V)).lookup ("saying" : Str) = some vW ∧ ([(("saying" : Str), vW), ("words", vd)] : List (Str × V)).lookup ("from_it" : Str) = none ∧ ([(("saying" : Str), vW), ("words", vd)] : List (Str × V)).lookup ("doubled" : Str) = none := by
  have e1 : (("from_it" : Str) == "saying") = false := by decide +kernel
  have e2 : (("from_it" : Str) == "words") = false := by decide +kernel
  have e3 : (("doubled" : Str) == "saying") = false := by decide +kernel
  have e4 : (("doubled" : Str) == "words") = false := by decide +kernel
  refine ⟨?_, ?_, ?_⟩
  · rw [List.lookup_cons, beq_self_eq_true]
  · rw [List.lookup_cons, e1, List.lookup_cons, e2]
    rfl
  · rw [List.lookup_cons, e3, List.lookup_cons, e4]
    rfl
theorem all2_two {α β : Type} {F : α → β → Prop} {a b : α} {ys : List β} (h : All2 F [a, b] ys) : ∃ x y, ys = [x, y] ∧ F a x ∧ F b y := by
  cases h with
  | cons ha h =>
    cases h with
    | cons hb h =>
      cases h
      exact ⟨_, _, rfl, ha, hb⟩
theorem all2_one {α β : Type} {F : α → β → Prop} {a : α} {ys : List β} (h : All2 F [a] ys) : ∃ x, ys = [x] ∧ F a x := by
  cases h with
  | cons ha h =>
    cases h
    exact ⟨_, rfl, ha⟩
theorem says_two {w : Str} {a b : Tr} (h : ¬ w = "same") : (Tr.n2 w a b).says = [a, b] := by
  show (if w = "same" then [] else [a, b]) = _
  rw [if_neg h]
theorem says_same {a b : Tr} : (Tr.n2 "same" a b).says = [] := by
  show (if ("same" : Str) = "same" then [] else [a, b]) = _
  rw [if_pos rfl]
theorem says_ok {t a : Tr} {r : Int} (h : Say r t) (m : a ∈ t.says) : (∃ q, a.Wb kS q) ∧ a.deep + 1 ≤ t.deep := by
  cases h with
  | no r => exact nomatch m
  | same ha hb =>
    rw [says_same] at m
    exact nomatch m
  | all ha =>
    rw [List.mem_singleton.mp m]
    exact ⟨⟨_, wb_of ha⟩, Nat.le_refl _⟩
  | some ha =>
    rw [List.mem_singleton.mp m]
    exact ⟨⟨_, wb_of ha⟩, Nat.le_refl _⟩
  | @and _ x y ha hb =>
    rw [says_two and_same] at m
    show _ ∧ a.deep + 1 ≤ max x.deep y.deep + 1
    rcases List.mem_cons.mp m with e | m
    · rw [e]
      exact ⟨⟨_, wb_of ha⟩, by omega⟩
    · rw [List.mem_singleton.mp m]
      exact ⟨⟨_, wb_of hb⟩, by omega⟩
  | @or _ x y ha hb =>
    rw [says_two or_same] at m
    show _ ∧ a.deep + 1 ≤ max x.deep y.deep + 1
    rcases List.mem_cons.mp m with e | m
    · rw [e]
      exact ⟨⟨_, wb_of ha⟩, by omega⟩
    · rw [List.mem_singleton.mp m]
      exact ⟨⟨_, wb_of hb⟩, by omega⟩
  | @«if» _ x y ha hb =>
    rw [says_two if_same] at m
    show _ ∧ a.deep + 1 ≤ max x.deep y.deep + 1
    rcases List.mem_cons.mp m with e | m
    · rw [e]
      exact ⟨⟨_, wb_of ha⟩, by omega⟩
    · rw [List.mem_singleton.mp m]
      exact ⟨⟨_, wb_of hb⟩, by omega⟩
theorem says_few {t : Tr} : t.says.length ≤ 2 := by
  cases t with
  | leaf _ _ => exact Nat.zero_le _
  | n0 _ => exact Nat.zero_le _
  | n1 _ _ => exact Nat.le_succ 1
  | n2 w a b =>
    show (if w = "same" then [] else [a, b]).length ≤ 2
    split
    · exact Nat.zero_le _
    · exact Nat.le_refl 2
theorem word_no {t : Tr} {r : Int} (h : Say r t) (e : t.word = "no") : t = .n0 "no" := by
  cases h with
  | no r => rfl
  | same _ _ => exact absurd e (show ¬ ("same" : Str) = "no" by decide +kernel)
  | all _ => exact absurd e (show ¬ ("all" : Str) = "no" by decide +kernel)
  | some _ => exact absurd e (show ¬ ("some" : Str) = "no" by decide +kernel)
  | and _ _ => exact absurd e (show ¬ ("and" : Str) = "no" by decide +kernel)
  | or _ _ => exact absurd e (show ¬ ("or" : Str) = "no" by decide +kernel)
  | «if» _ _ => exact absurd e (show ¬ ("if" : Str) = "no" by decide +kernel)
theorem word_same {t : Tr} {r : Int} (h : Say r t) (e : t.word = "same") : ∃ a b, t = .n2 "same" a b := by
  cases h with
  | no r => exact absurd e (show ¬ ("no" : Str) = "same" by decide +kernel)
  | same _ _ => exact ⟨_, _, rfl⟩
  | all _ => exact absurd e (show ¬ ("all" : Str) = "same" by decide +kernel)
  | some _ => exact absurd e (show ¬ ("some" : Str) = "same" by decide +kernel)
  | and _ _ => exact absurd e (show ¬ ("and" : Str) = "same" by decide +kernel)
  | or _ _ => exact absurd e (show ¬ ("or" : Str) = "same" by decide +kernel)
  | «if» _ _ => exact absurd e (show ¬ ("if" : Str) = "same" by decide +kernel)
theorem word_or {t : Tr} {r : Int} (h : Say r t) (e : t.word = "or") : ∃ a b, t = .n2 "or" a b := by
  cases h with
  | no r => exact absurd e (show ¬ ("no" : Str) = "or" by decide +kernel)
  | same _ _ => exact absurd e (show ¬ ("same" : Str) = "or" by decide +kernel)
  | all _ => exact absurd e (show ¬ ("all" : Str) = "or" by decide +kernel)
  | some _ => exact absurd e (show ¬ ("some" : Str) = "or" by decide +kernel)
  | and _ _ => exact absurd e (show ¬ ("and" : Str) = "or" by decide +kernel)
  | or _ _ => exact ⟨_, _, rfl⟩
  | «if» _ _ => exact absurd e (show ¬ ("if" : Str) = "or" by decide +kernel)
theorem word_some {t : Tr} {r : Int} (h : Say r t) (e : t.word = "some") : ∃ a, t = .n1 "some" a := by
  cases h with
  | no r => exact absurd e (show ¬ ("no" : Str) = "some" by decide +kernel)
  | same _ _ => exact absurd e (show ¬ ("same" : Str) = "some" by decide +kernel)
  | all _ => exact absurd e (show ¬ ("all" : Str) = "some" by decide +kernel)
  | some _ => exact ⟨_, rfl⟩
  | and _ _ => exact absurd e (show ¬ ("and" : Str) = "some" by decide +kernel)
  | or _ _ => exact absurd e (show ¬ ("or" : Str) = "some" by decide +kernel)
  | «if» _ _ => exact absurd e (show ¬ ("if" : Str) = "some" by decide +kernel)
/-- where the word stays -/
theorem dbl_node {W t : Tr} {r : Int} (h : Say r t) (n1 : t.word ≠ "no") (n2 : t.word ≠ "same") (n3 : t.word ≠ "or") (n4 : t.word ≠ "some") : t.says = t.kids ∧ dbl W t = node t.word (t.kids.map (dbl W)) := by
  cases h with
  | no r => exact absurd rfl n1
  | same _ _ => exact absurd rfl n2
  | all _ => exact ⟨rfl, dbl_all _⟩
  | some _ => exact absurd rfl n4
  | and _ _ => exact ⟨says_two and_same, dbl_and _ _⟩
  | or _ _ => exact absurd rfl n3
  | «if» _ _ => exact ⟨says_two if_same, dbl_if _ _⟩
section
variable {P : Program} {w : World} {K : PySem.W.Frag} {mg : Str → Option Value} {base : Heap} {L B FV CWd C : Addr}
def spWInit (C : Addr) : Sp := fun vs H Q _ => ∃ (H0 : Hp) (p dx : Addr) (u : V), vs = [.ref p, u] ∧ Same H0 H ∧ H0 p = none ∧ H p = some (.ins C dx []) ∧ ∀ H', Same H0 H' → Q .non H'
theorem ok_winit {f : Addr} {fd : FuncData} (F : Fun K "__init__" "Words.__init__" sWInit f fd) (T : TWs K mg CWd C) : FnOk P w K mg base CX0 1 f fd ["self", "used"] (spWInit CWd) := by
  refine F.ok scWInit (fun vs H Q E h => ?_) (fun cdv A outer s H vs Q E hr h => ?_)
  · obtain ⟨H0, p, dx, u, rfl, _⟩ := h
    rfl
  obtain ⟨H0, p, dx, u, rfl, s0, p0, hp, q⟩ := h
  refine ⟨_, (pss_cons (ps_fld (pv 0) (pv 1) rfl)
    (pss_one (ps_fld (pv 0) pe_int rfl))), ?_⟩
  refine ⟨_, rfl, _, rfl, p, CWd, dx, [], rfl, hp, T.clW, T.nU, (by show 0 < 1000; decide), ?_⟩
  refine ⟨_, rfl, p, CWd, dx, _, rfl, upd_same, T.clW, T.nT, (by show 1 < 1000; decide), ?_⟩
  exact q _ (same_up (same_up s0 p0) p0)
def spInit (C : Addr) : Sp := fun vs H Q _ => ∃ (H0 : Hp) (p dx : Addr) (vW u : V), vs = [.ref p, vW, u] ∧ Same H0 H ∧ H0 p = none ∧ H p = some (.ins C dx []) ∧ ∀ H', Same H0 H' → WishAt C H' p vW → Q .non H'
theorem ok_init {f fW : Addr} {fd dW : FuncData} (F : Fun K "__init__" "Wish.__init__" sInit f fd) (T : TWs K mg CWd C) (MK : Mk K CWd fW) (GW : FnOk P w K mg base CX0 1 fW dW ["self", "used"] (spWInit CWd)) (bW : Binds K dW ["self", "used"] []) :
    FnOk P w K mg base CX0 3 f fd ["self", "saying", "used"] (spInit C) := by
  refine F.ok scInit (fun vs H Q E h => ?_) (fun cdv A outer s H vs Q E hr h => ?_)
  · obtain ⟨H0, p, dx, vW, u, rfl, _⟩ := h
    rfl
  obtain ⟨H0, p, dx, vW, u, rfl, s0, p0, hp, q⟩ := h
  refine ⟨_, (pss_cons (ps_fld (pv 0) (pv 1) rfl)
    (pss_one (ps_fld (pv 0) (pe_make MK GW hr (by rfl) T.mWords bW .nil pass0 (pa_cons (pv 2) pa_nil)) rfl))), ?_⟩
  refine ⟨_, rfl, _, rfl, p, C, dx, [], rfl, hp, T.cl, T.nS, (by show 0 < 1000; decide), ?_⟩
  have e1 : (upd H p (.ins C dx (putF "saying" vW []))) p = some (.ins C dx [(("saying" : Str), vW)]) := upd_same
  have s1 : Same H0 (upd H p (.ins C dx (putF "saying" vW []))) := same_up s0 p0
  generalize upd H p (.ins C dx (putF "saying" vW [])) = H1 at e1 s1 ⊢
  refine ⟨_, rfl, fun x dx2 nx ndx ne => ?_⟩
  have s2 : Same H1 (upd (upd H1 dx2 (.own x)) x (.ins CWd dx2 [])) := same_put (same_new ndx) (by rw [upd_ne ne.symm]; exact nx)
  refine ⟨H1, x, dx2, u, rfl, s2, nx, upd_same, fun H2 s3 => ⟨rfl, ?_⟩⟩
  refine ⟨_, rfl, p, C, dx, _, rfl, s3 _ _ e1, T.cl, T.nW, (by show 1 < 1000; decide), ?_⟩
  rw [wish_fs]
  exact q _ (same_up (s1.trans s3) p0) ⟨dx, _, upd_same, wish_look _ _⟩
/-! ### from_it -/
def spFrom (C : Addr) : Sp := fun vs H Q _ => ∃ (p : Addr) (v vW : V), vs = [.ref p, v] ∧ WishAt C H p vW ∧ ∀ q, H q = none → Q (.ref q) (upd H q (.tup [.str "if", v, vW]))
theorem ok_from {f : Addr} {fd : FuncData} (F : Fun K "from_it" "Wish.from_it" sFrom f fd) (T : TWs K mg CWd C) : FnOk P w K mg base CX0 1 f fd ["self", "saying"] (spFrom C) := by
  refine F.ok scFrom (fun vs H Q E h => ?_) (fun cdv A outer s H vs Q E hr h => ?_)
  · obtain ⟨p, v, vW, rfl, _⟩ := h
    rfl
  obtain ⟨p, v, vW, rfl, ⟨dx, fs, hp, l1, _, _⟩, q⟩ := h
  refine ⟨_, (pss_one (ps_ret (pe_tup (pa_cons pe_str (pa_cons (pv 1) (pa_cons (pe_fld (pv 0) rfl) pa_nil)))))), ?_⟩
  exact ⟨_, rfl, _, rfl, p, C, dx, fs, _, rfl, hp, T.cl, T.nS, l1, (by show 3 ≤ sizeLine; decide), q⟩
/-! ### doubled -/
def spMD (C : Addr) (W : Tr) (n : Nat) : Sp := fun vs H Q _ => ∃ (p : Addr) (v vW : V) (t : Tr) (r : Int), vs = [.ref p, v] ∧ WishAt C H p vW ∧ At H W vW ∧ At H t v ∧ t.Wb kS r ∧ t.deep ≤ n ∧ ∀ u H', Same H H' → At H' (dbl W t) u → Q u H'
theorem ok_md {W : Tr} {f fO fF : Addr} {fd dO dF : FuncData} {n : Nat} (F : Fun K "doubled" "Wish.doubled" sMDoubled f fd) (T : TWs K mg CWd C)
    (GO : FnOk P w K mg base CX0 1 fO dO ["saying"] spOf) (bO : Binds K dO ["saying"] []) (kO : PySem.W.keepIn K (.ref fO) = true) (mO : mg "sayings_of" = some (.ref fO))
    (GF : FnOk P w K mg base CX0 1 fF dF ["self", "saying"] (spFrom C)) (bF : Binds K dF ["self", "saying"] []) (MF : Meth K C "from_it" fF)
    (S : FnOk P w K mg base CX0 (1 + n) f fd ["self", "saying"] (spMD C W n)) (bS : Binds K fd ["self", "saying"] []) (MD : Meth K C "doubled" f) :
    FnOk P w K mg base CX0 (1 + n + 1) f fd ["self", "saying"] (spMD C W (n + 1)) := by
  refine F.ok scMDoubled (fun vs H Q E h => ?_) (fun cdv A outer s H vs Q E hr h => ?_)
  · obtain ⟨p, v, vW, t, r, rfl, _⟩ := h
    rfl
  obtain ⟨p, v, vW, t, r, rfl, hW, aW, hA, wb, hd, q⟩ := h
  have h1 : Room 1 _ := hr.mono (by omega)
  refine ⟨_, (pss_cons (ps_set (i := 2) scMDoubled.nd rfl (.inl rfl) (pe_ix ix_tup (pv 1) pe_int (fun _ _ => rfl)))
    (pss_cons (ps_if (pt_cmpR op_eq (pv 2) pe_str (nomark _)) (pss_one (ps_ret (pe_fld (pv 0) rfl))) pss_nil)
    (pss_cons (ps_if (pt_cmpR op_eq (pv 2) pe_str (nomark _)) (pss_one (ps_ret (pe_tup (pa_cons pe_str (pa_cons (pe_meth (pv 0) T.cl MF GF h1 bF .nil pass0 (pa_cons (pv 1) pa_nil)) (pa_cons (pe_fld (pv 0) rfl) pa_nil)))))) pss_nil)
    (pss_cons (ps_setLc (i := 3) (own := [("part", 4)]) (g := gName 4) (tt := tYes) rfl scMDoubled.nd rfl rfl (sw_true rfl rfl (by rfl) (by decide +kernel)) (pi_list (pe_call GO h1 (by rfl) mO kO bO .nil pass0 (pa_cons (pv 1) pa_nil))) (blkOk_by (N := mDoubledN) (sc := defScope sMDoubled) (by decide +kernel)) (fun _ _ _ _ _ => pg_name (i := 4) scMDoubled.nd rfl (Or.inl rfl)) (fun _ _ _ _ _ => pts_nil) (fun _ _ _ _ _ => (pe_meth (pv 0) T.cl MD S hr bS .nil pass0 (pa_cons (pv 4) pa_nil))))
    (pss_cons (ps_if (pt_cmpR op_eq (pv 2) pe_str (nomark _)) (pss_one (ps_ret (pe_tup (pa_cons pe_str (pa_cons (pe_tup (pa_cons pe_str (pa_cons (pe_meth (pv 0) T.cl MF GF h1 bF .nil pass0 (pa_cons (pe_ix ix_list (pv 3) pe_int (fun _ _ => rfl)) pa_nil)) (pa_cons (pe_meth (pv 0) T.cl MF GF h1 bF .nil pass0 (pa_cons (pe_ix ix_list (pv 3) pe_int (fun _ _ => rfl)) pa_nil)) pa_nil)))) (pa_cons (pe_fld (pv 0) rfl) pa_nil)))))) pss_nil)
    (pss_cons (ps_if (pt_cmpR op_eq (pv 2) pe_str (nomark _)) (pss_one (ps_ret (pe_tup (pa_cons pe_str (pa_cons (pe_tup (pa_cons pe_str (pa_cons (pe_meth (pv 0) T.cl MF GF h1 bF .nil pass0 (pa_cons (pe_ix ix_list (pv 3) pe_int (fun _ _ => rfl)) pa_nil)) pa_nil))) (pa_cons (pe_fld (pv 0) rfl) pa_nil)))))) pss_nil)
    (pss_one (ps_ret (pe_tup (pa_cons (pv 2) (StX.pa_star (pv 3) pa_nil))))))))))), ?_⟩
  have sy := say_of wb
  have hO := wb_ok wb
  have nl := nleaf wb
  obtain ⟨p1, us, rfl, hp1, lus, kids, leafs⟩ := hA.view hO
  obtain ⟨dx, fs, hp, l1, l2, l3⟩ := id hW
  refine ⟨_, rfl, p1, _, 0, _, rfl, rfl, .inl (.inl hp1), head_at _ _, ?_⟩
  refine ⟨_, rfl, rfl, _, rfl, ?_⟩
  refine eqW (fun e => ?_) (fun n1 => ?_)
  · have et := word_no sy e
    subst et
    exact ⟨_, rfl, p, C, dx, fs, _, rfl, hp, T.cl, T.nS, l1, q vW H (Same.refl H) aW⟩
  refine ⟨_, rfl, rfl, _, rfl, ?_⟩
  refine eqW (fun e => ?_) (fun n2 => ?_)
  · obtain ⟨a, b, et⟩ := word_same sy e
    refine ⟨_, rfl, p, dx, fs, rfl, hp, l2, _, rfl, p, .ref p1, vW, rfl, hW, fun q1 nq1 => ?_⟩
    have s1 := same_new (o := .tup [.str "if", .ref p1, vW]) nq1
    refine ⟨_, rfl, p, C, dx, fs, _, rfl, s1 _ _ hp, T.cl, T.nS, l1, (by show 3 ≤ sizeLine; decide), fun q2 nq2 => ?_⟩
    have s2 := same_new (o := .tup [.str "if", .ref q1, vW]) nq2
    have k := tups_same (s1.trans s2)
    refine q _ _ (s1.trans s2) ?_
    rw [et, dbl_same]
    rw [et] at hA
    exact ⟨q2, .ref q1, vW, rfl, upd_same, ⟨q1, .ref p1, vW, rfl, s2 _ _ upd_same, hA.keep k, aW.keep k⟩, aW.keep k⟩
  refine ⟨_, rfl, .ref p1, t, r, rfl, hA, wb, fun p2 H2 ws s2 np2 hp2 all => ?_⟩
  refine ⟨p2, rfl, ⟨_, .inl (.inl hp2)⟩, fun D nD => ?_⟩
  refine lc_list (K := K) (a := p2) (xs := ws) (fun i H' => ∃ acc : List V, H' D = some (.lst acc) ∧ Same H2 H' ∧ All2 (At H') ((t.says.take i).map (dbl W)) acc) ⟨[], upd_same, same_new nD, by rw [List.take_zero]; exact .nil⟩ (fun i H' _ ⟨_, _, sm, _⟩ => .inl (.inl (sm _ _ hp2))) ?_ ?_
  · rintro i x H' hx ⟨acc, hD, sm, al⟩
    obtain ⟨tk, htk, hax⟩ := all.get hx
    have mk : tk ∈ t.says := List.mem_of_getElem? htk
    obtain ⟨⟨r2, wk⟩, dk⟩ := says_ok sy mk
    refine ⟨rfl, ?_⟩
    have sH := s2.trans sm
    refine ⟨_, rfl, p, dx, fs, rfl, sH _ _ hp, l3, _, rfl, p, x, vW, tk, r2, rfl, hW.same sH, aW.keep (tups_same sH), hax.keep (tups_same sm), wk, by omega, fun w2 H6 sm6 aw => ?_⟩
    have la := al.len
    have l2 := says_few (t := t)
    rw [List.length_map, List.length_take] at la
    have k6 : Tups H6 (upd H6 D (.lst (acc ++ [w2]))) := tups_put fun xs z => by
      rw [sm6 _ _ hD] at z
      cases z
    refine ⟨acc, sm6 _ _ hD, line_of (by omega), acc ++ [w2], upd_same, same_up (sm.trans sm6) nD, ?_⟩
    have et : (t.says.take (i + 1)).map (dbl W) = (t.says.take i).map (dbl W) ++ [dbl W tk] := by
      rw [List.take_add_one, htk, List.map_append]
      rfl
    rw [et]
    exact (al.mono fun a c h => h.keep ((tups_same sm6).trans k6)).app (.one (aw.keep k6))
  · rintro H7 ⟨acc, hD, sm, al⟩
    rw [← all.len, List.take_length] at al
    have sH := s2.trans sm
    have hp7 := sH _ _ hp
    have hW7 := hW.same sH
    have aW7 := aW.keep (tups_same sH)
    refine ⟨_, rfl, rfl, _, rfl, ?_⟩
    refine eqW (fun e => ?_) (fun n3 => ?_)
    · obtain ⟨a, b, et⟩ := word_or sy e
      rw [et, says_two or_same] at al
      obtain ⟨va, vb, rfl, ha, hb⟩ := all2_two al
      refine ⟨_, rfl, p, dx, fs, rfl, hp7, l2, _, rfl, D, _, 0, _, rfl, rfl, .inl (.inl hD), atI_nat (j := 0) rfl, p, va, vW, rfl, hW7, fun q1 nq1 => ?_⟩
      have s1 := same_new (o := .tup [.str "if", va, vW]) nq1
      refine ⟨_, rfl, p, dx, fs, rfl, s1 _ _ hp7, l2, _, rfl, D, _, 1, _, rfl, rfl, .inl (.inl (s1 _ _ hD)), atI_nat (j := 1) rfl, p, vb, vW, rfl, hW7.same s1, fun q2 nq2 => ?_⟩
      have s2b := same_new (o := .tup [.str "if", vb, vW]) nq2
      refine ⟨(by show 3 ≤ sizeLine; decide), fun q3 nq3 => ?_⟩
      have s3 := same_new (o := .tup [.str "and", .ref q1, .ref q2]) nq3
      have s13 := s1.trans (s2b.trans s3)
      refine ⟨_, rfl, p, C, dx, fs, _, rfl, s13 _ _ hp7, T.cl, T.nS, l1, (by show 3 ≤ sizeLine; decide), fun q4 nq4 => ?_⟩
      have s4 := same_new (o := .tup [.str "if", .ref q3, vW]) nq4
      have k := tups_same (s13.trans s4)
      refine q _ _ (sH.trans (s13.trans s4)) ?_
      rw [et, dbl_or]
      exact ⟨q4, .ref q3, vW, rfl, upd_same, ⟨q3, .ref q1, .ref q2, rfl, s4 _ _ upd_same, ⟨q1, va, vW, rfl, (s2b.trans (s3.trans s4)) _ _ upd_same, ha.keep k, aW7.keep k⟩, ⟨q2, vb, vW, rfl, (s3.trans s4) _ _ upd_same, hb.keep k, aW7.keep k⟩⟩, aW7.keep k⟩
    refine ⟨_, rfl, rfl, _, rfl, ?_⟩
    refine eqW (fun e => ?_) (fun n4 => ?_)
    · obtain ⟨a, et⟩ := word_some sy e
      rw [et, show Tr.says (.n1 "some" a) = [a] from rfl] at al
      obtain ⟨va, rfl, ha⟩ := all2_one al
      refine ⟨_, rfl, p, dx, fs, rfl, hp7, l2, _, rfl, D, _, 0, _, rfl, rfl, .inl (.inl hD), atI_nat (j := 0) rfl, p, va, vW, rfl, hW7, fun q1 nq1 => ?_⟩
      have s1 := same_new (o := .tup [.str "if", va, vW]) nq1
      refine ⟨(by show 2 ≤ sizeLine; decide), fun q3 nq3 => ?_⟩
      have s3 := same_new (o := .tup [.str "all", .ref q1]) nq3
      have s13 := s1.trans s3
      refine ⟨_, rfl, p, C, dx, fs, _, rfl, s13 _ _ hp7, T.cl, T.nS, l1, (by show 3 ≤ sizeLine; decide), fun q4 nq4 => ?_⟩
      have s4 := same_new (o := .tup [.str "if", .ref q3, vW]) nq4
      have k := tups_same (s13.trans s4)
      refine q _ _ (sH.trans (s13.trans s4)) ?_
      rw [et, dbl_some]
      exact ⟨q4, .ref q3, vW, rfl, upd_same, ⟨q3, .ref q1, rfl, s4 _ _ upd_same, ⟨q1, va, vW, rfl, (s3.trans s4) _ _ upd_same, ha.keep k, aW7.keep k⟩⟩, aW7.keep k⟩
    · obtain ⟨es, ed⟩ := dbl_node (W := W) sy n1 n2 n3 n4
      rw [es] at al
      have la := al.len
      rw [List.length_map] at la
      have lf := says_few (t := t)
      rw [es] at lf
      refine ⟨_, rfl, _, rfl, D, acc, rfl, .inr (.inl (.inl hD)), ?_⟩
      refine ⟨(by show (V.str t.word :: (acc ++ [])).length ≤ sizeLine; rw [List.append_nil]; exact Nat.le_trans (Nat.succ_le_succ (show acc.length ≤ 2 by omega)) (by decide)), fun q4 nq4 => ?_⟩
      rw [List.append_nil]
      refine q _ _ (sH.trans (same_new nq4)) ?_
      rw [ed]
      exact at_node hO nl (by rw [List.length_map]) (al.mono fun a c h => h.keep (tups_same (same_new nq4))) upd_same
theorem ok_mds {W : Tr} {f fO fF : Addr} {fd dO dF : FuncData} (F : Fun K "doubled" "Wish.doubled" sMDoubled f fd) (T : TWs K mg CWd C)
    (GO : FnOk P w K mg base CX0 1 fO dO ["saying"] spOf) (bO : Binds K dO ["saying"] []) (kO : PySem.W.keepIn K (.ref fO) = true) (mO : mg "sayings_of" = some (.ref fO))
    (GF : FnOk P w K mg base CX0 1 fF dF ["self", "saying"] (spFrom C)) (bF : Binds K dF ["self", "saying"] []) (MF : Meth K C "from_it" fF)
    (bS : Binds K fd ["self", "saying"] []) (MD : Meth K C "doubled" f) : ∀ n : Nat, FnOk P w K mg base CX0 (1 + n) f fd ["self", "saying"] (spMD C W n)
  | 0 => no_calls fun vs H Q E h => by
    obtain ⟨p, v, vW, t, r, _, _, _, _, _, hd, _⟩ := h
    have := deep_pos t
    omega
  | n + 1 => ok_md F T GO bO kO mO GF bF MF (ok_mds F T GO bO kO mO GF bF MF bS MD n) bS MD
/-! ### the def doubled -/
def spDoubled : Sp := fun vs H Q _ => ∃ (v vW : V) (t W : Tr) (r : Int), vs = [v, vW] ∧ At H W vW ∧ At H t v ∧ t.Wb kS r ∧ t.deep ≤ 10 ∧ ∀ u H', Same H H' → At H' (dbl W t) u → Q u H'
theorem ok_doubled {f fI fD : Addr} {fd dI dD : FuncData} (F : Fun K "doubled" "doubled" sDoubled f fd) (T : TWs K mg CWd C) (MK : Mk K C fI) (GI : FnOk P w K mg base CX0 3 fI dI ["self", "saying", "used"] (spInit C)) (bI : Binds K dI ["self", "saying", "used"] [])
    (GD : ∀ W, FnOk P w K mg base CX0 11 fD dD ["self", "saying"] (spMD C W 10)) (bD : Binds K dD ["self", "saying"] []) (MD : Meth K C "doubled" fD) : FnOk P w K mg base CX0 12 f fd ["saying", "wish"] spDoubled := by
  refine F.ok scDoubled (fun vs H Q E h => ?_) (fun cdv A outer s H vs Q E hr h => ?_)
  · obtain ⟨v, vW, t, W, r, rfl, _⟩ := h
    rfl
  obtain ⟨v, vW, t, W, r, rfl, aW, hA, wb, hd, q⟩ := h
  have GD := GD W
  have h2 : Room 4 _ := hr.mono (by decide)
  have hD : Room 11 _ := hr
  refine ⟨_, (pss_one (ps_ret (pe_meth (pe_make MK GI h2 (by rfl) T.mWish bI .nil pass0 (pa_cons (pv 1) (pa_cons pe_dnewK pa_nil))) T.cl MD GD hD bD .nil pass0 (pa_cons (pv 0) pa_nil)))), ?_⟩
  refine ⟨_, rfl, fun u nu => ?_⟩
  have s1 := same_new (o := .dK []) nu
  refine fun x dx nx ndx ne => ?_
  have s2 : Same (upd H u (.dK [])) (upd (upd (upd H u (.dK [])) dx (.own x)) x (.ins C dx [])) := same_put (same_new ndx) (by rw [upd_ne ne.symm]; exact nx)
  refine ⟨_, x, dx, vW, .ref u, rfl, s2, nx, upd_same, fun H2 s3 hw => ⟨rfl, ?_⟩⟩
  obtain ⟨dx2, fs, hp, l1, l2, l3⟩ := id hw
  have k := tups_same (s1.trans s3)
  exact ⟨x, dx2, fs, rfl, hp, l3, _, rfl, x, v, vW, t, r, rfl, hw, aW.keep k, hA.keep k, wb, hd, fun u2 H' s4 au => q u2 H' ((s1.trans s3).trans s4) au⟩
end
end Kf
set_option Elab.async false
set_option linter.all false
set_option maxRecDepth 100000
set_option maxHeartbeats 4000000
set_option pp.maxSteps 400
/-! The law's own doubling. -/
namespace Kf
open PySem PySem.Spec PyProof.Rows L2 Sx RZ
theorem says_kids {t : Tr} {r : Int} (h : Say r t) (n : t.word ≠ "same") : t.says = t.kids := by
  cases h with
  | no r => rfl
  | same _ _ => exact absurd rfl n
  | all _ => rfl
  | some _ => rfl
  | and _ _ => exact says_two and_same
  | or _ _ => exact says_two or_same
  | «if» _ _ => exact says_two if_same
section
variable {P : Program} {w : World} {K : PySem.W.Frag} {mg : Str → Option Value} {base : Heap}
def spLDb (n : Nat) : Sp := fun vs H Q _ => ∃ (v vW : V) (t W : Tr) (r : Int), vs = [v, vW] ∧ At H W vW ∧ At H t v ∧ t.Wb kS r ∧ t.deep ≤ n ∧ ∀ u H', Same H H' → At H' (dbl W t) u → Q u H'
theorem ok_ldb {f : Addr} {fd : FuncData} {n : Nat} (F : Fun K "_law_doubled" "_law_doubled" sLDb f fd) (S : FnOk P w K mg base CX0 n f fd ["saying", "wish"] (spLDb n)) (bS : Binds K fd ["saying", "wish"] []) (mS : mg "_law_doubled" = some (.ref f)) (zTuple : mg "tuple" = none) :
    FnOk P w K mg base CX0 (n + 1) f fd ["saying", "wish"] (spLDb (n + 1)) := by
  refine F.ok scLDb (fun vs H Q E h => ?_) (fun cdv A outer s H vs Q E hr h => ?_)
  · obtain ⟨v, vW, t, W, r, rfl, _⟩ := h
    rfl
  obtain ⟨v, vW, t, W, r, rfl, aW, hA, wb, hd, q⟩ := h
  refine ⟨_, (pss_cons (ps_set (i := 2) scLDb.nd rfl (.inl rfl) (pe_ix ix_tup (pv 0) pe_int (fun _ _ => rfl)))
    (pss_cons (ps_if (pt_cmpR op_eq (pv 2) pe_str (nomark _)) (pss_one (ps_ret (pv 1))) pss_nil)
    (pss_cons (ps_if (pt_cmpR op_eq (pv 2) pe_str (nomark _)) (pss_one (ps_ret (pe_tup (pa_cons pe_str (pa_cons (pe_tup (pa_cons pe_str (pa_cons (pv 0) (pa_cons (pv 1) pa_nil)))) (pa_cons (pv 1) pa_nil)))))) pss_nil)
    (pss_cons (ps_setLc (i := 3) (own := [("one", 4)]) (g := gName 4) (tt := tYes) rfl scLDb.nd rfl rfl (sw_true rfl rfl (by rfl) (by decide +kernel)) (pi_tup (pe_slice sl_tup (pv 0) (po_some pe_int) po_none)) (blkOk_by (N := lDbN) (sc := defScope sLDb) (by decide +kernel)) (fun _ _ _ _ _ => pg_name (i := 4) scLDb.nd rfl (Or.inl rfl)) (fun _ _ _ _ _ => pts_nil) (fun _ _ _ _ _ => (pe_call S hr (by rfl) mS F.kp bS .nil pass0 (pa_cons (pv 4) (pa_cons (pv 1) pa_nil)))))
    (pss_cons (ps_if (pt_cmpR op_eq (pv 2) pe_str (nomark _)) (pss_one (ps_ret (pe_tup (pa_cons pe_str (pa_cons (pe_tup (pa_cons pe_str (pa_cons (pe_tup (pa_cons pe_str (pa_cons (pe_ix ix_list (pv 3) pe_int (fun _ _ => rfl)) (pa_cons (pv 1) pa_nil)))) pa_nil))) (pa_cons (pv 1) pa_nil)))))) pss_nil)
    (pss_cons (ps_if (pt_cmpR op_eq (pv 2) pe_str (nomark _)) (pss_one (ps_ret (pe_tup (pa_cons pe_str (pa_cons (pe_tup (pa_cons pe_str (pa_cons (pe_tup (pa_cons pe_str (pa_cons (pe_ix ix_list (pv 3) pe_int (fun _ _ => rfl)) (pa_cons (pv 1) pa_nil)))) (pa_cons (pe_tup (pa_cons pe_str (pa_cons (pe_ix ix_list (pv 3) pe_int (fun _ _ => rfl)) (pa_cons (pv 1) pa_nil)))) pa_nil)))) (pa_cons (pv 1) pa_nil)))))) pss_nil)
    (pss_one (ps_ret (pe_op op_catT (pe_tup (pa_cons (pv 2) pa_nil)) (pe_tupleOf (by rfl) zTuple (pv 3))))))))))), ?_⟩
  have sy := say_of wb
  have hO := wb_ok wb
  have nl := nleaf wb
  obtain ⟨p1, us, rfl, hp1, lus, kids, leafs⟩ := hA.view hO
  have kd := kids nl
  refine ⟨_, rfl, p1, _, 0, _, rfl, rfl, .inl (.inl hp1), head_at _ _, ?_⟩
  refine ⟨_, rfl, rfl, _, rfl, ?_⟩
  refine eqW (fun e => ?_) (fun n1 => ?_)
  · have et := word_no sy e
    subst et
    exact ⟨_, rfl, q vW H (Same.refl H) aW⟩
  refine ⟨_, rfl, rfl, _, rfl, ?_⟩
  refine eqW (fun e => ?_) (fun n2 => ?_)
  · obtain ⟨a, b, et⟩ := word_same sy e
    refine ⟨_, rfl, _, rfl, (by show 3 ≤ sizeLine; decide), fun q1 nq1 => ?_⟩
    have s1 := same_new (o := .tup [.str "if", .ref p1, vW]) nq1
    refine ⟨_, rfl, (by show 3 ≤ sizeLine; decide), fun q2 nq2 => ?_⟩
    have s2 := same_new (o := .tup [.str "if", .ref q1, vW]) nq2
    have k := tups_same (s1.trans s2)
    refine q _ _ (s1.trans s2) ?_
    rw [et, dbl_same]
    rw [et] at hA
    exact ⟨q2, .ref q1, vW, rfl, upd_same, ⟨q1, .ref p1, vW, rfl, s2 _ _ upd_same, hA.keep k, aW.keep k⟩, aW.keep k⟩
  have sk := says_kids sy n2
  refine ⟨_, rfl, 1, rfl, p1, _, rfl, .inl (.inl hp1), cut_not _ _, fun c nc => ?_⟩
  rw [cut_one]
  have s2 := same_new (o := .tup us) nc
  refine ⟨c, rfl, ⟨_, .inl (.inl upd_same)⟩, fun D nD => ?_⟩
  have hc : (upd H c (.tup us)) c = some (.tup us) := upd_same
  generalize upd H c (.tup us) = H2 at s2 hc nD ⊢
  refine lc_tup (K := K) (a := c) (xs := us) (fun i H' => ∃ acc : List V, H' D = some (.lst acc) ∧ Same H2 H' ∧ All2 (At H') ((t.kids.take i).map (dbl W)) acc) ⟨[], upd_same, same_new nD, by rw [List.take_zero]; exact .nil⟩ (fun i H' _ ⟨_, _, sm, _⟩ => .inl (.inl (sm _ _ hc))) ?_ ?_
  · rintro i x H' hx ⟨acc, hD, sm, al⟩
    obtain ⟨tk, htk, hax⟩ := kd.get hx
    have mk : tk ∈ t.says := by rw [sk]; exact List.mem_of_getElem? htk
    obtain ⟨⟨r2, wk⟩, dk⟩ := says_ok sy mk
    refine ⟨rfl, ?_⟩
    have sH := s2.trans sm
    refine ⟨_, rfl, _, rfl, x, vW, tk, W, r2, rfl, aW.keep (tups_same sH), hax.keep (tups_same sH), wk, by omega, fun w2 H6 sm6 aw => ?_⟩
    have la := al.len
    have l2 := says_few (t := t)
    rw [sk] at l2
    rw [List.length_map, List.length_take] at la
    have k6 : Tups H6 (upd H6 D (.lst (acc ++ [w2]))) := tups_put fun xs z => by
      rw [sm6 _ _ hD] at z
      cases z
    refine ⟨acc, sm6 _ _ hD, line_of (by omega), acc ++ [w2], upd_same, same_up (sm.trans sm6) nD, ?_⟩
    have et : (t.kids.take (i + 1)).map (dbl W) = (t.kids.take i).map (dbl W) ++ [dbl W tk] := by
      rw [List.take_add_one, htk, List.map_append]
      rfl
    rw [et]
    exact (al.mono fun a c h => h.keep ((tups_same sm6).trans k6)).app (.one (aw.keep k6))
  · rintro H7 ⟨acc, hD, sm, al⟩
    rw [← kd.len, List.take_length] at al
    have sH := s2.trans sm
    have aW7 := aW.keep (tups_same sH)
    refine ⟨_, rfl, rfl, _, rfl, ?_⟩
    refine eqW (fun e => ?_) (fun n4 => ?_)
    · obtain ⟨a, et⟩ := word_some sy e
      rw [et, show Tr.kids (.n1 "some" a) = [a] from rfl] at al
      obtain ⟨va, rfl, ha⟩ := all2_one al
      refine ⟨_, rfl, D, _, 0, _, rfl, rfl, .inl (.inl hD), atI_nat (j := 0) rfl, _, rfl, (by show 3 ≤ sizeLine; decide), fun q1 nq1 => ?_⟩
      have s1 := same_new (o := .tup [.str "if", va, vW]) nq1
      refine ⟨(by show 2 ≤ sizeLine; decide), fun q3 nq3 => ?_⟩
      have s3 := same_new (o := .tup [.str "all", .ref q1]) nq3
      have s13 := s1.trans s3
      refine ⟨_, rfl, (by show 3 ≤ sizeLine; decide), fun q4 nq4 => ?_⟩
      have s4 := same_new (o := .tup [.str "if", .ref q3, vW]) nq4
      have k := tups_same (s13.trans s4)
      refine q _ _ (sH.trans (s13.trans s4)) ?_
      rw [et, dbl_some]
      exact ⟨q4, .ref q3, vW, rfl, upd_same, ⟨q3, .ref q1, rfl, s4 _ _ upd_same, ⟨q1, va, vW, rfl, (s3.trans s4) _ _ upd_same, ha.keep k, aW7.keep k⟩⟩, aW7.keep k⟩
    refine ⟨_, rfl, rfl, _, rfl, ?_⟩
    refine eqW (fun e => ?_) (fun n3 => ?_)
    · obtain ⟨a, b, et⟩ := word_or sy e
      rw [et, show Tr.kids (.n2 "or" a b) = [a, b] from rfl] at al
      obtain ⟨va, vb, rfl, ha, hb⟩ := all2_two al
      refine ⟨_, rfl, D, _, 0, _, rfl, rfl, .inl (.inl hD), atI_nat (j := 0) rfl, _, rfl, (by show 3 ≤ sizeLine; decide), fun q1 nq1 => ?_⟩
      have s1 := same_new (o := .tup [.str "if", va, vW]) nq1
      refine ⟨_, rfl, D, _, 1, _, rfl, rfl, .inl (.inl (s1 _ _ hD)), atI_nat (j := 1) rfl, _, rfl, (by show 3 ≤ sizeLine; decide), fun q2 nq2 => ?_⟩
      have s2b := same_new (o := .tup [.str "if", vb, vW]) nq2
      refine ⟨(by show 3 ≤ sizeLine; decide), fun q3 nq3 => ?_⟩
      have s3 := same_new (o := .tup [.str "and", .ref q1, .ref q2]) nq3
      have s13 := s1.trans (s2b.trans s3)
      refine ⟨_, rfl, (by show 3 ≤ sizeLine; decide), fun q4 nq4 => ?_⟩
      have s4 := same_new (o := .tup [.str "if", .ref q3, vW]) nq4
      have k := tups_same (s13.trans s4)
      refine q _ _ (sH.trans (s13.trans s4)) ?_
      rw [et, dbl_or]
      exact ⟨q4, .ref q3, vW, rfl, upd_same, ⟨q3, .ref q1, .ref q2, rfl, s4 _ _ upd_same, ⟨q1, va, vW, rfl, (s2b.trans (s3.trans s4)) _ _ upd_same, ha.keep k, aW7.keep k⟩, ⟨q2, vb, vW, rfl, (s3.trans s4) _ _ upd_same, hb.keep k, aW7.keep k⟩⟩, aW7.keep k⟩
    · obtain ⟨es, ed⟩ := dbl_node (W := W) sy n1 n2 n3 n4
      have la := al.len
      rw [List.length_map] at la
      have lf := says_few (t := t)
      rw [es] at lf
      refine ⟨_, rfl, (by show 1 ≤ sizeLine; decide), fun q1 nq1 => ?_⟩
      have s1 := same_new (o := .tup [.str t.word]) nq1
      refine ⟨_, rfl, .inl ⟨D, acc, rfl, .inl (.inl (s1 _ _ hD)), fun q6 nq6 => ?_⟩⟩
      have h5 : (upd H7 q1 (.tup [.str t.word])) q1 = some (.tup [.str t.word]) := upd_same
      refine ⟨q1, q6, [.str t.word], acc, rfl, rfl, .inl (.inl (by rw [upd_ne (ne_of_none h5 nq6)]; exact h5)), .inl (.inl upd_same), by simp, (by show 1 + acc.length ≤ sizeLine; exact Nat.le_trans (show _ ≤ 3 by omega) (by decide)), fun en => ?_, fun _ p7 np7 => ?_⟩
      · subst en
        refine q _ _ (sH.trans (same_put s1 nq6)) ?_
        rw [ed]
        exact at_node hO nl (by rw [List.length_map]) (al.mono fun a c h => h.keep (tups_same (same_put s1 nq6))) (by rw [upd_ne (ne_of_none h5 nq6)]; exact h5)
      · have sf := same_put (o := .tup ([V.str t.word] ++ acc)) (same_put (o := .tup acc) s1 nq6) np7
        refine q _ _ (sH.trans sf) ?_
        rw [ed]
        exact at_node hO nl (by rw [List.length_map]) (al.mono fun a c h => h.keep (tups_same sf)) upd_same
theorem ok_ldbs {f : Addr} {fd : FuncData} (F : Fun K "_law_doubled" "_law_doubled" sLDb f fd) (bS : Binds K fd ["saying", "wish"] []) (mS : mg "_law_doubled" = some (.ref f)) (zTuple : mg "tuple" = none) : ∀ n : Nat, FnOk P w K mg base CX0 n f fd ["saying", "wish"] (spLDb n)
  | 0 => no_calls fun vs H Q E h => by
    obtain ⟨v, vW, t, W, r, _, _, _, _, hd, _⟩ := h
    have := deep_pos t
    omega
  | n + 1 => ok_ldb F (ok_ldbs F bS mS zTuple n) bS mS zTuple
end
end Kf
set_option Elab.async false
set_option linter.all false
set_option maxRecDepth 100000
set_option maxHeartbeats 8000000
set_option pp.maxSteps 500
/-! The law. -/
namespace Kf
open PySem PySem.Spec PyProof.Rows L2 Sx RZ LamX LmY _root_.Gd
abbrev sLaw : Stmt := top 40
abbrev lawN : List Str := ["script", "k", "feed", "saying", "wish", "told", "names", "term", "other", "name"]
theorem scLaw : FnScope lawN ["script"] (defScope sLaw) := ⟨rfl, rfl, rfl, by decide +kernel, rfl, by decide +kernel, by decide +kernel⟩
theorem lo62 {r : Int} (h : 0 ≤ r) : -(2 ^ 62) ≤ r := Int.le_trans (by decide) h
theorem hi62 {r : Int} (h : r ≤ 1000) : r < 2 ^ 62 := Int.lt_of_le_of_lt h (by decide)
def spLaw (K : PySem.W.Frag) (T : List (Addr × Str)) (Pg : Addr) : Sp := fun vs H Q _ => ∃ (a : Addr) (ns : List Int), vs = [.ref a] ∧ SqL K H a (ns.map V.int) ∧ ns.length ≤ 63 ∧ (∀ z ∈ ns, Builtin.Int.intBits z ≤ 1048576) ∧ Tbs T Pg H ∧ ∀ H', Q (.bl true) H'
theorem ext_seq {K : PySem.W.Frag} {a : Addr} {H H' : Hp} {xs : List V} (b : ExtN H H') (h : SqL K H a xs) : SqL K H' a xs := by
  rcases h with (h | ⟨o, h⟩) | h
  · exact .inl (.inl (b _ _ h fun ps z => by cases z))
  · exact .inl (.inr ⟨o, b _ _ h fun ps z => by cases z⟩)
  · exact .inr h
theorem tabs_but {T : List (Addr × Str)} {f : Addr} {H H' : Hp} (hF : FeedAt H f) (b : But f H H') (t : Tabs T H) : Tabs T H' := fun p hp => by
  obtain ⟨x, y, e, _⟩ := hF
  obtain ⟨ps, h1, h2, h3⟩ := t p hp
  refine ⟨ps, b _ _ (fun z => by rw [z, e] at h1; cases h1) h1, h2, fun pos cv hc => ?_⟩
  obtain ⟨c, e1, e2⟩ := h3 pos cv hc
  exact ⟨c, e1, b _ _ (fun z => by rw [z, e] at e2; unfold CodeO at e2; cases e2) e2⟩
theorem tbs_but {T : List (Addr × Str)} {Pg f : Addr} {H H' : Hp} (hF : FeedAt H f) (b : But f H H') (t : Tbs T Pg H) : Tbs T Pg H' := ⟨tabs_but hF b t.lam, by
  obtain ⟨x, y, e, _⟩ := hF
  obtain ⟨ps, e1, e2⟩ := t.gen
  exact ⟨ps, b _ _ (fun z => by rw [z, e] at e1; cases e1) e1, e2⟩⟩
/-- is_word's table may have grown -/
theorem tbs_gen {T : List (Addr × Str)} {Pg : Addr} {H H' : Hp} (b : But Pg H H') (g : GxR.TabG H' Pg) (t : Tbs T Pg H) (apart : ∀ p ∈ T, p.1 ≠ Pg) : Tbs T Pg H' := ⟨fun p hp => by
  obtain ⟨ps, h1, h2, h3⟩ := t.lam p hp
  obtain ⟨qs, g1, _⟩ := t.gen
  refine ⟨ps, b _ _ (apart p hp) h1, h2, fun pos cv hc => ?_⟩
  obtain ⟨c, e1, e2⟩ := h3 pos cv hc
  exact ⟨c, e1, b _ _ (fun z => by rw [z, g1] at e2; unfold CodeO at e2; cases e2) e2⟩, g⟩
theorem ext_gen {Pg : Addr} {H H' : Hp} (b : But Pg H H') (g : GxR.TabG H Pg) : ExtN H H' := fun c o e n => b c o (fun z => by
  obtain ⟨ps, g1, _⟩ := g
  rw [z, g1] at e
  exact n ps (Option.some.inj e).symm) e
theorem ne_eq {K : PySem.W.Frag} {H : Hp} {t u : Tr} {v w : V} {Q : VK} (e : t = u) (ok : u.Ok) (ly : u.Lay) (d : u.deep ≤ 64) (a : At H t v) (b : At H u w) (h : Q (.bl false) H) : rNeD K v w H Q := by
  subst e
  refine ⟨t.dat, t.dat, a.dp ok, b.dp ok, shaped_dat ok ly d, shaped_dat ok ly d, ?_⟩
  rw [(eqv_dat t t ok ok).2 rfl]
  exact h
theorem at_ref {H : Hp} : ∀ {t : Tr} {v : V}, At H t v → ∃ p, v = .ref p
  | .leaf _ _, _, ⟨p, e, _⟩ => ⟨p, e⟩
  | .n0 _, _, ⟨p, e, _⟩ => ⟨p, e⟩
  | .n1 _ _, _, ⟨p, _, e, _⟩ => ⟨p, e⟩
  | .n2 _ _ _, _, ⟨p, _, _, e, _⟩ => ⟨p, e⟩
theorem feed_ext {H H' : Hp} {f : Addr} (h : FeedAt H f) (e : ExtN H H') : FeedAt H' f := by
  obtain ⟨x, y, at_, q⟩ := h
  exact ⟨x, y, e _ _ at_ (fun ps z => by cases z), q⟩

abbrev wn : List Str := ["x", "n", "w"]
theorem flat_strs : ∀ ys : List Str, (ys.map V.str).all flatV = true
  | [] => rfl
  | y :: ys => by
    rw [List.map_cons, List.all_cons, flat_strs ys]
    rfl
theorem made_mono {k : Str} {ns ms : List Str} {r : Int} {d : Nat} {t : Tr} (h : Made k ns r d t) (s : ∀ z ∈ ns, z ∈ ms) : Made k ms r d t := ⟨h.wb, h.dp, fun z hz => s z (h.nm z hz)⟩
theorem xw : ∀ z ∈ xn, z ∈ wn := by decide +kernel
theorem join3 {C G : V → V → Tr → Hp → Prop} {M : Prop} (main : (∀ v u t H, C v u t H → G v u t H) → M) (rest : ∀ v u t H, C v u t H → G v u t H) : M := main rest
theorem menuW {H : Hp} {p1 p2 p3 p4 p5 : Addr} {W : Tr} {v : V} (m : Made kS xn 0 4 W) (a : At H W v) (e1 : H p1 = some (.tup [.str "no"])) (e2 : H p2 = some (.tup [.str "bound", .int 0])) (e3 : H p3 = some (.tup [.str "name", .str "w"])) (e4 : H p4 = some (.tup [.str "same", .ref p2, .ref p3])) (e5 : H p5 = some (.tup [.str "some", .ref p4])) :
    ∀ x ∈ ([.ref p1, v, .ref p5] : List V), ∃ t, Made kS wn 0 4 t ∧ At H t x := by
  intro x hx
  rcases List.mem_cons.mp hx with rfl | hx
  · exact ⟨_, made_no.up (by decide), p1, rfl, e1⟩
  rcases List.mem_cons.mp hx with rfl | hx
  · exact ⟨_, made_mono m xw, a⟩
  · rw [List.mem_singleton.mp hx]
    refine ⟨.n1 "some" (.n2 "same" (.leaf "bound" (.int 0)) (.leaf "name" (.str "w"))), (made_one (r2 := 1) some_row (by decide +kernel) (made_two same_row (by decide +kernel) (made_bound (by decide) (by decide)) (made_name (by decide +kernel) (by decide +kernel)))).up (by decide), p5, .ref p4, rfl, e5, p4, .ref p2, .ref p3, rfl, e4, at_leaf e2, at_leaf e3⟩
theorem menuT {H : Hp} {p1 p2 p3 p4 : Addr} (e1 : H p1 = some (.tup [.str "num", .int 3])) (e2 : H p2 = some (.tup [.str "name", .str "n"])) (e3 : H p3 = some (.tup [.str "next", .ref p2])) (e4 : H p4 = some (.tup [.str "name", .str "q"])) :
    ∀ x ∈ ([.ref p1, .ref p3, .ref p4] : List V), ∃ t, Made kT ["n", "q"] 0 2 t ∧ At H t x := by
  intro x hx
  rcases List.mem_cons.mp hx with rfl | hx
  · exact ⟨_, (made_num (by decide) (by decide)).up (by decide), at_leaf e1⟩
  rcases List.mem_cons.mp hx with rfl | hx
  · exact ⟨_, made_one next_row rfl (made_name (x := "n") (by decide +kernel) (by decide +kernel)), p3, .ref p2, rfl, e3, at_leaf e2⟩
  · rw [List.mem_singleton.mp hx]
    exact ⟨_, (made_name (x := "q") (by decide +kernel) (by decide +kernel)).up (by decide), at_leaf e4⟩
section
variable {P : Program} {w : World} {K : PySem.W.Frag} {mg : Str → Option Value} {base : Heap} {T : List (Addr × Str)} {Pg : Addr}
structure Calls (P : Program) (w : World) (K : PySem.W.Frag) (mg : Str → Option Value) (base : Heap) (T : List (Addr × Str)) (Pg f0 f1 f2 f3 f4 f5 f6 f7 f8 f9 : Addr) (d0 d1 d2 d3 d4 d5 d6 d7 d8 d9 : FuncData) : Prop where
  Fd : FnOk P w K mg base CX0 1 f0 d0 ["script", "k"] (spFeed K)
  bFd : L2.Binds K d0 ["script", "k"] []
  qFd : PySem.W.keepIn K (.ref f0) = true
  mFd : mg "_law_feed" = some (.ref f0)
  Tk : FnOk P w K mg base CX0 1 f1 d1 ["feed", "many"] spTake
  bTk : L2.Binds K d1 ["feed", "many"] []
  qTk : PySem.W.keepIn K (.ref f1) = true
  mTk : mg "_law_take" = some (.ref f1)
  Pk : FnOk P w K mg base CX0 2 f2 d2 ["feed", "some"] (spPick K)
  bPk : L2.Binds K d2 ["feed", "some"] []
  qPk : PySem.W.keepIn K (.ref f2) = true
  mPk : mg "_law_pick" = some (.ref f2)
  S : FnOk P w K mg base CX0 13 f3 d3 ["feed", "deep"] (spSaying 5)
  bS : L2.Binds K d3 ["feed", "deep"] []
  qS : PySem.W.keepIn K (.ref f3) = true
  mS : mg "_law_saying" = some (.ref f3)
  Db : FnOk P w K mg base CX0 12 f4 d4 ["saying", "wish"] spDoubled
  bDb : L2.Binds K d4 ["saying", "wish"] []
  qDb : PySem.W.keepIn K (.ref f4) = true
  mDb : mg "doubled" = some (.ref f4)
  LD : FnOk P w K mg base CX0 8 f5 d5 ["saying", "wish"] (spLDb 8)
  bLD : L2.Binds K d5 ["saying", "wish"] []
  qLD : PySem.W.keepIn K (.ref f5) = true
  mLD : mg "_law_doubled" = some (.ref f5)
  I : FnOk P w K mg base CX0 6 f6 d6 ["thing"] (spQ kS 0 Pg)
  bI : L2.Binds K d6 ["thing"] []
  qI : PySem.W.keepIn K (.ref f6) = true
  mI : mg "is_saying" = some (.ref f6)
  N : FnOk P w K mg base CX0 3 f7 d7 ["thing"] spNamesIn
  bN : L2.Binds K d7 ["thing"] []
  qN : PySem.W.keepIn K (.ref f7) = true
  mN : mg "names_in" = some (.ref f7)
  LN : FnOk P w K mg base CX0 8 f8 d8 ["thing"] (spLN 8)
  bLN : L2.Binds K d8 ["thing"] []
  qLN : PySem.W.keepIn K (.ref f8) = true
  mLN : mg "_law_names" = some (.ref f8)
  G : FnOk P w K mg base CX0 4 f9 d9 ["saying", "name", "term"] (spPutFor T Pg)
  bG : L2.Binds K d9 ["saying", "name", "term"] []
  qG : PySem.W.keepIn K (.ref f9) = true
  mG : mg "put_for" = some (.ref f9)
  apart : ∀ p ∈ T, p.1 ≠ Pg
  zRange : mg "range" = none
  zMax : mg "max" = none
  zMin : mg "min" = none
  zLen : mg "len" = none
  zRepr : mg "repr" = none
theorem ok_law {f f0 f1 f2 f3 f4 f5 f6 f7 f8 f9 : Addr} {fd d0 d1 d2 d3 d4 d5 d6 d7 d8 d9 : FuncData} (F : Fun K "law" "law" sLaw f fd) (C : Calls P w K mg base T Pg f0 f1 f2 f3 f4 f5 f6 f7 f8 f9 d0 d1 d2 d3 d4 d5 d6 d7 d8 d9) : FnG P w K mg base 14 f fd ["script"] (spLaw K T Pg) := by
  refine okG F scLaw (fun vs H Q E h => ?_) (fun cdv A outer s H vs Q gu hr h => ?_)
  · obtain ⟨a, ns, rfl, _⟩ := h
    rfl
  obtain ⟨a, ns, rfl, hS, hlen, hb, hT, q⟩ := h
  have h1 : Room 1 _ := hr.mono (by decide)
  have h2 : Room 2 _ := hr.mono (by decide)
  have h3 : Room 3 _ := hr.mono (by decide)
  have h4 : Room 4 _ := hr.mono (by decide)
  have h6 : Room 6 _ := hr.mono (by decide)
  have h8 : Room 8 _ := hr.mono (by decide)
  have h12 : Room 12 _ := hr.mono (by decide)
  have u1 : (A.deeper (envOfC "law" (defScope sLaw) s.heap.objs.size f cdv)).units + 64 < cLine := by
    have := hr.units
    omega
  refine ⟨_, (pss_cons (ps_for PassesOwn.never rfl (pi_range1 (by rfl) C.zRange (pa_cons (pe_callB (call_max2 rfl) (by rfl) C.zMax (by decide +kernel) (pa_cons pe_int (pa_cons (pe_callB (call_min2 rfl) (by rfl) C.zMin (by decide +kernel) (pa_cons pe_int (pa_cons (pe_callB call_len_seq (by rfl) C.zLen PySem.boot_len (pa_cons (pv 0) pa_nil)) pa_nil))) pa_nil))) pa_nil)) (pg_name (i := 1) scLaw.nd rfl (.inl rfl)) (pss_cons (ps_set (i := 2) scLaw.nd rfl (.inl rfl) (pe_call C.Fd h1 (by rfl) C.mFd C.qFd C.bFd .nil pass0 (pa_cons (pv 0) (pa_cons (pv 1) pa_nil))))
    (pss_cons (ps_set (i := 3) scLaw.nd rfl (.inl rfl) (pe_call C.S hr (by rfl) C.mS C.qS C.bS .nil pass0 (pa_cons (pv 2) (pa_cons (pe_call C.Tk h1 (by rfl) C.mTk C.qTk C.bTk .nil pass0 (pa_cons (pv 2) (pa_cons pe_int pa_nil))) pa_nil))))
    (pss_cons (ps_set (i := 4) scLaw.nd rfl (.inl rfl) (pe_call C.Pk h2 (by rfl) C.mPk C.qPk C.bPk .nil pass0 (pa_cons (pv 2) (pa_cons (pe_lst (pa_cons (pe_tup (pa_cons pe_str pa_nil)) (pa_cons (pe_call C.S hr (by rfl) C.mS C.qS C.bS .nil pass0 (pa_cons (pv 2) (pa_cons pe_int pa_nil))) (pa_cons (pe_tup (pa_cons pe_str (pa_cons (pe_tup (pa_cons pe_str (pa_cons (pe_tup (pa_cons pe_str (pa_cons pe_int pa_nil))) (pa_cons (pe_tup (pa_cons pe_str (pa_cons pe_str pa_nil))) pa_nil)))) pa_nil))) pa_nil)))) pa_nil))))
    (pss_cons (ps_set (i := 5) scLaw.nd rfl (.inl rfl) (pe_call C.Db h12 (by rfl) C.mDb C.qDb C.bDb .nil pass0 (pa_cons (pv 3) (pa_cons (pv 4) pa_nil))))
    (pss_cons (ps_if (PW.pt (pw_or (pt_cmpR (op_neD hr.units) (pv 5) (pe_call C.LD h8 (by rfl) C.mLD C.qLD C.bLD .nil pass0 (pa_cons (pv 3) (pa_cons (pv 4) pa_nil))) (nomark _)) (pw_or1 (PW.pt (pw_and (pt_cmpR op_isBl (pe_call C.I h6 (by rfl) C.mI C.qI C.bI .nil pass0 (pa_cons (pv 5) pa_nil)) pe_bl (nomark _)) (pw_and1 (pt_cmpR op_lt (pe_callB call_len_str (by rfl) C.zLen PySem.boot_len (pa_cons (pe_callB (cr_reprD gu u1) (by rfl) C.zRepr (by decide +kernel) (pa_cons (pv 5) pa_nil)) pa_nil)) pe_int (nomark _)))))))) (pss_one (ps_ret pe_bl)) pss_nil)
    (pss_cons (ps_if (pt_cmpR op_gt (pe_callB call_len_str (by rfl) C.zLen PySem.boot_len (pa_cons (pe_callB (cr_reprD gu u1) (by rfl) C.zRepr (by decide +kernel) (pa_cons (pv 5) pa_nil)) pa_nil)) pe_int (nomark _)) (pss_one (ps_par (i := 5) (j := 3) rfl scLaw.nd rfl rfl (by decide) rfl rfl (pa_cons (pe_call C.Db h12 (by rfl) C.mDb C.qDb C.bDb .nil pass0 (pa_cons (pe_tup (pa_cons pe_str pa_nil)) (pa_cons (pv 4) pa_nil))) (pa_cons (pe_tup (pa_cons pe_str pa_nil)) pa_nil)) (by rfl))) pss_nil)
    (pss_cons (ps_set (i := 6) scLaw.nd rfl (.inr rfl) (pe_op op_cat (pe_call C.LN h8 (by rfl) C.mLN C.qLN C.bLN .nil pass0 (pa_cons (pv 3) pa_nil)) (pe_call C.LN h8 (by rfl) C.mLN C.qLN C.bLN .nil pass0 (pa_cons (pv 4) pa_nil))))
    (pss_cons (ps_if (pt_cmpR (op_neD hr.units) (pe_lc (own := [("name", 9)]) (g := gName 9) (by rfl) scLaw.nd (pi_list (pe_call C.N h3 (by rfl) C.mN C.qN C.bN .nil pass0 (pa_cons (pv 5) pa_nil))) (blkOk_by (N := lawN) (sc := defScope sLaw) (by decide +kernel)) (fun _ _ _ _ _ => pg_name (i := 9) scLaw.nd rfl (Or.inl rfl)) (fun _ _ _ _ _ => (pts_one (pt_cmpR (r := rIn K true) op_notIn_seq (pv 9) (pv 6) (by rfl)))) (fun _ _ _ _ _ => (pv 9))) (pe_lst pa_nil) (nomark _)) (pss_one (ps_ret pe_bl)) pss_nil)
    (pss_cons (ps_set (i := 7) scLaw.nd rfl (.inl rfl) (pe_call C.Pk h2 (by rfl) C.mPk C.qPk C.bPk .nil pass0 (pa_cons (pv 2) (pa_cons (pe_lst (pa_cons (pe_tup (pa_cons pe_str (pa_cons pe_int pa_nil))) (pa_cons (pe_tup (pa_cons pe_str (pa_cons (pe_tup (pa_cons pe_str (pa_cons pe_str pa_nil))) pa_nil))) (pa_cons (pe_tup (pa_cons pe_str (pa_cons pe_str pa_nil))) pa_nil)))) pa_nil))))
    (pss_cons (ps_set (i := 8) scLaw.nd rfl (.inl rfl) (pe_call C.G h4 (by rfl) C.mG C.qG C.bG .nil pass0 (pa_cons (pv 3) (pa_cons pe_str (pa_cons (pv 7) pa_nil)))))
    (pss_cons (ps_if (PW.pt (pw_and (pt_cmpR op_notIn_seq pe_str (pe_call C.N h3 (by rfl) C.mN C.qN C.bN .nil pass0 (pa_cons (pv 4) pa_nil)) (by rfl)) (pw_and1 (pt_cmpR (op_neD hr.units) (pe_call C.Db h12 (by rfl) C.mDb C.qDb C.bDb .nil pass0 (pa_cons (pv 8) (pa_cons (pv 4) pa_nil))) (pe_call C.G h4 (by rfl) C.mG C.qG C.bG .nil pass0 (pa_cons (pv 5) (pa_cons pe_str (pa_cons (pv 7) pa_nil)))) (nomark _))))) (pss_one (ps_ret pe_bl)) pss_nil)
    (pss_one (ps_if (PW.pt (pw_or (pt_cmpR (op_neD hr.units) (pe_call C.Db h12 (by rfl) C.mDb C.qDb C.bDb .nil pass0 (pa_cons (pe_tup (pa_cons pe_str pa_nil)) (pa_cons (pv 4) pa_nil))) (pv 4) (nomark _)) (pw_or1 (pt_cmpR (op_neD hr.units) (pe_ix ix_tup (pe_call C.Db h12 (by rfl) C.mDb C.qDb C.bDb .nil pass0 (pa_cons (pe_tup (pa_cons pe_str (pa_cons (pv 3) (pa_cons (pe_tup (pa_cons pe_str pa_nil)) pa_nil)))) (pa_cons (pe_tup (pa_cons pe_str pa_nil)) pa_nil))) pe_int (fun _ _ => rfl)) (pe_tup (pa_cons pe_str pa_nil)) (nomark _))))) (pss_one (ps_ret pe_bl)) pss_nil))))))))))))))
    (pss_one (ps_ret pe_bl))), ?_⟩
  have bounds : ∀ n : Int, 0 ≤ n → (3 : Int) ≤ (if (if n < 40 then n else 40) > 3 then (if n < 40 then n else 40) else 3) ∧ (if (if n < 40 then n else 40) > 3 then (if n < 40 then n else 40) else 3) ≤ 40 := fun n _ => by
    split
    · split <;> omega
    · omega
  obtain ⟨bn1, bn2⟩ := bounds ((ns.map V.int).length : Nat) (Int.natCast_nonneg _)
  refine ⟨_, rfl, a, _, rfl, .inl hS, _, _, rfl, _, _, rfl, _, rfl, lo62 (by omega), hi62 (by omega), ?_⟩
  generalize (if (if (((ns.map V.int).length : Nat) : Int) < 40 then (((ns.map V.int).length : Nat) : Int) else 40) > 3 then (if (((ns.map V.int).length : Nat) : Int) < 40 then (((ns.map V.int).length : Nat) : Int) else 40) else 3) = turns at bn1 bn2 ⊢
  refine for_range (lo := 0) (n := turns.toNat) (fun i σ H' => ∃ y1 y2 y3 y4 y5 y6 y7 y8 y9 : Option V, σ = [some (.ref a), y1, y2, y3, y4, y5, y6, y7, y8, y9] ∧ ExtN H H' ∧ Tbs T Pg H')
    ⟨none, none, none, none, none, none, none, none, none, rfl, ExtN.refl H, hT⟩ ?_ ?_
  · rintro i σ H0 hi ⟨y1, y2, y3, y4, y5, y6, y7, y8, y9, rfl, e0, hT0⟩
    refine ⟨_, rfl, _, rfl, a, ns, i, (by show [V.ref a, V.int (0 + (i : Int))] = _; rw [Int.zero_add]), ext_seq e0 hS, hb, by omega, fun f H1 s1 nf hF1 => ?_⟩
    -- saying
    refine ⟨_, rfl, _, rfl, f, 5, rfl, by decide, by decide, hF1, fun d H2 d0 d5 b2 hF2 => ?_⟩
    obtain ⟨dn, rfl⟩ := Int.eq_ofNat_of_zero_le d0
    refine ⟨f, dn, rfl, by omega, by omega, hF2, fun ts vs H3 ms as b3 hF3 => ?_⟩
    -- wish
    refine ⟨_, rfl, (by show 1 ≤ sizeLine; decide), fun p1 n1 => ?_⟩
    have t1 := same_new (o := .tup [.str "no"]) n1
    refine ⟨_, rfl, f, 1, rfl, by decide, by decide, hF3.same t1, fun tw vw H4 mw aw b4 hF4 => ?_⟩
    have k4 := (hF3.same t1).tups b4
    have e1 := k4 _ _ upd_same
    refine ⟨(by show 2 ≤ sizeLine; decide), fun p2 n2 => ?_⟩
    have t2 := same_new (o := .tup [.str "bound", .int 0]) n2
    refine ⟨(by show 2 ≤ sizeLine; decide), fun p3 n3 => ?_⟩
    have t3 := same_new (o := .tup [.str "name", .str "w"]) n3
    refine ⟨(by show 3 ≤ sizeLine; decide), fun p4 n4 => ?_⟩
    have t4 := same_new (o := .tup [.str "same", .ref p2, .ref p3]) n4
    refine ⟨(by show 2 ≤ sizeLine; decide), fun p5 n5 => ?_⟩
    have t5 := same_new (o := .tup [.str "some", .ref p4]) n5
    refine ⟨(by show 3 ≤ sizeLine; decide), fun l nl => ?_⟩
    have t6 := same_new (o := .lst [.ref p1, vw, .ref p5]) nl
    have t26 := t2.trans (t3.trans (t4.trans (t5.trans t6)))
    have nlf := (hF4.same (t2.trans (t3.trans (t4.trans t5)))).ne nl
    have hF5 := hF4.same t26
    have all := menuW mw (aw.keep (tups_same t26)) (t26 _ _ e1) ((t3.trans (t4.trans (t5.trans t6))) _ _ upd_same) ((t4.trans (t5.trans t6)) _ _ upd_same) ((t5.trans t6) _ _ upd_same) (t6 _ _ upd_same)
    refine ⟨f, l, _, rfl, nlf, .inl (.inl upd_same), (by show 0 < 3; decide), (by show 3 ≤ 1000; decide), hF5, fun vW hx H6 b6 hF6 => ?_⟩
    obtain ⟨W, mW, aW⟩ := all vW hx
    have k6 := hF5.tups b6
    have aW := aW.keep k6
    have as := (((as.keep (tups_same t1)).keep k4).keep (tups_same t26)).keep k6
    have b16 : But f H1 H6 := ((((b2.trans b3).trans (but_same t1)).trans b4).trans (but_same t26)).trans b6
    have hT6 : Tbs T Pg H6 := tbs_but hF1 b16 (hT0.ext s1)
    have e6 : ExtN H0 H6 := fun c o e n => b16 c o (ne_of_none e nf) (s1 _ _ e)
    have syS := say_of ms.wb
    have syW := say_of mW.wb
    have dS : ts.deep ≤ 7 := Nat.le_trans ms.dp (by omega)
    have dW : W.deep ≤ 4 := mW.dp
    have zS : ts.size ≤ 127 := by
      have z := size_deep ts
      have p : 2 ^ ts.deep ≤ 2 ^ 7 := Nat.pow_le_pow_right (by decide) dS
      omega
    have zW : W.size ≤ 15 := by
      have z := size_deep W
      have p : 2 ^ W.deep ≤ 2 ^ 4 := Nat.pow_le_pow_right (by decide) dW
      omega
    have okW := wb_ok mW.wb
    have lyW := wb_lay mW.wb
    -- told
    refine ⟨_, rfl, _, rfl, vs, vW, ts, W, 0, rfl, aW, as, ms.wb, by omega, fun vt H7 s7 at_ => ?_⟩
    have syT := dbl_say syW syS (Int.le_refl 0)
    have wbT := wb_of syT
    have okT := wb_ok wbT
    have lyT := wb_lay wbT
    have dT : (dbl W ts).deep ≤ 25 := by
      have := dbl_deep (W := W) syS
      omega
    have zT : (dbl W ts).size ≤ 6000 := by
      have z := dbl_size (W := W) syS
      have m : (2 * W.size + 3) * ts.size ≤ 33 * 127 := Nat.mul_le_mul (by omega) zS
      omega
    have aW7 := aW.keep (tups_same s7)
    have as7 := as.keep (tups_same s7)
    -- the law's own
    refine ⟨_, rfl, _, rfl, _, rfl, vs, vW, ts, W, 0, rfl, aW7, as7, ms.wb, by omega, fun v8 H8 s8 a8 => ?_⟩
    have at8 := at_.keep (tups_same s8)
    have s68 := s7.trans s8
    have hT8 := hT6.ext s68
    refine ne_eq (t := dbl W ts) (u := dbl W ts) rfl okT lyT (by omega) at8 a8 ⟨_, rfl, iteF ?_⟩
    obtain ⟨pt, ept⟩ := at_ref at8
    -- is_saying
    refine ⟨_, rfl, vt, _, rfl, at8, wbT, zT, hT8.gen, fun H9 b9 g9 => ?_⟩
    have e9 := ext_gen b9 hT8.gen
    have hT9 := tbs_gen b9 g9 hT8 C.apart
    have at9 := at8.keep (extN_tups e9)
    have e69 : ExtN H6 H9 := (same_extN s68).trans e9
    have hF9 := feed_ext hF6 e69
    have aW9 := aW.keep (extN_tups e69)
    have as9 := as.keep (extN_tups e69)
    have e09 := e6.trans e69
    obtain ⟨w1, w2, w3, w4⟩ := sh_fits wbT (by decide) (by omega) zT
    clear s68 e69 hT8 s7 s8 a8 aW7 as7 b9 g9 hF6 e6 hT6 aW as
    apply join (C := fun X => X = H9)
    · intro rest
      refine ⟨_, _, rfl, rfl, _, rfl, ?_⟩
      by_cases small : (dbl W ts).size ≤ 400
      · rw [decide_eq_true (⟨small, by omega⟩ : (dbl W ts).size ≤ 400 ∧ (dbl W ts).deep ≤ 60)]
        exact iteF (iteF (rest H9 rfl))
      · rw [decide_eq_false (fun z => small z.1 : ¬ ((dbl W ts).size ≤ 400 ∧ (dbl W ts).deep ≤ 60))]
        refine iteT ?_
        refine ⟨_, rfl, pt, _, (by rw [ept]), (by rw [← ept]; exact at9.dp okT), w1, w2, w3, w4, _, rfl, w4, _, _, rfl, rfl, _, rfl, ?_⟩
        have far : ¬ (((dbl W ts).dat.shown.length : Nat) : Int) < 3000 := by
          have z := long_tree _ _ _ wbT
          omega
        rw [decide_eq_false far]
        exact iteF (rest H9 rfl)
    rintro X rfl
    -- how long
    apply join3 (C := fun v u t H' => (∀ z ∈ t.names, z ∈ wn) ∧ Say 0 t ∧ t.deep ≤ 7 ∧ t.size ≤ 127 ∧ At H' t v ∧ At H' (dbl W t) u ∧ At H' W vW ∧ ExtN H0 H' ∧ Tbs T Pg H' ∧ FeedAt H' f)
    · intro rest
      refine ⟨_, rfl, pt, _, (by rw [ept]), (by rw [← ept]; exact at9.dp okT), w1, w2, w3, w4, _, rfl, w4, _, _, rfl, rfl, _, rfl, ?_⟩
      refine ite2 (fun _ => ?yes) (fun _ => ?no)
      case no =>
        obtain ⟨t2, ht⟩ : ∃ t2, t2 = ts := ⟨_, rfl⟩
        generalize hv : vs = v2
        generalize hu : vt = u2
        generalize hX : X = X2
        exact rest v2 u2 t2 X2 (by subst hv hu ht hX; exact ⟨fun z hz => xw z (ms.nm z hz), syS, dS, zS, as9, at9, aW9, e09, hT9, hF9⟩)
      case yes =>
        refine ⟨(by show 1 ≤ sizeLine; decide), fun p1 n1 => ?_⟩
        have t1 := same_new (o := .tup [.str "no"]) n1
        refine ⟨_, rfl, .ref p1, vW, .n0 "no", W, 0, rfl, aW9.keep (tups_same t1), ⟨p1, rfl, upd_same⟩, no_row, by decide, fun u Hb sb au => ?_⟩
        refine ⟨(by show 1 ≤ sizeLine; decide), fun p2 n2 => ?_⟩
        have t2 := same_new (o := .tup [.str "no"]) n2
        have tt := t1.trans (sb.trans t2)
        refine ⟨_, _, rfl, ?_⟩
        exact rest (.ref p2) u (.n0 "no") _ ⟨fun z hz => (List.not_mem_nil hz).elim, .no 0, by decide, by decide, ⟨p2, rfl, upd_same⟩, au.keep (tups_same t2), aW9.keep (tups_same tt), e09.trans (same_extN tt), hT9.ext tt, hF9.same tt⟩
    intro v u t Ha ⟨nmt, sy, dt, zt, av, au, aWa, ea, hTa, hFa⟩
    have wbt := wb_of sy
    have syD := dbl_say syW sy (Int.le_refl 0)
    have wbD := wb_of syD
    have okD := wb_ok wbD
    have lyD := wb_lay wbD
    have okt := wb_ok wbt
    have lyt := wb_lay wbt
    have dD : (dbl W t).deep ≤ 25 := by
      have := dbl_deep (W := W) sy
      omega
    have zD : (dbl W t).size ≤ 6000 := by
      have z := dbl_size (W := W) sy
      have m : (2 * W.size + 3) * t.size ≤ 33 * 127 := Nat.mul_le_mul (by omega) zt
      omega
    -- names
    refine ⟨_, rfl, v, t, rfl, av, okt, wb_not wbt, by omega, by omega, fun l1 Hb sb nl1 hl1 => ?_⟩
    refine ⟨_, rfl, vW, W, rfl, aWa.keep (tups_same sb), okW, wb_not mW.wb, by omega, by omega, fun l2 Hc sc nl2 hl2 => ?_⟩
    have small : (t.names.map V.str).length + (W.names.map V.str).length ≤ sizeLine := by
      have g1 := names_size t
      have g2 := names_size W
      rw [List.length_map, List.length_map]
      exact Nat.le_trans (show _ ≤ 8192 by omega) (by decide)
    refine ⟨l1, l2, _, _, rfl, rfl, sc _ _ hl1, hl2, small, fun l3 nl3 => ?_⟩
    have sd := same_new (o := .lst (t.names.map V.str ++ W.names.map V.str)) nl3
    have sad := sb.trans (sc.trans sd)
    rw [← List.map_append] at sad sd ⊢
    have hl3 : (upd Hc l3 (.lst ((t.names ++ W.names).map V.str))) l3 = some (.lst ((t.names ++ W.names).map V.str)) := upd_same
    generalize upd Hc l3 (.lst ((t.names ++ W.names).map V.str)) = Hd at sad sd hl3 ⊢
    have subD : ∀ z ∈ (dbl W t).names, z ∈ wn := fun z hz => (dbl_names sy hz).elim (nmt z) (mW.nm z)
    -- names that stand in neither
    refine ⟨_, rfl, u, dbl W t, wn, rfl, au.keep (tups_same sad), okD, zD, subD, by decide, fun ys pn He se npn hpn ris => ?_⟩
    refine ⟨pn, rfl, ⟨_, .inl (.inl hpn)⟩, fun D nD => ?_⟩
    refine lc_list (K := K) (a := pn) (xs := ys.map V.str) (fun i H' => H' D = some (.lst []) ∧ Same He H') ⟨upd_same, same_new nD⟩ (fun i H' _ ⟨_, sm⟩ => .inl (.inl (sm _ _ hpn))) ?_ ?_
    · rintro j x H' hx ⟨hD, sm⟩
      rw [List.getElem?_map] at hx
      obtain ⟨z, hz, rfl⟩ := Option.map_eq_some_iff.mp hx
      have mz : z ∈ t.names ++ W.names := List.mem_append.mpr (dbl_names sy ((ris.mem z).mp (List.mem_of_getElem? hz)))
      refine ⟨rfl, _, rfl, _, rfl, l3, _, rfl, .inl (.inl (.inl ((se.trans sm) _ _ hl3))), rfl, flat_strs _, _, rfl, ?_⟩
      show if (!inV (.str z) ((t.names ++ W.names).map V.str)) = true then _ else _
      rw [inV_strs, decide_eq_true mz]
      exact iteF ⟨hD, sm⟩
    rintro Hf ⟨hD, sm⟩
    refine ⟨Nat.zero_le _, fun e he => ?_⟩
    have sf := same_new (o := .lst []) he
    have d0 : Dp K (upd Hf e (.lst [])) (.ref D) (.list (([] : List Str).map PyData.str)) := dp_strs (ns := []) (.inl (.inl (sf _ _ hD)))
    have d1 : Dp K (upd Hf e (.lst [])) (.ref e) (.list (([] : List Str).map PyData.str)) := dp_strs (ns := []) (.inl (.inl upd_same))
    refine ⟨_, _, d0, d1, shaped_strs (fun z hz => nomatch hz), shaped_strs (fun z hz => nomatch hz), _, rfl, iteF ?_⟩
    have saf := sad.trans (se.trans (sm.trans sf))
    have avf := av.keep (tups_same saf)
    have auf := au.keep (tups_same saf)
    have aWf := aWa.keep (tups_same saf)
    have eaf := ea.trans (same_extN saf)
    have hTf := hTa.ext saf
    have hFf := hFa.same saf
    generalize upd Hf e (.lst []) = Hg at avf auf aWf eaf hTf hFf ⊢
    clear d0 d1 sf saf sm se sad sd sb sc hl3 hpn hD he nD npn av au aWa ea hTa hFa hl1 hl2 small ris
    -- term
    refine ⟨_, rfl, (by show 2 ≤ sizeLine; decide), fun p1 n1 => ?_⟩
    have t1 := same_new (o := .tup [.str "num", .int 3]) n1
    refine ⟨(by show 2 ≤ sizeLine; decide), fun p2 n2 => ?_⟩
    have t2 := same_new (o := .tup [.str "name", .str "n"]) n2
    refine ⟨(by show 2 ≤ sizeLine; decide), fun p3 n3 => ?_⟩
    have t3 := same_new (o := .tup [.str "next", .ref p2]) n3
    refine ⟨(by show 2 ≤ sizeLine; decide), fun p4 n4 => ?_⟩
    have t4 := same_new (o := .tup [.str "name", .str "q"]) n4
    refine ⟨(by show 3 ≤ sizeLine; decide), fun l nl => ?_⟩
    have t5 := same_new (o := .lst [.ref p1, .ref p3, .ref p4]) nl
    have t15 := t1.trans (t2.trans (t3.trans (t4.trans t5)))
    have nlf := (hFf.same (t1.trans (t2.trans (t3.trans t4)))).ne nl
    have hFh := hFf.same t15
    have all := menuT ((t2.trans (t3.trans (t4.trans t5))) _ _ upd_same) ((t3.trans (t4.trans t5)) _ _ upd_same) ((t4.trans t5) _ _ upd_same) (t5 _ _ upd_same)
    refine ⟨f, l, _, rfl, nlf, .inl (.inl upd_same), (by show 0 < 3; decide), (by show 3 ≤ 1000; decide), hFh, fun vT hx Hh bh hFh2 => ?_⟩
    obtain ⟨tt, mt, att⟩ := all vT hx
    have kh := hFh.tups bh
    have att := att.keep kh
    have avh := (avf.keep (tups_same t15)).keep kh
    have auh := (auf.keep (tups_same t15)).keep kh
    have aWh := (aWf.keep (tups_same t15)).keep kh
    have hTh := tbs_but hFh bh (hTf.ext t15)
    have bgh : But f Hg Hh := (but_same t15).trans bh
    have eh : ExtN H0 Hh := fun c o e n => bgh c o (ne_of_none e nf) (eaf c o e n)
    clear eaf hTf hFf avf auf aWf t1 t2 t3 t4 t5 t15 hFh n1 n2 n3 n4 nl all kh bgh bh hFh2
    have okT2 := wb_ok mt.wb
    have nmx : NmOk "x" := okX.2.2.2
    have dT2 := mt.dp
    have syP : Say 0 (putN "x" tt t) := say_of (wb_putN mt.wb wbt)
    have wbP := wb_of syP
    have dP : (putN "x" tt t).deep ≤ 7 + 1 := Nat.le_trans (put_deep (old := fun _ => nme "x") (new := fun _ => tt) (d := 1) (fun _ => dT2) t 0) (Nat.add_le_add_right dt 1)
    have wbR := wb_putN (z := "x") mt.wb wbD
    have dR : (putN "x" tt (dbl W t)).deep ≤ 25 + 1 := Nat.le_trans (put_deep (old := fun _ => nme "x") (new := fun _ => tt) (d := 1) (fun _ => dT2) (dbl W t) 0) (Nat.add_le_add_right dD 1)
    -- other
    refine ⟨_, rfl, _, rfl, v, vT, "x", t, tt, rfl, avh, okt, lyt, by omega, nmx, att, hTh, fun vo Ho eo hTo ao => ?_⟩
    have avo := avh.keep (extN_tups eo)
    have auo := auh.keep (extN_tups eo)
    have aWo := aWh.keep (extN_tups eo)
    have atto := att.keep (extN_tups eo)
    have eho := eh.trans eo
    apply join (C := fun X => ExtN H0 X ∧ Tbs T Pg X ∧ At X W vW ∧ At X t v)
    · intro last
      refine ⟨_, rfl, vW, W, wn, rfl, aWo, okW, by omega, mW.nm, by decide, fun ys pn Hn sn npn hpn ris => ?_⟩
      refine ⟨pn, _, rfl, .inl (.inl (.inl hpn)), rfl, flat_strs _, _, rfl, ?_⟩
      have en := eho.trans (same_extN sn)
      show if (!inV (.str "x") (ys.map V.str)) = true then _ else _
      rw [inV_strs]
      by_cases mem : ("x" : Str) ∈ ys
      · rw [decide_eq_true mem]
        exact iteF (iteF (last Hn ⟨en, hTo.ext sn, aWo.keep (tups_same sn), avo.keep (tups_same sn)⟩))
      · rw [decide_eq_false mem]
        refine iteT ?_
        have nx : ("x" : Str) ∉ W.names := fun z => mem ((ris.mem _).mpr z)
        refine ⟨_, rfl, _, rfl, vo, vW, putN "x" tt t, W, 0, rfl, aWo.keep (tups_same sn), ao.keep (tups_same sn), wbP, by omega, fun v1 H1' s1' a1 => ?_⟩
        have sn1 := sn.trans s1'
        refine ⟨_, rfl, _, rfl, u, vT, "x", dbl W t, tt, rfl, auo.keep (tups_same sn1), okD, lyD, zD, nmx, atto.keep (tups_same sn1), hTo.ext sn1, fun v2 H2' e2' hT2 a2 => ?_⟩
        have k := extN_tups e2'
        have kk := (tups_same sn1).trans k
        refine ne_eq (t := dbl W (putN "x" tt t)) (u := putN "x" tt (dbl W t)) (dbl_put okW nx sy 0) (wb_ok wbR) (wb_lay wbR) (by omega) (a1.keep k) a2 ⟨_, rfl, iteF (last H2' ⟨(eho.trans (same_extN sn1)).trans e2', hT2, aWo.keep kk, avo.keep kk⟩)⟩
    rintro Hl ⟨el, hTl, aWl, avl⟩
    clear eho atto aWo auo avo ao hTo eo att avh auh aWh hTh eh
    -- no doubled is the wish
    refine ⟨(by show 1 ≤ sizeLine; decide), fun p1 n1 => ?_⟩
    have t1 := same_new (o := .tup [.str "no"]) n1
    refine ⟨_, rfl, .ref p1, vW, .n0 "no", W, 0, rfl, aWl.keep (tups_same t1), ⟨p1, rfl, upd_same⟩, no_row, by decide, fun v1 H1' s1' a1 => ?_⟩
    have s11 := t1.trans s1'
    refine ⟨_, rfl, ne_eq (t := W) (u := W) rfl okW lyW (by omega) a1 (aWl.keep (tups_same s11)) ⟨_, rfl, iteF ?_⟩⟩
    -- doubled by no
    have avm := avl.keep (tups_same s11)
    refine ⟨_, rfl, (by show 1 ≤ sizeLine; decide), fun p2 n2 => ?_⟩
    have t2 := same_new (o := .tup [.str "no"]) n2
    refine ⟨(by show 3 ≤ sizeLine; decide), fun p3 n3 => ?_⟩
    have t3 := same_new (o := .tup [.str "if", v, .ref p2]) n3
    refine ⟨(by show 1 ≤ sizeLine; decide), fun p4 n4 => ?_⟩
    have t4 := same_new (o := .tup [.str "no"]) n4
    have t24 := t2.trans (t3.trans t4)
    refine ⟨.ref p3, .ref p4, .n2 "if" t (.n0 "no"), .n0 "no", 0, rfl, ⟨p4, rfl, upd_same⟩, ⟨p3, v, .ref p2, rfl, t4 _ _ upd_same, avm.keep (tups_same t24), ⟨p2, rfl, (t3.trans t4) _ _ upd_same⟩⟩, wb_of (.if sy (.no 0)), ?_, fun v2 H2' s2' a2 => ?_⟩
    · show max t.deep 1 + 1 ≤ 10
      omega
    rw [dbl_if, dbl_no] at a2
    obtain ⟨p, va, vb, rfl, hp, ha, hb2⟩ := a2
    refine ⟨p, _, 2, vb, rfl, rfl, .inl (.inl hp), atI_nat (j := 2) rfl, (by show 1 ≤ sizeLine; decide), fun p5 n5 => ?_⟩
    have t5 := same_new (o := .tup [.str "no"]) n5
    refine ne_eq (t := .n0 "no") (u := .n0 "no") rfl (wb_ok (k := kS) (r := 0) no_row) (wb_lay (k := kS) (r := 0) no_row) (by decide) (hb2.keep (tups_same t5)) ⟨p5, rfl, upd_same⟩ ⟨_, rfl, iteF ?_⟩
    have sl := s11.trans (t24.trans (s2'.trans t5))
    exact ⟨_, _, _, _, _, _, _, _, _, rfl, e0.trans (el.trans (same_extN sl)), hTl.ext sl⟩
  · rintro σ H0 _
    exact q _
end
end Kf
set_option Elab.async false
set_option linter.all false
set_option maxRecDepth 100000
/-! The top, the end. -/
namespace Kf
open PySem PySem.Spec PyProof.Rows L2 Sx _root_.Gd
theorem all_mk {l : PySem.W.OpenLaw} {w : World} {K : PySem.W.Frag} {h : Heap} {mg : Str → Option Value} {fa f1 f2 f3 f4 f5 f6 f7 f8 f9 f10 f11 f12 f13 f14 f15 f16 f17 f18 f19 f20 f21 f22 cw1 PT1 cw2 PT2 : Addr} (X : K.In h) (G : h.Ns mainGlobals mg) (hfa : mg "law" = some (.ref fa)) (own : ∀ nm ∈ [Str.ofString "put_for", Str.ofString "is_word"], ∀ fw, mg nm = some (.ref fw) → LamX.OwnTab K fw h)
    {od1 an1 od2 an2 od3 an3 od4 an4 od5 an5 od6 an6 od7 an7 od8 an8 od9 an9 od10 an10 od11 an11 od12 an12 od13 an13 od14 an14 od15 an15 od16 an16 od17 an17 od18 an18 od19 an19 od20 an20 od21 an21 od22 an22 : Option Addr} {sl1 sl2 sl3 sl4 sl5 sl6 sl7 sl8 sl9 sl10 sl11 sl12 sl13 sl14 sl15 sl16 sl17 sl18 sl19 sl20 sl21 sl22 : Array (Option Value)} {oc1 kV1 dc1 pm1 cd1 ct1 oc2 kV2 dc2 pm2 cd2 ct2 oc3 kV3 dc3 pm3 cd3 ct3 oc4 kV4 dc4 pm4 cd4 ct4 oc5 kV5 dc5 pm5 ct5 oc6 kV6 dc6 pm6 cd6 ct6 oc7 kV7 dc7 pm7 cd7 ct7 oc8 kV8 dc8 pm8 cd8 ct8 oc9 kV9 dc9 pm9 cd9 ct9 oc10 kV10 dc10 pm10 cd10 ct10 oc11 kV11 dc11 pm11 ct11 oc12 kV12 dc12 pm12 cd12 ct12 oc13 kV13 dc13 pm13 cd13 ct13 oc14 kV14 dc14 pm14 cd14 ct14 oc15 kV15 dc15 pm15 cd15 ct15 oc16 kV16 dc16 pm16 cd16 ct16 oc17 kV17 dc17 pm17 cd17 ct17 oc18 kV18 dc18 pm18 cd18 ct18 oc19 kV19 dc19 pm19 cd19 ct19 oc20 kV20 dc20 pm20 cd20 ct20 oc21 kV21 dc21 pm21 cd21 ct21 oc22 kV22 dc22 pm22 cd22 ct22 : Value}
    {ddC1 ddC2 : Option Addr} {slC1 slC2 : Array (Option Value)} {tf1 tg1 tt1 tf2 tg2 tt2 : Tok} {vs1 vs2 : Array Value} {flags1 text1 flags2 text2 : Int} {file1 file2 : Str} {inF1 inF2 : Bool}
    (a1 : PySem.W.nsIn K mainGlobals "beneath" = some (some (.ref f1))) (l1 : K.lookup f1 = some ⟨oc1, od1, .func (PySem.W.fnOf "beneath" "beneath" (defArgs sBeneath) (defBody sBeneath) (defScope sBeneath) .none kV1 dc1 pm1 an1 cd1 ct1), sl1⟩) (c1 : PySem.W.codeIn K cd1 "beneath" = true) (k1 : PySem.W.keepIn K (.ref f1) = true)
    (a2 : PySem.W.nsIn K mainGlobals "pieces_of" = some (some (.ref f2))) (l2 : K.lookup f2 = some ⟨oc2, od2, .func (PySem.W.fnOf "pieces_of" "pieces_of" (defArgs sPieces) (defBody sPieces) (defScope sPieces) .none kV2 dc2 pm2 an2 cd2 ct2), sl2⟩) (c2 : PySem.W.codeIn K cd2 "pieces_of" = true) (k2 : PySem.W.keepIn K (.ref f2) = true)
    (a3 : PySem.W.nsIn K mainGlobals "changed" = some (some (.ref f3))) (l3 : K.lookup f3 = some ⟨oc3, od3, .func (PySem.W.fnOf "changed" "changed" (defArgs sChanged) (defBody sChanged) (defScope sChanged) .none kV3 dc3 pm3 an3 cd3 ct3), sl3⟩) (c3 : PySem.W.codeIn K cd3 "changed" = true) (k3 : PySem.W.keepIn K (.ref f3) = true)
    (a4 : PySem.W.nsIn K mainGlobals "is_whole" = some (some (.ref f4))) (l4 : K.lookup f4 = some ⟨oc4, od4, .func (PySem.W.fnOf "is_whole" "is_whole" (defArgs sWhole) (defBody sWhole) (defScope sWhole) .none kV4 dc4 pm4 an4 cd4 ct4), sl4⟩) (c4 : PySem.W.codeIn K cd4 "is_whole" = true) (k4 : PySem.W.keepIn K (.ref f4) = true)
    (a5 : PySem.W.nsIn K mainGlobals "is_word" = some (some (.ref f5))) (l5 : K.lookup f5 = some ⟨oc5, od5, .func (PySem.W.fnOf "is_word" "is_word" (defArgs sWord) (defBody sWord) (defScope sWord) .none kV5 dc5 pm5 an5 (.ref cw2) ct5), sl5⟩) (c5 : PySem.W.codeIn K (.ref cw2) "is_word" = true) (k5 : PySem.W.keepIn K (.ref f5) = true)
    (a6 : PySem.W.nsIn K mainGlobals "is_leaf" = some (some (.ref f6))) (l6 : K.lookup f6 = some ⟨oc6, od6, .func (PySem.W.fnOf "is_leaf" "is_leaf" (defArgs sIsLeaf) (defBody sIsLeaf) (defScope sIsLeaf) .none kV6 dc6 pm6 an6 cd6 ct6), sl6⟩) (c6 : PySem.W.codeIn K cd6 "is_leaf" = true) (k6 : PySem.W.keepIn K (.ref f6) = true)
    (a7 : PySem.W.nsIn K mainGlobals "has_form" = some (some (.ref f7))) (l7 : K.lookup f7 = some ⟨oc7, od7, .func (PySem.W.fnOf "has_form" "has_form" (defArgs sForm) (defBody sForm) (defScope sForm) .none kV7 dc7 pm7 an7 cd7 ct7), sl7⟩) (c7 : PySem.W.codeIn K cd7 "has_form" = true) (k7 : PySem.W.keepIn K (.ref f7) = true)
    (a8 : PySem.W.nsIn K mainGlobals "is_made" = some (some (.ref f8))) (l8 : K.lookup f8 = some ⟨oc8, od8, .func (PySem.W.fnOf "is_made" "is_made" (defArgs sMade) (defBody sMade) (defScope sMade) .none kV8 dc8 pm8 an8 cd8 ct8), sl8⟩) (c8 : PySem.W.codeIn K cd8 "is_made" = true) (k8 : PySem.W.keepIn K (.ref f8) = true)
    (a9 : PySem.W.nsIn K mainGlobals "is_saying" = some (some (.ref f9))) (l9 : K.lookup f9 = some ⟨oc9, od9, .func (PySem.W.fnOf "is_saying" "is_saying" (defArgs sSayingQ) (defBody sSayingQ) (defScope sSayingQ) .none kV9 dc9 pm9 an9 cd9 ct9), sl9⟩) (c9 : PySem.W.codeIn K cd9 "is_saying" = true) (k9 : PySem.W.keepIn K (.ref f9) = true)
    (a10 : PySem.W.nsIn K mainGlobals "names_in" = some (some (.ref f10))) (l10 : K.lookup f10 = some ⟨oc10, od10, .func (PySem.W.fnOf "names_in" "names_in" (defArgs sNamesIn) (defBody sNamesIn) (defScope sNamesIn) .none kV10 dc10 pm10 an10 cd10 ct10), sl10⟩) (c10 : PySem.W.codeIn K cd10 "names_in" = true) (k10 : PySem.W.keepIn K (.ref f10) = true)
    (a11 : PySem.W.nsIn K mainGlobals "put_for" = some (some (.ref f11))) (l11 : K.lookup f11 = some ⟨oc11, od11, .func (PySem.W.fnOf "put_for" "put_for" (defArgs sPutFor) (defBody sPutFor) (defScope sPutFor) .none kV11 dc11 pm11 an11 (.ref cw1) ct11), sl11⟩) (c11 : PySem.W.codeIn K (.ref cw1) "put_for" = true) (k11 : PySem.W.keepIn K (.ref f11) = true)
    (a12 : PySem.W.nsIn K mainGlobals "sayings_of" = some (some (.ref f12))) (l12 : K.lookup f12 = some ⟨oc12, od12, .func (PySem.W.fnOf "sayings_of" "sayings_of" (defArgs sOf) (defBody sOf) (defScope sOf) .none kV12 dc12 pm12 an12 cd12 ct12), sl12⟩) (c12 : PySem.W.codeIn K cd12 "sayings_of" = true) (k12 : PySem.W.keepIn K (.ref f12) = true)
    (a13 : PySem.W.nsIn K mainGlobals "doubled" = some (some (.ref f13))) (l13 : K.lookup f13 = some ⟨oc13, od13, .func (PySem.W.fnOf "doubled" "doubled" (defArgs sDoubled) (defBody sDoubled) (defScope sDoubled) .none kV13 dc13 pm13 an13 cd13 ct13), sl13⟩) (c13 : PySem.W.codeIn K cd13 "doubled" = true) (k13 : PySem.W.keepIn K (.ref f13) = true)
    (a14 : PySem.W.nsIn K mainGlobals "_law_feed" = some (some (.ref f14))) (l14 : K.lookup f14 = some ⟨oc14, od14, .func (PySem.W.fnOf "_law_feed" "_law_feed" (defArgs sFeed) (defBody sFeed) (defScope sFeed) .none kV14 dc14 pm14 an14 cd14 ct14), sl14⟩) (c14 : PySem.W.codeIn K cd14 "_law_feed" = true) (k14 : PySem.W.keepIn K (.ref f14) = true)
    (a15 : PySem.W.nsIn K mainGlobals "_law_take" = some (some (.ref f15))) (l15 : K.lookup f15 = some ⟨oc15, od15, .func (PySem.W.fnOf "_law_take" "_law_take" (defArgs sTake) (defBody sTake) (defScope sTake) .none kV15 dc15 pm15 an15 cd15 ct15), sl15⟩) (c15 : PySem.W.codeIn K cd15 "_law_take" = true) (k15 : PySem.W.keepIn K (.ref f15) = true)
    (a16 : PySem.W.nsIn K mainGlobals "_law_pick" = some (some (.ref f16))) (l16 : K.lookup f16 = some ⟨oc16, od16, .func (PySem.W.fnOf "_law_pick" "_law_pick" (defArgs sPick) (defBody sPick) (defScope sPick) .none kV16 dc16 pm16 an16 cd16 ct16), sl16⟩) (c16 : PySem.W.codeIn K cd16 "_law_pick" = true) (k16 : PySem.W.keepIn K (.ref f16) = true)
    (a17 : PySem.W.nsIn K mainGlobals "_law_turned" = some (some (.ref f17))) (l17 : K.lookup f17 = some ⟨oc17, od17, .func (PySem.W.fnOf "_law_turned" "_law_turned" (defArgs sLP) (defBody sLP) (defScope sLP) .none kV17 dc17 pm17 an17 cd17 ct17), sl17⟩) (c17 : PySem.W.codeIn K cd17 "_law_turned" = true) (k17 : PySem.W.keepIn K (.ref f17) = true)
    (a18 : PySem.W.nsIn K mainGlobals "_law_names" = some (some (.ref f18))) (l18 : K.lookup f18 = some ⟨oc18, od18, .func (PySem.W.fnOf "_law_names" "_law_names" (defArgs sLN) (defBody sLN) (defScope sLN) .none kV18 dc18 pm18 an18 cd18 ct18), sl18⟩) (c18 : PySem.W.codeIn K cd18 "_law_names" = true) (k18 : PySem.W.keepIn K (.ref f18) = true)
    (a19 : PySem.W.nsIn K mainGlobals "_law_term" = some (some (.ref f19))) (l19 : K.lookup f19 = some ⟨oc19, od19, .func (PySem.W.fnOf "_law_term" "_law_term" (defArgs sTerm) (defBody sTerm) (defScope sTerm) .none kV19 dc19 pm19 an19 cd19 ct19), sl19⟩) (c19 : PySem.W.codeIn K cd19 "_law_term" = true) (k19 : PySem.W.keepIn K (.ref f19) = true)
    (a20 : PySem.W.nsIn K mainGlobals "_law_saying" = some (some (.ref f20))) (l20 : K.lookup f20 = some ⟨oc20, od20, .func (PySem.W.fnOf "_law_saying" "_law_saying" (defArgs sSaying) (defBody sSaying) (defScope sSaying) .none kV20 dc20 pm20 an20 cd20 ct20), sl20⟩) (c20 : PySem.W.codeIn K cd20 "_law_saying" = true) (k20 : PySem.W.keepIn K (.ref f20) = true)
    (a21 : PySem.W.nsIn K mainGlobals "_law_doubled" = some (some (.ref f21))) (l21 : K.lookup f21 = some ⟨oc21, od21, .func (PySem.W.fnOf "_law_doubled" "_law_doubled" (defArgs sLDb) (defBody sLDb) (defScope sLDb) .none kV21 dc21 pm21 an21 cd21 ct21), sl21⟩) (c21 : PySem.W.codeIn K cd21 "_law_doubled" = true) (k21 : PySem.W.keepIn K (.ref f21) = true)
    (a22 : PySem.W.nsIn K mainGlobals "law" = some (some (.ref f22))) (l22 : K.lookup f22 = some ⟨oc22, od22, .func (PySem.W.fnOf "law" "law" (defArgs sLaw) (defBody sLaw) (defScope sLaw) .none kV22 dc22 pm22 an22 cd22 ct22), sl22⟩) (c22 : PySem.W.codeIn K cd22 "law" = true) (k22 : PySem.W.keepIn K (.ref f22) = true)
    (zrange : PySem.W.nsIn K mainGlobals "range" = some none)
    (zmax : PySem.W.nsIn K mainGlobals "max" = some none)
    (zmin : PySem.W.nsIn K mainGlobals "min" = some none)
    (zlen : PySem.W.nsIn K mainGlobals "len" = some none)
    (zabs : PySem.W.nsIn K mainGlobals "abs" = some none)
    (zisinstance : PySem.W.nsIn K mainGlobals "isinstance" = some none)
    (zint : PySem.W.nsIn K mainGlobals "int" = some none)
    (zbool : PySem.W.nsIn K mainGlobals "bool" = some none)
    (zstr : PySem.W.nsIn K mainGlobals "str" = some none)
    (ztuple : PySem.W.nsIn K mainGlobals "tuple" = some none)
    (zall : PySem.W.nsIn K mainGlobals "all" = some none)
    (zzip : PySem.W.nsIn K mainGlobals "zip" = some none)
    (zrepr : PySem.W.nsIn K mainGlobals "repr" = some none)
    (zlist : PySem.W.nsIn K mainGlobals "list" = some none)
    (zset : PySem.W.nsIn K mainGlobals "set" = some none)
    (zsorted : PySem.W.nsIn K mainGlobals "sorted" = some none)
    {FV ga1 gb1 ga2 gb2 ga3 gb3 ga4 gb4 ga5 gb5 ga6 gb6 ga7 gb7 ga8 gb8 ga9 gb9 ga10 gb10 : Addr} {da1 db1 da2 db2 da3 db3 da4 db4 da5 db5 da6 db6 da7 db7 da8 db8 da9 db9 da10 db10 : Option Addr} {sa1 sb1 sa2 sb2 sa3 sb3 sa4 sb4 sa5 sb5 sa6 sb6 sa7 sb7 sa8 sb8 sa9 sb9 sa10 sb10 : Array (Option Value)} {nF na1 nb1 na2 nb2 na3 nb3 na4 nb4 na5 nb5 na6 nb6 na7 nb7 na8 nb8 na9 nb9 na10 nb10 : Nat} {ta1 tb1 ta2 tb2 tc2 ta3 tb3 tc3 ta4 tb4 tc4 ta5 ta6 tb6 tc6 ta7 tb7 tc7 ta8 tb8 tc8 ta9 tb9 ta10 tb10 : Tok} {es : Array DictEntry} (aF : PySem.W.nsIn K mainGlobals "FORMS" = some (some (.ref FV))) (oF : K.lookup FV = some ⟨.type "dict", none, .dict es nF, #[]⟩) (litF : PySem.W.KeysLit w.params es.toList) (lowF : (FV == sysModules) = false)
    (n1 : PySem.W.nsIn K FV "next" = some (some (.ref ga1))) (p1 : K.lookup ga1 = some ⟨.type "tuple", da1, .seq #[.str "term" ta1, .ref gb1] na1, sa1⟩) (q1 : K.lookup gb1 = some ⟨.type "tuple", db1, .seq #[.str "term" tb1] nb1, sb1⟩)
    (n2 : PySem.W.nsIn K FV "plus" = some (some (.ref ga2))) (p2 : K.lookup ga2 = some ⟨.type "tuple", da2, .seq #[.str "term" ta2, .ref gb2] na2, sa2⟩) (q2 : K.lookup gb2 = some ⟨.type "tuple", db2, .seq #[.str "term" tb2, .str "term" tc2] nb2, sb2⟩)
    (n3 : PySem.W.nsIn K FV "times" = some (some (.ref ga3))) (p3 : K.lookup ga3 = some ⟨.type "tuple", da3, .seq #[.str "term" ta3, .ref gb3] na3, sa3⟩) (q3 : K.lookup gb3 = some ⟨.type "tuple", db3, .seq #[.str "term" tb3, .str "term" tc3] nb3, sb3⟩)
    (n4 : PySem.W.nsIn K FV "same" = some (some (.ref ga4))) (p4 : K.lookup ga4 = some ⟨.type "tuple", da4, .seq #[.str "saying" ta4, .ref gb4] na4, sa4⟩) (q4 : K.lookup gb4 = some ⟨.type "tuple", db4, .seq #[.str "term" tb4, .str "term" tc4] nb4, sb4⟩)
    (n5 : PySem.W.nsIn K FV "no" = some (some (.ref ga5))) (p5 : K.lookup ga5 = some ⟨.type "tuple", da5, .seq #[.str "saying" ta5, .ref gb5] na5, sa5⟩) (q5 : K.lookup gb5 = some ⟨.type "tuple", db5, .seq #[] nb5, sb5⟩)
    (n6 : PySem.W.nsIn K FV "and" = some (some (.ref ga6))) (p6 : K.lookup ga6 = some ⟨.type "tuple", da6, .seq #[.str "saying" ta6, .ref gb6] na6, sa6⟩) (q6 : K.lookup gb6 = some ⟨.type "tuple", db6, .seq #[.str "saying" tb6, .str "saying" tc6] nb6, sb6⟩)
    (n7 : PySem.W.nsIn K FV "or" = some (some (.ref ga7))) (p7 : K.lookup ga7 = some ⟨.type "tuple", da7, .seq #[.str "saying" ta7, .ref gb7] na7, sa7⟩) (q7 : K.lookup gb7 = some ⟨.type "tuple", db7, .seq #[.str "saying" tb7, .str "saying" tc7] nb7, sb7⟩)
    (n8 : PySem.W.nsIn K FV "if" = some (some (.ref ga8))) (p8 : K.lookup ga8 = some ⟨.type "tuple", da8, .seq #[.str "saying" ta8, .ref gb8] na8, sa8⟩) (q8 : K.lookup gb8 = some ⟨.type "tuple", db8, .seq #[.str "saying" tb8, .str "saying" tc8] nb8, sb8⟩)
    (n9 : PySem.W.nsIn K FV "all" = some (some (.ref ga9))) (p9 : K.lookup ga9 = some ⟨.type "tuple", da9, .seq #[.str "saying" ta9, .ref gb9] na9, sa9⟩) (q9 : K.lookup gb9 = some ⟨.type "tuple", db9, .seq #[.str "saying" tb9] nb9, sb9⟩)
    (n10 : PySem.W.nsIn K FV "some" = some (some (.ref ga10))) (p10 : K.lookup ga10 = some ⟨.type "tuple", da10, .seq #[.str "saying" ta10, .ref gb10] na10, sa10⟩) (q10 : K.lookup gb10 = some ⟨.type "tuple", db10, .seq #[.str "saying" tb10] nb10, sb10⟩)
    {LV BV : Addr} {ddL ddB : Option Addr} {slL slB : Array (Option Value)} {nL nB : Nat} {t1 t2 t3 t4 t5 : Tok} (aL : PySem.W.nsIn K mainGlobals "LEAVES" = some (some (.ref LV))) (oL : K.lookup LV = some ⟨.type "tuple", ddL, .seq #[.str "num" t1, .str "name" t2, .str "bound" t3] nL, slL⟩) (aB : PySem.W.nsIn K mainGlobals "BINDERS" = some (some (.ref BV))) (oB : K.lookup BV = some ⟨.type "tuple", ddB, .seq #[.str "all" t4, .str "some" t5] nB, slB⟩)
    {gN : Int} {tG tT tM tP tW : Tok} (aG : PySem.W.nsIn K mainGlobals "TOO_GREAT" = some (some (.int gN tG))) (eG : gN = 10 ^ 60) (aT : PySem.W.nsIn K mainGlobals "LETTERS" = some (some (.str abc tT))) (aM : PySem.W.nsIn K mainGlobals "MOST_LETTERS" = some (some (.int 8 tM))) (aP : PySem.W.nsIn K mainGlobals "MOST_PIECES" = some (some (.int 400 tP))) (aW : PySem.W.nsIn K mainGlobals "MOST_WITHIN" = some (some (.int 60 tW)))
    {CW CR : Addr} {g1 g2 g3 g4 : Addr} {mo1 mn1 mo2 mn2 mo3 mn3 mo4 mn4 : Option Addr} {ms1 ms2 ms3 ms4 : Array (Option Value)} {mc1 mk1 md1 mp1 me1 mt1 mc2 mk2 md2 mp2 me2 mt2 mc3 mk3 md3 mp3 me3 mt3 mc4 mk4 md4 mp4 me4 mt4 : Value} (aCW : PySem.W.nsIn K mainGlobals "Words" = some (some (.ref CW))) (aCR : PySem.W.nsIn K mainGlobals "Wish" = some (some (.ref CR)))
    (fa1 : PySem.W.findIn K (.ref CW) "__init__" = some (some (.ref g1))) (fi1 : PySem.W.isFn K (.ref g1) = true) (fl1 : K.lookup g1 = some ⟨mc1, mo1, .func (PySem.W.fnOf "__init__" "Words.__init__" (defArgs sWInit) (defBody sWInit) (defScope sWInit) .none mk1 md1 mp1 mn1 me1 mt1), ms1⟩) (fc1 : PySem.W.codeIn K me1 "Words.__init__" = true) (fk1 : PySem.W.keepIn K (.ref g1) = true)
    (fa2 : PySem.W.findIn K (.ref CR) "__init__" = some (some (.ref g2))) (fi2 : PySem.W.isFn K (.ref g2) = true) (fl2 : K.lookup g2 = some ⟨mc2, mo2, .func (PySem.W.fnOf "__init__" "Wish.__init__" (defArgs sInit) (defBody sInit) (defScope sInit) .none mk2 md2 mp2 mn2 me2 mt2), ms2⟩) (fc2 : PySem.W.codeIn K me2 "Wish.__init__" = true) (fk2 : PySem.W.keepIn K (.ref g2) = true)
    (fa3 : PySem.W.findIn K (.ref CR) "from_it" = some (some (.ref g3))) (fi3 : PySem.W.isFn K (.ref g3) = true) (fl3 : K.lookup g3 = some ⟨mc3, mo3, .func (PySem.W.fnOf "from_it" "Wish.from_it" (defArgs sFrom) (defBody sFrom) (defScope sFrom) .none mk3 md3 mp3 mn3 me3 mt3), ms3⟩) (fc3 : PySem.W.codeIn K me3 "Wish.from_it" = true) (fk3 : PySem.W.keepIn K (.ref g3) = true)
    (fa4 : PySem.W.findIn K (.ref CR) "doubled" = some (some (.ref g4))) (fi4 : PySem.W.isFn K (.ref g4) = true) (fl4 : K.lookup g4 = some ⟨mc4, mo4, .func (PySem.W.fnOf "doubled" "Wish.doubled" (defArgs sMDoubled) (defBody sMDoubled) (defScope sMDoubled) .none mk4 md4 mp4 mn4 me4 mt4), ms4⟩) (fc4 : PySem.W.codeIn K me4 "Wish.doubled" = true) (fk4 : PySem.W.keepIn K (.ref g4) = true)
    (pgW : PySem.W.plainGet K CW Str.empty = true) (hdW : PySem.W.hasDictIn K CW = true) (poW : PySem.W.plainOver K CW = true) (saW : PySem.W.findIn K (.ref CW) "__setattr__" = some (some (.builtin "object.__setattr__"))) (mkW : PySem.W.makesIn K CW = true) (kcW : PySem.W.keepIn K (.ref CW) = true)
    (pgR : PySem.W.plainGet K CR Str.empty = true) (hdR : PySem.W.hasDictIn K CR = true) (poR : PySem.W.plainOver K CR = true) (saR : PySem.W.findIn K (.ref CR) "__setattr__" = some (some (.builtin "object.__setattr__"))) (mkR : PySem.W.makesIn K CR = true) (kcR : PySem.W.keepIn K (.ref CR) = true)
    (hNU : PySem.W.findIn K (.ref CW) "used" = some none) (hNT : PySem.W.findIn K (.ref CW) "tried" = some none) (hNS : PySem.W.findIn K (.ref CR) "saying" = some none) (hNW : PySem.W.findIn K (.ref CR) "words" = some none)
    (lC1 : K.lookup cw1 = some ⟨.type "code", ddC1, .fields vs1, slC1⟩) (v111 : vs1[11]? = some (.ref PT1)) (g111 : vs1.getD 11 .none = .ref PT1) (g181 : vs1.getD 18 .none = .str file1 tf1) (g71 : vs1.getD 7 .none = .int flags1 tg1) (g91 : vs1.getD 9 .none = .bool inF1) (g101 : vs1.getD 10 .none = .int text1 tt1) (ncp1 : cw1 ≠ PT1) (nPT1 : K.lookup PT1 = none)
    (lC2 : K.lookup cw2 = some ⟨.type "code", ddC2, .fields vs2, slC2⟩) (v112 : vs2[11]? = some (.ref PT2)) (g112 : vs2.getD 11 .none = .ref PT2) (g182 : vs2.getD 18 .none = .str file2 tf2) (g72 : vs2.getD 7 .none = .int flags2 tg2) (g92 : vs2.getD 9 .none = .bool inF2) (g102 : vs2.getD 10 .none = .int text2 tt2) (ncp2 : cw2 ≠ PT2) (nPT2 : K.lookup PT2 = none)
    (far12 : PT1 ≠ PT2) :
    LawG l w K 14 63 "script" mg fa h := by
  have e := hfa.symm.trans (PySem.W.mg_of X G a22)
  cases e
  have F1 := fun_mk (st := sBeneath) l1 c1 k1
  have b1 := F1.binds (ps := ["piece", "around"]) fun _ _ _ _ _ _ us hl => match us, hl with | [_, _], _ => rfl
  have m1 := PySem.W.mg_of X G a1
  have F2 := fun_mk (st := sPieces) l2 c2 k2
  have b2 := F2.binds (ps := ["thing"]) fun _ _ _ _ _ _ us hl => match us, hl with | [_], _ => rfl
  have m2 := PySem.W.mg_of X G a2
  have F3 := fun_mk (st := sChanged) l3 c3 k3
  have b3 := F3.binds (ps := ["thing", "leaf"]) fun _ _ _ _ _ _ us hl => match us, hl with | [_, _], _ => rfl
  have m3 := PySem.W.mg_of X G a3
  have F4 := fun_mk (st := sWhole) l4 c4 k4
  have b4 := F4.binds (ps := ["thing"]) fun _ _ _ _ _ _ us hl => match us, hl with | [_], _ => rfl
  have m4 := PySem.W.mg_of X G a4
  have F5 := fun_mk (st := sWord) l5 c5 k5
  have b5 := F5.binds (ps := ["thing"]) fun _ _ _ _ _ _ us hl => match us, hl with | [_], _ => rfl
  have m5 := PySem.W.mg_of X G a5
  have F6 := fun_mk (st := sIsLeaf) l6 c6 k6
  have b6 := F6.binds (ps := ["piece", "bounds"]) fun _ _ _ _ _ _ us hl => match us, hl with | [_, _], _ => rfl
  have m6 := PySem.W.mg_of X G a6
  have F7 := fun_mk (st := sForm) l7 c7 k7
  have b7 := F7.binds (ps := ["piece", "kind", "bounds"]) fun _ _ _ _ _ _ us hl => match us, hl with | [_, _, _], _ => rfl
  have m7 := PySem.W.mg_of X G a7
  have F8 := fun_mk (st := sMade) l8 c8 k8
  have b8 := F8.binds (ps := ["thing", "kind", "slack"]) fun _ _ _ _ _ _ us hl => match us, hl with | [_, _, _], _ => rfl
  have m8 := PySem.W.mg_of X G a8
  have F9 := fun_mk (st := sSayingQ) l9 c9 k9
  have b9 := F9.binds (ps := ["thing"]) fun _ _ _ _ _ _ us hl => match us, hl with | [_], _ => rfl
  have m9 := PySem.W.mg_of X G a9
  have F10 := fun_mk (st := sNamesIn) l10 c10 k10
  have b10 := F10.binds (ps := ["thing"]) fun _ _ _ _ _ _ us hl => match us, hl with | [_], _ => rfl
  have m10 := PySem.W.mg_of X G a10
  have F11 := fun_mk (st := sPutFor) l11 c11 k11
  have b11 := F11.binds (ps := ["saying", "name", "term"]) fun _ _ _ _ _ _ us hl => match us, hl with | [_, _, _], _ => rfl
  have m11 := PySem.W.mg_of X G a11
  have F12 := fun_mk (st := sOf) l12 c12 k12
  have b12 := F12.binds (ps := ["saying"]) fun _ _ _ _ _ _ us hl => match us, hl with | [_], _ => rfl
  have m12 := PySem.W.mg_of X G a12
  have F13 := fun_mk (st := sDoubled) l13 c13 k13
  have b13 := F13.binds (ps := ["saying", "wish"]) fun _ _ _ _ _ _ us hl => match us, hl with | [_, _], _ => rfl
  have m13 := PySem.W.mg_of X G a13
  have F14 := fun_mk (st := sFeed) l14 c14 k14
  have b14 := F14.binds (ps := ["script", "k"]) fun _ _ _ _ _ _ us hl => match us, hl with | [_, _], _ => rfl
  have m14 := PySem.W.mg_of X G a14
  have F15 := fun_mk (st := sTake) l15 c15 k15
  have b15 := F15.binds (ps := ["feed", "many"]) fun _ _ _ _ _ _ us hl => match us, hl with | [_, _], _ => rfl
  have m15 := PySem.W.mg_of X G a15
  have F16 := fun_mk (st := sPick) l16 c16 k16
  have b16 := F16.binds (ps := ["feed", "some"]) fun _ _ _ _ _ _ us hl => match us, hl with | [_, _], _ => rfl
  have m16 := PySem.W.mg_of X G a16
  have F17 := fun_mk (st := sLP) l17 c17 k17
  have b17 := F17.binds (ps := ["thing", "old", "new", "deep"]) fun _ _ _ _ _ _ us hl => match us, hl with | [_, _, _, _], _ => rfl
  have m17 := PySem.W.mg_of X G a17
  have F18 := fun_mk (st := sLN) l18 c18 k18
  have b18 := F18.binds (ps := ["thing"]) fun _ _ _ _ _ _ us hl => match us, hl with | [_], _ => rfl
  have m18 := PySem.W.mg_of X G a18
  have F19 := fun_mk (st := sTerm) l19 c19 k19
  have b19 := F19.binds (ps := ["feed", "deep"]) fun _ _ _ _ _ _ us hl => match us, hl with | [_, _], _ => rfl
  have m19 := PySem.W.mg_of X G a19
  have F20 := fun_mk (st := sSaying) l20 c20 k20
  have b20 := F20.binds (ps := ["feed", "deep"]) fun _ _ _ _ _ _ us hl => match us, hl with | [_, _], _ => rfl
  have m20 := PySem.W.mg_of X G a20
  have F21 := fun_mk (st := sLDb) l21 c21 k21
  have b21 := F21.binds (ps := ["saying", "wish"]) fun _ _ _ _ _ _ us hl => match us, hl with | [_, _], _ => rfl
  have m21 := PySem.W.mg_of X G a21
  have F22 := fun_mk (st := sLaw) l22 c22 k22
  have m22 := PySem.W.mg_of X G a22
  have grange := PySem.W.mg_none_of X G zrange
  have gmax := PySem.W.mg_none_of X G zmax
  have gmin := PySem.W.mg_none_of X G zmin
  have glen := PySem.W.mg_none_of X G zlen
  have gabs := PySem.W.mg_none_of X G zabs
  have gisinstance := PySem.W.mg_none_of X G zisinstance
  have gint := PySem.W.mg_none_of X G zint
  have gbool := PySem.W.mg_none_of X G zbool
  have gstr := PySem.W.mg_none_of X G zstr
  have gtuple := PySem.W.mg_none_of X G ztuple
  have gall := PySem.W.mg_none_of X G zall
  have gzip := PySem.W.mg_none_of X G zzip
  have grepr := PySem.W.mg_none_of X G zrepr
  have glist := PySem.W.mg_none_of X G zlist
  have gset := PySem.W.mg_none_of X G zset
  have gsorted := PySem.W.mg_none_of X G zsorted
  have empty1 : h.get? PT1 = some { cls := .none, data := .fields #[] } := own _ List.mem_cons_self f11 m11 cw1 PT1 _ _ _ _ _ _ l11 rfl rfl lC1 v111
  have empty2 : h.get? PT2 = some { cls := .none, data := .fields #[] } := own _ (List.mem_cons_of_mem _ List.mem_cons_self) f5 m5 cw2 PT2 _ _ _ _ _ _ l5 rfl rfl lC2 v112
  have hE : ∀ p ∈ ([(cw1, PT1), (cw2, PT2)] : List (Addr × Addr)), h.get? p.2 = some { cls := .none, data := .fields #[] } := by
    intro p hp
    rcases List.mem_cons.mp hp with e | hp
    · cases e
      exact empty1
    · cases List.mem_singleton.mp hp
      exact empty2
  have hN : ∀ p ∈ ([(cw1, PT1), (cw2, PT2)] : List (Addr × Addr)), K.lookup p.2 = none := by
    intro p hp
    rcases List.mem_cons.mp hp with e | hp
    · cases e
      exact nPT1
    · cases List.mem_singleton.mp hp
      exact nPT2
  have hC : ∀ p ∈ ([(cw1, PT1), (cw2, PT2)] : List (Addr × Addr)), PySem.W.CodeHd h p.1 p.2 := by
    intro p hp
    rcases List.mem_cons.mp hp with e | hp
    · cases e
      exact ⟨_, vs1, file1, tf1, flags1, tg1, inF1, text1, tt1, X _ _ lC1, rfl, rfl, v111, g111, g181, g71, g91, g101, ncp1⟩
    · cases List.mem_singleton.mp hp
      exact ⟨_, vs2, file2, tf2, flags2, tg2, inF2, text2, tt2, X _ _ lC2, rfl, rfl, v112, g112, g182, g72, g92, g102, ncp2⟩
  have hT : ∀ H : Hp, (∀ p ∈ ([(cw1, PT1), (cw2, PT2)] : List (Addr × Addr)), H p.2 = some (.tbl #[])) → LamX.Tabs ([(PT1, lq "put_for")] : List (Addr × Str)) H := by
    intro H ht p hp
    · cases List.mem_singleton.mp hp
      exact LamX.TabS.nil (ht (cw1, PT1) List.mem_cons_self)
  have hu1 : ∀ p ∈ ([(PT1, lq "put_for")] : List (Addr × Str)), p.1 = PT1 → p.2 = lq "put_for" := by
    intro p hp e1
    · cases List.mem_singleton.mp hp
      exact rfl
  have out2 : ∀ p ∈ ([(PT1, lq "put_for")] : List (Addr × Str)), p.1 ≠ PT2 := by
    intro p hp
    · cases List.mem_singleton.mp hp
      exact far12
  refine ⟨PySem.W.fnOf "law" "law" (defArgs sLaw) (defBody sLaw) (defScope sLaw) .none kV22 dc22 pm22 an22 cd22 ct22, [(cw1, PT1), (cw2, PT2)], spLaw K [(PT1, lq "put_for")] PT2, hE, hN, hC, fun s v => .of_eq rfl,
    fun H a ns hl hb ht hS => ⟨a, ns, rfl, hS, hl, hb, ⟨hT H ht, ⟨#[], ht (cw2, PT2) (List.mem_cons_of_mem _ List.mem_cons_self), trivial⟩⟩, fun _ => rfl⟩, fun base _ _ tabs => ?_⟩
  have tab1 : LamX.TabB base mg cw1 PT1 := tabs (cw1, PT1) List.mem_cons_self
  have tab2 : GxR.TabB base mg cw2 PT2 := by
    have t := tabs (cw2, PT2) (List.mem_cons_of_mem _ List.mem_cons_self)
    exact ⟨t.code, t.bm, t.gP⟩
  have G1 := fun_mk (st := sWInit) fl1 fc1 fk1
  have mb1 := G1.binds (ps := ["self", "used"]) fun _ _ _ _ _ _ us hl => match us, hl with | [_, _], _ => rfl
  have G2 := fun_mk (st := sInit) fl2 fc2 fk2
  have mb2 := G2.binds (ps := ["self", "saying", "used"]) fun _ _ _ _ _ _ us hl => match us, hl with | [_, _, _], _ => rfl
  have G3 := fun_mk (st := sFrom) fl3 fc3 fk3
  have mb3 := G3.binds (ps := ["self", "saying"]) fun _ _ _ _ _ _ us hl => match us, hl with | [_, _], _ => rfl
  have G4 := fun_mk (st := sMDoubled) fl4 fc4 fk4
  have mb4 := G4.binds (ps := ["self", "saying"]) fun _ _ _ _ _ _ us hl => match us, hl with | [_, _], _ => rfl
  have form : ∀ wd k ks, (wd, k, ks) ∈ table → ∃ fa fb, PySem.W.nsIn K FV wd = some (some (.ref fa)) ∧ (∀ H, SqT K H fa [.str k, .ref fb]) ∧ ∀ H, SqT K H fb (ks.map V.str) := by
    intro wd k ks hm
    rcases List.mem_cons.mp hm with e | hm
    · cases e
      exact ⟨_, _, n1, fun H => .inr ⟨_, _, _, p1, rfl, rfl, (by show 2 ≤ sizeLine; decide), .cons ⟨_, rfl⟩ (.cons rfl .nil)⟩, fun H => .inr ⟨_, _, _, q1, rfl, rfl, (by show 1 ≤ sizeLine; decide), .cons ⟨_, rfl⟩ (.nil)⟩⟩
    rcases List.mem_cons.mp hm with e | hm
    · cases e
      exact ⟨_, _, n2, fun H => .inr ⟨_, _, _, p2, rfl, rfl, (by show 2 ≤ sizeLine; decide), .cons ⟨_, rfl⟩ (.cons rfl .nil)⟩, fun H => .inr ⟨_, _, _, q2, rfl, rfl, (by show 2 ≤ sizeLine; decide), .cons ⟨_, rfl⟩ (.cons ⟨_, rfl⟩ (.nil))⟩⟩
    rcases List.mem_cons.mp hm with e | hm
    · cases e
      exact ⟨_, _, n3, fun H => .inr ⟨_, _, _, p3, rfl, rfl, (by show 2 ≤ sizeLine; decide), .cons ⟨_, rfl⟩ (.cons rfl .nil)⟩, fun H => .inr ⟨_, _, _, q3, rfl, rfl, (by show 2 ≤ sizeLine; decide), .cons ⟨_, rfl⟩ (.cons ⟨_, rfl⟩ (.nil))⟩⟩
    rcases List.mem_cons.mp hm with e | hm
    · cases e
      exact ⟨_, _, n4, fun H => .inr ⟨_, _, _, p4, rfl, rfl, (by show 2 ≤ sizeLine; decide), .cons ⟨_, rfl⟩ (.cons rfl .nil)⟩, fun H => .inr ⟨_, _, _, q4, rfl, rfl, (by show 2 ≤ sizeLine; decide), .cons ⟨_, rfl⟩ (.cons ⟨_, rfl⟩ (.nil))⟩⟩
    rcases List.mem_cons.mp hm with e | hm
    · cases e
      exact ⟨_, _, n5, fun H => .inr ⟨_, _, _, p5, rfl, rfl, (by show 2 ≤ sizeLine; decide), .cons ⟨_, rfl⟩ (.cons rfl .nil)⟩, fun H => .inr ⟨_, _, _, q5, rfl, rfl, (by show 0 ≤ sizeLine; decide), .nil⟩⟩
    rcases List.mem_cons.mp hm with e | hm
    · cases e
      exact ⟨_, _, n6, fun H => .inr ⟨_, _, _, p6, rfl, rfl, (by show 2 ≤ sizeLine; decide), .cons ⟨_, rfl⟩ (.cons rfl .nil)⟩, fun H => .inr ⟨_, _, _, q6, rfl, rfl, (by show 2 ≤ sizeLine; decide), .cons ⟨_, rfl⟩ (.cons ⟨_, rfl⟩ (.nil))⟩⟩
    rcases List.mem_cons.mp hm with e | hm
    · cases e
      exact ⟨_, _, n7, fun H => .inr ⟨_, _, _, p7, rfl, rfl, (by show 2 ≤ sizeLine; decide), .cons ⟨_, rfl⟩ (.cons rfl .nil)⟩, fun H => .inr ⟨_, _, _, q7, rfl, rfl, (by show 2 ≤ sizeLine; decide), .cons ⟨_, rfl⟩ (.cons ⟨_, rfl⟩ (.nil))⟩⟩
    rcases List.mem_cons.mp hm with e | hm
    · cases e
      exact ⟨_, _, n8, fun H => .inr ⟨_, _, _, p8, rfl, rfl, (by show 2 ≤ sizeLine; decide), .cons ⟨_, rfl⟩ (.cons rfl .nil)⟩, fun H => .inr ⟨_, _, _, q8, rfl, rfl, (by show 2 ≤ sizeLine; decide), .cons ⟨_, rfl⟩ (.cons ⟨_, rfl⟩ (.nil))⟩⟩
    rcases List.mem_cons.mp hm with e | hm
    · cases e
      exact ⟨_, _, n9, fun H => .inr ⟨_, _, _, p9, rfl, rfl, (by show 2 ≤ sizeLine; decide), .cons ⟨_, rfl⟩ (.cons rfl .nil)⟩, fun H => .inr ⟨_, _, _, q9, rfl, rfl, (by show 1 ≤ sizeLine; decide), .cons ⟨_, rfl⟩ (.nil)⟩⟩
    · cases List.mem_singleton.mp hm
      exact ⟨_, _, n10, fun H => .inr ⟨_, _, _, p10, rfl, rfl, (by show 2 ≤ sizeLine; decide), .cons ⟨_, rfl⟩ (.cons rfl .nil)⟩, fun H => .inr ⟨_, _, _, q10, rfl, rfl, (by show 1 ≤ sizeLine; decide), .cons ⟨_, rfl⟩ (.nil)⟩⟩
  have T : Txt K w mg LV BV FV := ⟨PySem.W.mg_of X G aL, PySem.W.mg_of X G aB, PySem.W.mg_of X G aF, fun H => .inr ⟨_, _, _, oL, rfl, rfl, (by show 3 ≤ sizeLine; decide), .cons ⟨_, rfl⟩ (.cons ⟨_, rfl⟩ (.cons ⟨_, rfl⟩ .nil))⟩, fun H => .inr ⟨_, _, _, oB, rfl, rfl, (by show 2 ≤ sizeLine; decide), .cons ⟨_, rfl⟩ (.cons ⟨_, rfl⟩ .nil)⟩,
    ⟨_, _, oF, litF, lowF⟩, form, ⟨tG, by rw [← eG]; exact PySem.W.mg_of X G aG⟩, ⟨_, PySem.W.mg_of X G aT⟩, ⟨_, PySem.W.mg_of X G aM⟩, ⟨_, PySem.W.mg_of X G aP⟩, ⟨_, PySem.W.mg_of X G aW⟩, gisinstance, gint, gbool, gstr, gtuple, glen, gall, gzip⟩
  have TW : TWs K mg CW CR := ⟨⟨pgW, hdW, poW, saW⟩, ⟨pgR, hdR, poR, saR⟩, hNU, hNT, hNS, hNW, PySem.W.mg_of X G aCW, PySem.W.mg_of X G aCR⟩
  have gTake := ok_take (P := l.prog) (w := w) (base := base) (mg := mg) (j := 0) F15
  have gPick := ok_pick F16 gTake b15 k15 m15 glen
  have D : Draw l.prog w K mg base f15 f16 _ _ := ⟨gTake, b15, k15, m15, gPick, b16, k16, m16⟩
  have gTerm := ok_terms F19 D b19 m19
  have gLP := ok_LPs (P := l.prog) (w := w) (base := base) F17 b17 m17 gint gtuple
  have gSay := ok_sayings F20 D (gTerm 2) b19 k19 m19 (gLP 8) b17 k17 m17 b20 m20
  have gFeed := ok_feed (P := l.prog) (w := w) (base := base) (j := 0) F14 glist gabs gmax
  have gBen := ok_beneath (P := l.prog) (w := w) (base := base) (j := 0) F1 T
  have gWhole := ok_whole (P := l.prog) (w := w) (base := base) (j := 0) F4 T
  have gWord := ok_word (P := l.prog) (w := w) (j := 0) l5 c5 T tab2
  have gIsLeaf := ok_isleaf F6 T gWord b5 k5 m5 gWhole b4 k4 m4
  have gForm := ok_form F7 T gIsLeaf b6 k6 m6
  have gMade := ok_made F8 T gForm b7 k7 m7 gBen b1 k1 m1
  have q2 := ok_sayingQ F9 gMade b8 k8 m8
  have gPie := ok_pieces F2 T gBen b1 k1 m1
  have W : Put l.prog w K mg base [(PT1, lq "put_for")] f3 f2 LV _ _ := ⟨F3, b3, m3, gPie, b2, k2, m2, T.mL, T.leaf, glen⟩
  have gG := ok_putfor l11 c11 tab1 List.mem_cons_self hu1 W (PW := PT2) far12
  have gNames := ok_names F10 gPie b2 k2 m2 gset gsorted
  have gLN := ok_LNs (P := l.prog) (w := w) (base := base) F18 b18 m18
  have gOf := ok_of (P := l.prog) (w := w) (base := base) (j := 0) F12 T
  have gWI := ok_winit (P := l.prog) (w := w) (base := base) G1 TW
  have gI := ok_init G2 TW ⟨mkW, fa1, fi1, kcW⟩ gWI mb1
  have gFr := ok_from (P := l.prog) (w := w) (base := base) G3 TW
  have gDb := ok_doubled F13 TW ⟨mkR, fa2, fi2, kcR⟩ gI mb2 (fun Wt => ok_mds (W := Wt) G4 TW gOf b12 k12 m12 gFr mb3 ⟨fa3, fi3, fk3⟩ mb4 ⟨fa4, fi4, fk4⟩ 10) mb4 ⟨fa4, fi4, fk4⟩
  have gLDb := ok_ldbs (P := l.prog) (w := w) (base := base) F21 b21 m21 gtuple
  exact ok_law F22 ⟨gFeed, b14, k14, m14, gTake, b15, k15, m15, gPick, b16, k16, m16, gSay 5, b20, k20, m20, gDb, b13, k13, m13, gLDb 8, b21, k21, m21, q2, b9, k9, m9, gNames, b10, k10, m10, gLN 8, b18, k18, m18, gG, b11, k11, m11, out2, grange, gmax, gmin, glen, grepr⟩
theorem walk {l : PySem.W.OpenLaw} {q : Program} {loose : List Str} {XP : (Str → Option Value) → Heap → Prop} {YP : World → Heap → Prop} {d : DefRec} {K : Params → PySem.W.Frag} (hn : l.most = some 63) (hdf : d.params.defaults = []) (recs : ∀ nm ∈ [Str.ofString "put_for", Str.ofString "is_word"], ((recsOf q).any fun e => e.name == nm) = true)
    (hY : ∀ (w : World) (h : Heap), YP w h → (K w.params).In h)
    (F : ∀ (w : World) (mg : Str → Option Value) (fa : Addr) (h : Heap), (K w.params).In h → h.Ns mainGlobals mg → mg d.name = some (.ref fa) → (∀ nm ∈ [Str.ofString "put_for", Str.ofString "is_word"], ∀ fw, mg nm = some (.ref fw) → LamX.OwnTab (K w.params) fw h) → LawG l w (K w.params) 14 63 "script" mg fa h) :
    PySem.W.WalkO q loose XP YP l.row.toRowW d [] (fun f vs => PySem.call f vs) :=
  walk_guard [Str.ofString "put_for", Str.ofString "is_word"] hn (by decide) hdf ⟨rfl, by decide, by decide⟩ recs hY (fun w mg fa h _ KX G hm t => F w mg fa h KX G hm t)
end Kf
open PySem PySem.W PyProof.Rows in
set_option maxRecDepth 100000 in
set_option maxHeartbeats 0 in
theorem PySem.Challenge.cw_prooffruit_k70_sayings_doubled_holds : PySem.Challenge.rw_prooffruit_k70_sayings_doubled.Holds := by
  w_on; o_law; k_head; (case hw => w_witness2)
  k_fill
  refine Kf.walk (l := PySem.Challenge.rw_prooffruit_k70_sayings_doubled) rfl rfl (by decide +kernel) (fun w h Y => PySem.W.km_in_of Y) ?F
  case F =>
    intro w mg fa h KX G hmg own
    refine' Kf.all_mk KX G hmg own ?a1 ?l1 ?c1 ?k1 ?a2 ?l2 ?c2 ?k2 ?a3 ?l3 ?c3 ?k3 ?a4 ?l4 ?c4 ?k4 ?a5 ?l5 ?c5 ?k5 ?a6 ?l6 ?c6 ?k6 ?a7 ?l7 ?c7 ?k7 ?a8 ?l8 ?c8 ?k8 ?a9 ?l9 ?c9 ?k9 ?a10 ?l10 ?c10 ?k10 ?a11 ?l11 ?c11 ?k11 ?a12 ?l12 ?c12 ?k12 ?a13 ?l13 ?c13 ?k13 ?a14 ?l14 ?c14 ?k14 ?a15 ?l15 ?c15 ?k15 ?a16 ?l16 ?c16 ?k16 ?a17 ?l17 ?c17 ?k17 ?a18 ?l18 ?c18 ?k18 ?a19 ?l19 ?c19 ?k19 ?a20 ?l20 ?c20 ?k20 ?a21 ?l21 ?c21 ?k21 ?a22 ?l22 ?c22 ?k22 ?zrange ?zmax ?zmin ?zlen ?zabs ?zisinstance ?zint ?zbool ?zstr ?ztuple ?zall ?zzip ?zrepr ?zlist ?zset ?zsorted ?aF ?oF ?litF ?lowF ?n1 ?p1 ?q1 ?n2 ?p2 ?q2 ?n3 ?p3 ?q3 ?n4 ?p4 ?q4 ?n5 ?p5 ?q5 ?n6 ?p6 ?q6 ?n7 ?p7 ?q7 ?n8 ?p8 ?q8 ?n9 ?p9 ?q9 ?n10 ?p10 ?q10 ?aL ?oL ?aB ?oB ?aG ?eG ?aT ?aM ?aP ?aW ?aCW ?aCR ?fa1 ?fi1 ?fl1 ?fc1 ?fk1 ?fa2 ?fi2 ?fl2 ?fc2 ?fk2 ?fa3 ?fi3 ?fl3 ?fc3 ?fk3 ?fa4 ?fi4 ?fl4 ?fc4 ?fk4 ?pgW ?hdW ?poW ?saW ?mkW ?kcW ?pgR ?hdR ?poR ?saR ?mkR ?kcR ?hNU ?hNT ?hNS ?hNW ?lC1 ?v111 ?g111 ?g181 ?g71 ?g91 ?g101 ?ncp1 ?nPT1 ?lC2 ?v112 ?g112 ?g182 ?g72 ?g92 ?g102 ?ncp2 ?nPT2 ?far12
    (case a1 => first | k_is | rfl)
    (case l1 => first | k_is | rfl)
    (case c1 => first | k_is | rfl)
    (case k1 => first | k_is | rfl)
    (case a2 => first | k_is | rfl)
    (case l2 => first | k_is | rfl)
    (case c2 => first | k_is | rfl)
    (case k2 => first | k_is | rfl)
    (case a3 => first | k_is | rfl)
    (case l3 => first | k_is | rfl)
    (case c3 => first | k_is | rfl)
    (case k3 => first | k_is | rfl)
    (case a4 => first | k_is | rfl)
    (case l4 => first | k_is | rfl)
    (case c4 => first | k_is | rfl)
    (case k4 => first | k_is | rfl)
    (case a5 => first | k_is | rfl)
    (case l5 => first | k_is | rfl)
    (case c5 => first | k_is | rfl)
    (case k5 => first | k_is | rfl)
    (case a6 => first | k_is | rfl)
    (case l6 => first | k_is | rfl)
    (case c6 => first | k_is | rfl)
    (case k6 => first | k_is | rfl)
    (case a7 => first | k_is | rfl)
    (case l7 => first | k_is | rfl)
    (case c7 => first | k_is | rfl)
    (case k7 => first | k_is | rfl)
    (case a8 => first | k_is | rfl)
    (case l8 => first | k_is | rfl)
    (case c8 => first | k_is | rfl)
    (case k8 => first | k_is | rfl)
    (case a9 => first | k_is | rfl)
    (case l9 => first | k_is | rfl)
    (case c9 => first | k_is | rfl)
    (case k9 => first | k_is | rfl)
    (case a10 => first | k_is | rfl)
    (case l10 => first | k_is | rfl)
    (case c10 => first | k_is | rfl)
    (case k10 => first | k_is | rfl)
    (case a11 => first | k_is | rfl)
    (case l11 => first | k_is | rfl)
    (case c11 => first | k_is | rfl)
    (case k11 => first | k_is | rfl)
    (case a12 => first | k_is | rfl)
    (case l12 => first | k_is | rfl)
    (case c12 => first | k_is | rfl)
    (case k12 => first | k_is | rfl)
    (case a13 => first | k_is | rfl)
    (case l13 => first | k_is | rfl)
    (case c13 => first | k_is | rfl)
    (case k13 => first | k_is | rfl)
    (case a14 => first | k_is | rfl)
    (case l14 => first | k_is | rfl)
    (case c14 => first | k_is | rfl)
    (case k14 => first | k_is | rfl)
    (case a15 => first | k_is | rfl)
    (case l15 => first | k_is | rfl)
    (case c15 => first | k_is | rfl)
    (case k15 => first | k_is | rfl)
    (case a16 => first | k_is | rfl)
    (case l16 => first | k_is | rfl)
    (case c16 => first | k_is | rfl)
    (case k16 => first | k_is | rfl)
    (case a17 => first | k_is | rfl)
    (case l17 => first | k_is | rfl)
    (case c17 => first | k_is | rfl)
    (case k17 => first | k_is | rfl)
    (case a18 => first | k_is | rfl)
    (case l18 => first | k_is | rfl)
    (case c18 => first | k_is | rfl)
    (case k18 => first | k_is | rfl)
    (case a19 => first | k_is | rfl)
    (case l19 => first | k_is | rfl)
    (case c19 => first | k_is | rfl)
    (case k19 => first | k_is | rfl)
    (case a20 => first | k_is | rfl)
    (case l20 => first | k_is | rfl)
    (case c20 => first | k_is | rfl)
    (case k20 => first | k_is | rfl)
    (case a21 => first | k_is | rfl)
    (case l21 => first | k_is | rfl)
    (case c21 => first | k_is | rfl)
    (case k21 => first | k_is | rfl)
    (case a22 => first | k_is | rfl)
    (case l22 => first | k_is | rfl)
    (case c22 => first | k_is | rfl)
    (case k22 => first | k_is | rfl)
    (case zrange => first | k_is | rfl)
    (case zmax => first | k_is | rfl)
    (case zmin => first | k_is | rfl)
    (case zlen => first | k_is | rfl)
    (case zabs => first | k_is | rfl)
    (case zisinstance => first | k_is | rfl)
    (case zint => first | k_is | rfl)
    (case zbool => first | k_is | rfl)
    (case zstr => first | k_is | rfl)
    (case ztuple => first | k_is | rfl)
    (case zall => first | k_is | rfl)
    (case zzip => first | k_is | rfl)
    (case zrepr => first | k_is | rfl)
    (case zlist => first | k_is | rfl)
    (case zset => first | k_is | rfl)
    (case zsorted => first | k_is | rfl)
    (case aF => first | k_is | rfl)
    (case oF => first | k_is | rfl)
    (case litF => first | k_is | exact ⟨⟨_, _, rfl, rfl⟩, ⟨_, _, rfl, rfl⟩, ⟨_, _, rfl, rfl⟩, ⟨_, _, rfl, rfl⟩, ⟨_, _, rfl, rfl⟩, ⟨_, _, rfl, rfl⟩, ⟨_, _, rfl, rfl⟩, ⟨_, _, rfl, rfl⟩, ⟨_, _, rfl, rfl⟩, ⟨_, _, rfl, rfl⟩, trivial⟩)
    (case lowF => first | k_is | rfl)
    (case n1 => first | k_is | rfl)
    (case p1 => first | k_is | rfl)
    (case q1 => first | k_is | rfl)
    (case n2 => first | k_is | rfl)
    (case p2 => first | k_is | rfl)
    (case q2 => first | k_is | rfl)
    (case n3 => first | k_is | rfl)
    (case p3 => first | k_is | rfl)
    (case q3 => first | k_is | rfl)
    (case n4 => first | k_is | rfl)
    (case p4 => first | k_is | rfl)
    (case q4 => first | k_is | rfl)
    (case n5 => first | k_is | rfl)
    (case p5 => first | k_is | rfl)
    (case q5 => first | k_is | rfl)
    (case n6 => first | k_is | rfl)
    (case p6 => first | k_is | rfl)
    (case q6 => first | k_is | rfl)
    (case n7 => first | k_is | rfl)
    (case p7 => first | k_is | rfl)
    (case q7 => first | k_is | rfl)
    (case n8 => first | k_is | rfl)
    (case p8 => first | k_is | rfl)
    (case q8 => first | k_is | rfl)
    (case n9 => first | k_is | rfl)
    (case p9 => first | k_is | rfl)
    (case q9 => first | k_is | rfl)
    (case n10 => first | k_is | rfl)
    (case p10 => first | k_is | rfl)
    (case q10 => first | k_is | rfl)
    (case aL => first | k_is | rfl)
    (case oL => first | k_is | rfl)
    (case aB => first | k_is | rfl)
    (case oB => first | k_is | rfl)
    (case aG => first | k_is | rfl)
    (case eG => first | rfl | decide +kernel)
    (case aT => first | k_is | rfl)
    (case aM => first | k_is | rfl)
    (case aP => first | k_is | rfl)
    (case aW => first | k_is | rfl)
    (case aCW => first | k_is | rfl)
    (case aCR => first | k_is | rfl)
    (case fa1 => first | k_is | rfl)
    (case fi1 => first | k_is | rfl)
    (case fl1 => first | k_is | rfl)
    (case fc1 => first | k_is | rfl)
    (case fk1 => first | k_is | rfl)
    (case fa2 => first | k_is | rfl)
    (case fi2 => first | k_is | rfl)
    (case fl2 => first | k_is | rfl)
    (case fc2 => first | k_is | rfl)
    (case fk2 => first | k_is | rfl)
    (case fa3 => first | k_is | rfl)
    (case fi3 => first | k_is | rfl)
    (case fl3 => first | k_is | rfl)
    (case fc3 => first | k_is | rfl)
    (case fk3 => first | k_is | rfl)
    (case fa4 => first | k_is | rfl)
    (case fi4 => first | k_is | rfl)
    (case fl4 => first | k_is | rfl)
    (case fc4 => first | k_is | rfl)
    (case fk4 => first | k_is | rfl)
    (case pgW => first | k_is | rfl)
    (case hdW => first | k_is | rfl)
    (case poW => first | k_is | rfl)
    (case saW => first | k_is | rfl)
    (case mkW => first | k_is | rfl)
    (case kcW => first | k_is | rfl)
    (case pgR => first | k_is | rfl)
    (case hdR => first | k_is | rfl)
    (case poR => first | k_is | rfl)
    (case saR => first | k_is | rfl)
    (case mkR => first | k_is | rfl)
    (case kcR => first | k_is | rfl)
    (case hNU => first | k_is | rfl)
    (case hNT => first | k_is | rfl)
    (case hNS => first | k_is | rfl)
    (case hNW => first | k_is | rfl)
    (case lC1 => first | k_is | rfl)
    (case v111 => first | k_is | rfl)
    (case g111 => first | k_is | rfl)
    (case g181 => first | k_is | rfl)
    (case g71 => first | k_is | rfl)
    (case g91 => first | k_is | rfl)
    (case g101 => first | k_is | rfl)
    (case ncp1 => first | decide | decide +kernel)
    (case nPT1 => first | k_is | rfl)
    (case lC2 => first | k_is | rfl)
    (case v112 => first | k_is | rfl)
    (case g112 => first | k_is | rfl)
    (case g182 => first | k_is | rfl)
    (case g72 => first | k_is | rfl)
    (case g92 => first | k_is | rfl)
    (case g102 => first | k_is | rfl)
    (case ncp2 => first | decide | decide +kernel)
    (case nPT2 => first | k_is | rfl)
    (case far12 => first | decide | decide +kernel)
