import PyProof.Rows.All
import Wide.All
import OpenK.AllK
import Wide.FinOn
import HandS.ForMost
import HandS.SetKeys
import HandS.SetFor
import HandS.Strs
import HandS.More
import HandS.Wide
import HandS.IsInst
import HandS.TupAny
import HandS.EndBits
import HandS.WideBits
import PySem.Challenge.RW_prooffruit_k05_names_that_stand_there
set_option Elab.async false
set_option linter.all false
set_option maxRecDepth 100000
set_option maxHeartbeats 4000000
/-! Sets of texts, whatever the world's order of them is: set(), set(a list), add, sorted. -/
namespace Sx
open PySem PySem.Spec PyProof.Rows L2
/-- the text of an entry -/
def tx (e : Int × Value) : Str := match e.2 with
  | .str k _ => k
  | _ => Str.empty
def Ent (w : World) (e : Int × Value) : Prop := ∃ k tk, e = (hashStr w k, Value.str k tk)
/-- one text more -/
def ins (k : Str) (ks : List Str) : List Str := if k ∈ ks then ks else k :: ks
theorem ins_mem {k j : Str} {ks : List Str} : j ∈ ins k ks ↔ j = k ∨ j ∈ ks := by
  unfold ins
  split
  · rename_i h
    exact ⟨.inr, fun q => q.elim (fun e => e ▸ h) (fun q => q)⟩
  · exact List.mem_cons
theorem ins_nodup {k : Str} {ks : List Str} (h : ks.Nodup) : (ins k ks).Nodup := by
  unfold ins
  split
  · exact h
  · rename_i q
    exact List.nodup_cons.mpr ⟨q, h⟩
theorem ins_len {k : Str} {ks : List Str} : (ins k ks).length ≤ ks.length + 1 := by
  unfold ins
  split
  · omega
  · exact Nat.le_refl _
/-- the set's table: its rows are the texts ks, it can be walked -/
structure Rows (w : World) (es : Array (Int × Value)) (t : SetTable) (ks : List Str) : Prop where
  ent : ∀ e ∈ es.toList, Ent w e
  perm : (es.toList.map tx).Perm ks
  nd : ks.Nodup
  few : es.size < scanBound
  fit : t.fits es.size = true
  ris : Ris t.place.toList
  led : w.params.followText "set-order" = true ∨ t.led = true
def SetS (w : World) (h : Heap) (a : Addr) (ks : List Str) : Prop := ∃ o es ep t, h.get? a = some o ∧ o.ExactSet ∧ o.data = .set es ep t ∧ Rows w es t ks
section
variable {P : Program} {w : World} {h h' : Heap} {a : Addr} {ks : List Str} {es : Array (Int × Value)} {t : SetTable}
theorem SetS.stay (R : SetS w h a ks) (k : ∀ o, h.get? a = some o → h'.get? a = some o) : SetS w h' a ks := by
  obtain ⟨o, es, ep, t, ho, z⟩ := R
  exact ⟨o, es, ep, t, k o ho, z⟩
theorem Rows.size (r : Rows w es t ks) : es.size = ks.length := by
  have q := r.perm.length_eq
  rw [List.length_map, Array.length_toList] at q
  exact q
theorem ent_is {e : Int × Value} (g : Ent w e) (k : Str) : (PySem.strKind P w).is k e.2 = true ↔ tx e = k := by
  obtain ⟨j, tk, rfl⟩ := g
  show (j == k) = true ↔ j = k
  exact beq_iff_eq
theorem Rows.elems (r : Rows w es t ks) : ElemsOf (PySem.strKind P w) es.toList := by
  intro e he
  obtain ⟨k, tk, rfl⟩ := r.ent e he
  exact ⟨⟨k, strKind_is P w k tk, rfl⟩, rfl⟩
theorem Rows.mem (r : Rows w es t ks) (k : Str) : k ∈ ks ↔ ∃ e ∈ es.toList, (PySem.strKind P w).is k e.2 = true := by
  rw [← r.perm.mem_iff, List.mem_map]
  exact ⟨fun ⟨e, he, q⟩ => ⟨e, he, (ent_is (r.ent e he) k).2 q⟩, fun ⟨e, he, q⟩ => ⟨e, he, (ent_is (r.ent e he) k).1 q⟩⟩
theorem SetS.of (R : SetS w h a ks) : h.SetOf (PySem.strKind P w) a (fun k => decide (k ∈ ks)) ks.length := by
  obtain ⟨o, es, ep, t, ho, hx, hd, r⟩ := R
  exact ⟨o, es, ep, t, ho, hx, hd, r.elems, fun k => by rw [decide_eq_true_iff]; exact r.mem k, r.few, r.fit, r.size⟩
theorem rows_new (w : World) : Rows w #[] (.fresh 0 0 (!w.params.followText "set-order")) [] where
  ent := fun e he => by simp at he
  perm := List.Perm.refl _
  nd := List.nodup_nil
  few := by decide
  fit := rfl
  ris := List.Pairwise.nil
  led := by
    show _ ∨ (!w.params.followText "set-order") = true
    cases w.params.followText "set-order" with
    | true => exact .inl rfl
    | false => exact .inr rfl
end
section
variable {P : Program} {w : World} {A : Around} {E : Value → Shared → Prop} {s : Shared} {a : Addr} {ks : List Str}
/-- the table is stored, and laid anew where it is too full -/
theorem stored {gave : Bool → Sem Unit} (hg : ∀ (b : Bool) (z : Shared) (Y : Unit → Shared → Prop), Y () z → wpAny (model P w) A (gave b) Y E z)
    {o : Obj} {es0 es : Array (Int × Value)} {ep : Nat} {t0 t : SetTable} (ho : s.heap.get? a = some o) (hx : o.ExactSet) (hd : o.data = .set es0 ep t0) (r : Rows w es t ks) {dummy : Bool} {Z : Option Bool → Shared → Prop}
    (hZ : ∀ h', Heap.SameBut a s.heap h' → SetS w h' a ks → Z (some true) { s with heap := h' }) :
    wpAny (model P w) A (do
        storeSet a es t
        if (!dummy && t.tooFull) = true then do
            gave (relayAll t es (SetTable.grown es.size)).2.2
            storeSet a (relayAll t es (SetTable.grown es.size)).1 (relayAll t es (SetTable.grown es.size)).2.1
            pure (some true)
          else pure (some true)) Z E s := by
  have first := Heap.SameBut.update s.heap a (Obj.putSet es t)
  have o1 := store_at (es' := es) (t' := t) ho hd
  refine wpAny_bind (wpAny_storeSet_of ho hd ?_ (fits_of_scanBound r.few))
  by_cases full : (!dummy && t.tooFull) = true
  · rw [if_pos full]
    have r2 : Rows w (relayAll t es (SetTable.grown es.size)).1 (relayAll t es (SetTable.grown es.size)).2.1 ks := by
      have pm := relayAll_perm t es (SetTable.grown es.size)
      have sz : (relayAll t es (SetTable.grown es.size)).1.size = es.size := by
        have q := pm.length_eq
        rw [Array.length_toList, Array.length_toList] at q
        exact q
      exact ⟨fun e he => r.ent e (pm.mem_iff.mp he), (pm.map tx).trans r.perm, r.nd, Nat.lt_of_le_of_lt (Nat.le_of_eq sz) r.few, relayAll_fits _ _ _, relayAll_ris _ _ _, r.led.imp (fun z => z) fun z => (relayAll_led _ _ _).trans z⟩
    refine wpAny_bind (hg _ _ _ (wpAny_bind (wpAny_storeSet_of o1 rfl ?_ (fits_of_scanBound r2.few))))
    exact wpAny_pure (hZ _ (first.trans (Heap.SameBut.update _ a _)) ⟨_, _, _, _, store_at o1 rfl, hx, rfl, r2⟩)
  · rw [if_neg full]
    exact wpAny_pure (hZ _ first ⟨_, _, _, _, o1, hx, rfl, r⟩)
theorem plain_off {w : World} {es : Array (Int × Value)} {t : SetTable} {ks : List Str} (r : Rows w es t ks) : Rows w es { t with plain := false } ks :=
  ⟨r.ent, r.perm, r.nd, r.few, SetTable.fits_plain_off r.fit, r.ris, r.led⟩
/-- a text whose hash is known is added -/
theorem add_at {k : Str} {tk : Tok} {Z : Bool → Shared → Prop} (R : SetS w s.heap a ks) (room : ks.length + 1 < scanBound)
    (hZ : ∀ b h', Heap.SameBut a s.heap h' → SetS w h' a (ins k ks) → Z b { s with heap := h' }) : wpAny (model P w) A (setAddHashed a (.str k tk) (hashStr w k)) Z E s := by
  obtain ⟨o, es, ep, t, ho, hx, hd, r⟩ := R
  have hel : ElemsOf (PySem.strKind P w) es.toList := r.elems
  have hscan : byScan (Value.str k tk) es = true := byScan_of rfl r.few hel
  unfold setAddHashed setAddHashedIn
  refine wpAny_holding (wpAny_bind (wpAny_setState_of ho hd r.fit ?_))
  dsimp only
  rw [hscan]
  simp only [↓reduceIte]
  unfold setAddByScan
  refine wpAny_bind (wpAny_bind (wpAny_rule (wpAny_bind (wpAny_setScan_of (knd := PySem.strKind P w) (k := k) (strKind_is P w k tk) ho hd r.fit hel ?_))))
  cases found : List.findIdx? (fun e => (PySem.strKind P w).is k e.2) es.toList with
  | some j =>
    obtain ⟨lt, hit, _⟩ := List.findIdx?_eq_some_iff_getElem.mp found
    have there : k ∈ ks := (r.mem (P := P) k).2 ⟨_, List.getElem_mem lt, hit⟩
    refine wpAny_pure (wpAny_pure (hZ _ s.heap (Heap.SameBut.refl a s.heap) ⟨o, es, ep, t, ho, hx, hd, ?_⟩))
    unfold ins
    rw [if_pos there]
    exact r
  | none =>
    have away : k ∉ ks := fun z => by
      obtain ⟨e, he, hit⟩ := (r.mem (P := P) k).1 z
      have no := List.findIdx?_eq_none_iff.mp found e he
      rw [hit] at no
      cases no
    have pm0 := layNew_perm t es (hashStr w k) (.str k tk)
    rw [Array.toList_push] at pm0
    have pm := pm0.trans (List.perm_append_singleton (hashStr w k, Value.str k tk) es.toList)
    have r1 : Rows w (layNew t es (hashStr w k) (.str k tk)).1 (layNew t es (hashStr w k) (.str k tk)).2.1 (ins k ks) := by
      have sz : (layNew t es (hashStr w k) (.str k tk)).1.size = ks.length + 1 := by
        have q := pm.length_eq
        rw [Array.length_toList, List.length_cons, Array.length_toList, r.size] at q
        exact q
      refine ⟨fun e he => ?_, ?_, ins_nodup r.nd, Nat.lt_of_le_of_lt (Nat.le_of_eq sz) room, layNew_fits _ _ _ _, layNew_ris _ _ _ _ r.ris, r.led.imp (fun z => z) fun z => (layNew_led _ _ _ _).trans z⟩
      · rcases List.mem_cons.mp (pm.mem_iff.mp he) with z | z
        · exact ⟨k, tk, z⟩
        · exact r.ent e z
      · unfold ins
        rw [if_neg away]
        exact (pm.map tx).trans (List.Perm.cons k r.perm)
    have gw : ∀ (b : Bool) (z : Shared) (Y : Unit → Shared → Prop), Y () z → wpAny (model P w) A (match b with | true => rule "set.scan.the-table-gave-way" | false => pure ()) Y E z := by
      intro b z Y q
      cases b with
      | true => exact wpAny_rule q
      | false => exact wpAny_pure q
    have goal2 : ∀ h', Heap.SameBut a s.heap h' → SetS w h' a (ins k ks) → Z true { s with heap := h' } := fun h' sb r' => hZ true h' sb r'
    dsimp only
    change wpAny _ _ _ _ _ _
    generalize layNew t es (hashStr w k) (.str k tk) = L at r1 ⊢
    obtain ⟨es1, t1, dummy, gave⟩ := L
    dsimp only at r1 ⊢
    refine wpAny_bind (gw _ _ _ ?_)
    by_cases pl : t1.plain = true
    · rw [if_pos pl]
      refine wpAny_bind ?_
      rw [hashByValue_scannable 8 (show (Value.str k tk).scannable = true from rfl)]
      refine wpAny_pure ?_
      refine stored gw ho hx hd (ks := ins k ks) ?_ fun h' sb r' => wpAny_pure (goal2 h' sb r')
      split
      · exact r1
      · exact plain_off r1
    · rw [if_neg pl]
      refine wpAny_bind (wpAny_pure ?_)
      simp only [↓reduceIte]
      exact stored gw ho hx hd (ks := ins k ks) r1 fun h' sb r' => wpAny_pure (goal2 h' sb r')
end
/-- the texts of the first i are put in, one by one -/
def insAll (ks : List Str) : List Str → List Str
  | [] => ks
  | x :: r => insAll (ins x ks) r
theorem insAll_mem {j : Str} : ∀ (xs ks : List Str), j ∈ insAll ks xs ↔ j ∈ xs ∨ j ∈ ks
  | [], ks => by simp [insAll]
  | x :: r, ks => by
    rw [insAll, insAll_mem r, ins_mem, List.mem_cons]
    constructor
    · rintro (h | h | h)
      · exact .inl (.inr h)
      · exact .inl (.inl h)
      · exact .inr h
    · rintro ((h | h) | h)
      · exact .inr (.inl h)
      · exact .inl h
      · exact .inr (.inr h)
theorem insAll_len : ∀ (xs ks : List Str), (insAll ks xs).length ≤ ks.length + xs.length
  | [], ks => Nat.le_refl _
  | x :: r, ks => by
    have h1 := insAll_len r (ins x ks)
    have h2 := ins_len (k := x) (ks := ks)
    rw [insAll, List.length_cons]
    omega
section
variable {P : Program} {w : World} {A : Around} {E : Value → Shared → Prop} {s : Shared}
/-- set.update's own loop over a walk that yields texts -/
theorem feed_loop {I : Addr} {fp wr : List Addr} {G : Array GenState → Array GenState → Prop} {n : Nat} {Y : Nat → Value → Prop} {St : Nat → Shared → Prop} {Z : Result → Shared → Prop}
    (W : WalksS P w A.in1 I fp wr G n Y St) (S : Addr) (out : S ∉ fp) (texts : List Str) (hn : texts.length = n) (hb : n + 1 < scanBound) (hY : ∀ i v, Y i v → ∃ k tk, texts[i]? = some k ∧ v = .str k tk) :
    ∀ (left : Nat) (i : Nat) (ks : List Str) (s : Shared), i + left = n → St i s → SetS w s.heap S ks → ks.length ≤ i →
      (∀ s', Moved (S :: wr) G s s' → SetS w s'.heap S (insAll ks (texts.drop i)) → Z (.ok (.ret .none)) s') → codeAny (model P w) A (.builtin "set.update.loop" ⟨[.ref S, .ref I], []⟩) Z s := by
  have quietS : S ∉ wr := fun z => out (W.sub _ z)
  have more : ∀ b ∈ wr, b ∈ S :: wr := fun b hb => List.mem_cons_of_mem _ hb
  intro left
  induction left with
  | zero =>
    intro i ks s hi hst hS _ hZ
    have e0 : texts.drop i = [] := List.drop_eq_nil_of_le (by omega)
    rw [e0] at hZ
    have e1 : i = n := by omega
    rw [e1] at hst
    refine codeAny_builtin F.entry_set_update_loop ?_
    rw [Around.under_plainId F.plain_set_update_loop _]
    show wpAny _ A.in1 (pyNext (.ref I) >>= _) _ _ s
    refine wpAny_bind (W.done s _ _ hst fun s' mv => wpAny_pure (hZ s' (mv.mono more) (hS.stay fun o e => mv.heap S o quietS e)))
  | succ left ih =>
    intro i ks s hi hst hS hk hZ
    have lt : i < n := by omega
    refine codeAny_builtin F.entry_set_update_loop ?_
    rw [Around.under_plainId F.plain_set_update_loop _]
    show wpAny _ A.in1 (pyNext (.ref I) >>= _) _ _ s
    refine wpAny_bind (W.item i s _ _ lt hst fun v s1 hv hst1 mv => ?_)
    obtain ⟨k, tk, hk1, rfl⟩ := hY i v hv
    have hS1 : SetS w s1.heap S ks := hS.stay fun o e => mv.heap S o quietS e
    have ed : texts.drop i = k :: texts.drop (i + 1) := by
      obtain ⟨lt2, e2⟩ := List.getElem?_eq_some_iff.mp hk1
      rw [← e2]
      exact List.drop_eq_getElem_cons lt2
    rw [ed] at hZ
    show wpAny _ A.in1 (holding [Value.str k tk] (setAdd S (.str k tk)) >>= _) _ _ s1
    unfold setAdd
    refine wpAny_bind (wpAny_holding (wpAny_holding (wpAny_bind ((PySem.strKind P w).pyHash (k := k) (strKind_is P w k tk) ?_))))
    refine add_at (s := { s1 with toks := s1.toks + 1 }) hS1 (by omega) fun b h' sb hS2 => ?_
    refine wpAny_pure ⟨plainId_quiet F.plain_set_update_loop _, ih (i + 1) (ins k ks) _ (by omega) (W.frame _ s1 _ _ hst1 (Nat.le_succ _) fun c hc o e => ?_) hS2 ?_ fun s2 mv2 hS3 => ?_⟩
    · have away : c ≠ S := fun z => out (z ▸ hc)
      rw [sb.2 c away]
      exact e
    · have := ins_len (k := k) (ks := ks)
      omega
    · refine hZ s2 (Moved.trans W.gtrans ((mv.mono more).then_heap (Nat.le_succ _) fun c o hc e => ?_) mv2) hS3
      have away : c ≠ S := fun z => hc (z ▸ List.mem_cons_self)
      rw [sb.2 c away]
      exact e
/-- the empty set, as it is made -/
abbrev bare (w : World) : Obj := { cls := .type "set", dict := none, data := .set #[] 0 (.fresh 0 0 (!w.params.followText "set-order")) }
theorem bare_holds {h : Heap} {a : Addr} (ho : h.get? a = some (bare w)) : SetS w h a [] := ⟨_, _, _, _, ho, ⟨rfl, rfl, rfl⟩, rfl, rows_new w⟩
set_option maxHeartbeats 8000000 in
theorem set_of_list {l : Addr} {items : Array Value} (texts : List Str) {Z : Value → Shared → Prop} (hh : A.handled = none) (hl : s.heap.IsList l items) (ht : StrsAre items.toList texts) (hb : texts.length + 1 < scanBound)
    (hZ : ∀ (h' : Heap) (tk : Nat), SetS w h' s.heap.objs.size (insAll [] texts) → (∀ b o, s.heap.get? b = some o → h'.get? b = some o) → Z (.ref s.heap.objs.size) { s with heap := h', toks := tk }) :
    wpAny (model P w) A (call (.type "set") [.ref l]) Z E s := by
  have count : texts.length = items.size := by
    have q := StrsAre.len_eq ht
    rw [Array.length_toList] at q
    exact q.symm
  obtain ⟨c, tl, hmro⟩ := F.called_set.mro
  have made := F.called_set.made
  have sub := F.called_set.sub
  have noType := F.called_set.notType
  have can := F.called_set.canCreate
  have tcall := F.typeCall_set_1 (.ref l)
  refine wpAny_call (codeAny_of_tree ?_)
  show wpAny _ _ (callAny (.type "set") _) _ _ _
  refine wpAny_pure ⟨Code.quiet_builtin _ (by decide +kernel), codeAny_builtin F.entry_type_call ?_⟩
  rw [Around.under_plain (weight_type_call_type "set" [.ref l] []) rfl]
  repeat (any_goals (first | assumption | wp_step))
  refine codeAny_mono (code_set_led1 (.ref l) (E := E) (Q₁ := fun v z => v = .ref s.heap.objs.size ∧ z = { s with heap := s.heap.push (bare w) }) ⟨rfl, rfl⟩) fun r z hr => ?_
  match r, hr with
  | .error _, hr => exact hr
  | .ok .next, hr => exact hr.elim
  | .ok .brk, hr => exact hr.elim
  | .ok .cont, hr => exact hr.elim
  | .ok (.ret _), hr =>
    obtain ⟨rfl, rfl⟩ := hr
    have hS : (s.heap.push (bare w)).get? s.heap.objs.size = some (bare w) := Heap.get?_push_size _ rfl
    have isSet : Shared.TypeIs { s with heap := s.heap.push (bare w) } (.ref s.heap.objs.size) "set" := ⟨_, hS, rfl⟩
    have initL := F.called_set.init.lookup
    have initB := F.called_set.init.bind (.ref s.heap.objs.size)
    repeat (any_goals (first | assumption | wp_step))
    refine codeAny_mono (codeAny_call_builtin (R := wants (fun v z => v = .none ∧ ∃ h' tk, z = { s with heap := h', toks := tk } ∧ SetS w h' s.heap.objs.size (insAll [] texts) ∧ ∀ b o, s.heap.get? b = some o → h'.get? b = some o) E)
      F.called_set.init.plain F.entry_set_init (check_set_init_1 isSet ?_)) fun r z hr => ?_
    · have hl1 : (s.heap.push (bare w)).IsList l items := hl.push _
      obtain ⟨⟨_, dd, _, sl⟩, hol, rfl, nl, rfl⟩ := id hl
      have hol1 : (s.heap.push (bare w)).get? l = some ⟨.type "list", dd, .seq items nl, sl⟩ := Heap.get?_push_of_some _ hol
      have sub1 := F.sub_list_set
      have sub2 := F.sub_list_frozenset
      have unlike : (Value.type "list" == Value.type "dict") = false := by decide
      unfold Builtin.«set.__init__» noKeywords Builtin.Frozenset.updateFrom
      generalize hPI : pyIter = PI
      wp_walk
      subst hPI
      refine wpAny_pyIter_list hl1 (wpAny_bind (wpAny_runValue ?_))
      have old : l < s.heap.objs.size := Heap.lt_size hol
      have sz1 : (s.heap.push (bare w)).objs.size = s.heap.objs.size + 1 := Heap.size_push ..
      have apart : l ≠ (s.heap.push (bare w)).objs.size := by
        rw [sz1]
        exact Nat.ne_of_lt (Nat.lt_succ_of_lt old)
      have out : s.heap.objs.size ∉ [(s.heap.push (bare w)).objs.size, l] := by
        intro z
        rcases List.mem_cons.mp z with z | z
        · rw [sz1] at z
          omega
        · exact absurd old (by rw [← List.mem_singleton.mp z]; exact Nat.lt_irrefl _)
      have texty : ∀ (i : Nat) (v : Value), items[i]? = some v → ∃ k tk, texts[i]? = some k ∧ v = .str k tk := fun i v hv => by
        have hi : i < texts.length := by
          rw [count]
          exact (Array.getElem?_eq_some_iff.mp hv).1
        obtain ⟨tk, e⟩ := SS.strs_at ht i v (by rw [Array.getElem?_toList]; exact hv)
        refine ⟨texts[i], tk, List.getElem?_eq_getElem hi, ?_⟩
        rw [e, List.getD_eq_getElem?_getD, List.getElem?_eq_getElem hi]
        rfl
      have hh3 : A.in1.in1.in1.handled = none := by simp [hh]
      refine feed_loop ((Walks.list hh3 _ l apart items).toS) s.heap.objs.size out texts count (by rw [← count]; exact hb) texty items.size 0 [] _ (Nat.zero_add _) ⟨⟨_, Heap.get?_push_size _ rfl, rfl, rfl⟩, hl1.push _⟩
        (bare_holds (Heap.get?_push_of_some _ hS)) (Nat.le_refl _) fun s' mv hS' => ?_
      obtain ⟨h', g', d', tk', os'⟩ := s'
      have eg : g' = s.gens := mv.gens
      have ed : d' = s.drawn := mv.drawn
      have eo : os' = s.os := mv.os
      subst eg ed eo
      show wpAny _ _ _ _ _ _
      refine wpAny_pure ?_
      show wpAny _ _ (ret Value.none) _ _ _
      refine wpAny_pure ⟨rfl, h', tk', rfl, hS', fun b o e => ?_⟩
      have lt := Heap.lt_size e
      refine mv.heap b o (fun z => ?_) (Heap.get?_push_of_some _ (Heap.get?_push_of_some _ e))
      rcases List.mem_cons.mp z with z | z
      · rw [z] at lt
        exact Nat.lt_irrefl _ lt
      · have z2 := List.mem_singleton.mp z
        have lt2 : b < (s.heap.push (bare w)).objs.size := by
          rw [sz1]
          exact Nat.lt_succ_of_lt lt
        rw [z2] at lt2
        exact Nat.lt_irrefl _ lt2
    · match r, hr with
      | .error _, hr => exact hr
      | .ok .next, hr => exact hr.elim
      | .ok .brk, hr => exact hr.elim
      | .ok .cont, hr => exact hr.elim
      | .ok (.ret _), hr =>
        obtain ⟨rfl, h', tk, rfl, hS', keep⟩ := hr
        repeat (any_goals (first | assumption | wp_step))
        exact hZ _ _ hS' keep
/-- the texts of values that are texts -/
theorem texts_of : ∀ (vs : List Value), (∀ v ∈ vs, ∃ k tk, v = Value.str k tk) → ∃ ks, StrsAre vs ks ∧ ks = vs.map fun v => tx (0, v)
  | [], _ => ⟨[], .nil, rfl⟩
  | v :: vs, h => by
    obtain ⟨k, tk, rfl⟩ := h v List.mem_cons_self
    obtain ⟨ks, h1, h2⟩ := texts_of vs fun u hu => h u (List.mem_cons_of_mem _ hu)
    exact ⟨k :: ks, .cons k tk h1, by rw [h2]; rfl⟩
theorem sorted_of_set {a : Addr} {ks : List Str} {Z : Value → Shared → Prop} (R : SetS w s.heap a ks) (hh : A.handled = none) (few : ks.length < 64)
    (hZ : ∀ s' p (out : Array Value) (c : Nat) (ys : List Str), (∀ b o, s.heap.get? b = some o → s'.heap.get? b = some o) → s'.gens = s.gens → s'.os = s.os → s.heap.objs.size ≤ p →
      s'.heap.get? p = some (seqObj "list" out c) → StrsAre out.toList ys → ys.Perm ks → sortedS ys = true → Z (.ref p) s') :
    wpAny (model P w) A (call (.builtin "sorted") [.ref a]) Z E s := by
  obtain ⟨o, es, ep, t, ho, hx, hd, r⟩ := R
  refine Calls.call_function_entry kind_sorted plain_sorted entry_sorted (args_sorted1 _) ?_
  unfold Builtin.«sorted»
  refine wpAny_bind (m := checkCount "sorted" 1 1 _) (wpAny_pure ?_)
  refine wpAny_bind (collect_set (A := A.in1) hh ⟨o, ho, hx.1, hd⟩ r.fit r.few r.ris r.led fun s1 vs keep more g1 o1 pm => ?_)
  obtain ⟨texts, isT, eT⟩ := texts_of vs fun v hv => by
    obtain ⟨e, he, q⟩ := List.mem_map.mp (pm.mem_iff.mp hv)
    obtain ⟨k, tk, ee⟩ := r.ent e he
    exact ⟨k, tk, by rw [← q, ee]⟩
  have pT : texts.Perm ks := by
    refine List.Perm.trans ?_ r.perm
    rw [eT]
    have q := pm.map fun v => tx (0, v)
    rw [List.map_map] at q
    exact q
  have len : vs.length = ks.length := by
    rw [StrsAre.len_eq isT]
    exact pT.length_eq
  have line : vs.length ≤ sizeLine := by
    rw [len, sizeLine_eq]
    omega
  have hL : (s1.heap.push (seqObj "list" vs.toArray 0)).get? s1.heap.objs.size = some (seqObj "list" vs.toArray 0) := Heap.get?_push_size _ rfl
  refine wpAny_bind (wpAny_newList ?_ line)
  refine wpAny_bind (wpAny_holding (wpAny_call_entry slot_list_sort ⟨_, hL, rfl⟩ entry_list_sort (list_sort_treeK strKind_oneLt hL isT.keysOf (fun v₁ v₂ rest e => keyKind_strs (by rw [← e]; exact isT)) (by rw [len]; exact few) fun st hp hs => ?_) (args_list_sort _)))
  obtain ⟨ys, y1, y2, y3⟩ := sorted_out_str isT hp hs
  obtain ⟨c, hc⟩ := sortedHeap_at (vs := vs) (out := (arrOf st).map (·.2)) hL
  refine ⟨_, rfl, wpAny_pure ⟨_, rfl, hZ _ s1.heap.objs.size _ c ys (fun b u e => ?_) g1 o1 more hc y1 (y2.trans pT) y3⟩⟩
  have q := keep b u e
  have lt := Heap.lt_size q
  show (sortedHeap (s1.heap.push (seqObj "list" vs.toArray 0)) s1.heap.objs.size vs _).get? b = some u
  rw [sortedHeap_old (Nat.ne_of_lt lt) (by rw [Heap.size_push]; exact Nat.lt_succ_of_lt lt)]
  exact Heap.get?_push_of_some _ q
end
end Sx
set_option Elab.async false
set_option linter.all false
set_option maxRecDepth 100000
set_option maxHeartbeats 4000000
/-! The rules over sets of texts. -/
namespace Sx
open PySem PySem.Spec PyProof.Rows L2
/-- a set of the texts ks stands at a -/
def SetX (w : World) (a : Addr) (ks : List Str) : HO := .ext fun h => SetS w h a ks
section
variable {X : Cx}
theorem setX_new {w : World} {P : Program} {H : Hp} {h : Heap} {a : Addr} {ks : List Str} (R : SetS w h a ks) : ObjOk P w H h a (SetX w a ks) := by
  have ⟨o, _, _, _, ho, _⟩ := R
  exact ⟨R, ⟨o, ho⟩, fun _ _ r k => SetS.stay r k⟩
theorem setX_get {pins : List (Addr × Obj)} {σ : L2.St} {H : Hp} {s : Shared} {a : Addr} {ks : List Str} (I : Inv X pins σ H s) (e : H a = some (SetX X.w a ks)) : SetS X.w s.heap a ks := (I.hok a _ e).1
/-- set() -/
def rNewX (w : World) : List V → Hp → VK → Prop := fun xs H Q => xs = [] ∧ ∀ p, H p = none → Q (.ref p) (upd H p (SetX w p []))
theorem cr_newX : CallR X (.type "set") (rNewX X.w) := by
  intro pins s σ H xs us Q I r ⟨e, q⟩
  subst e
  cases r
  refine setR_new fun _ => ⟨.ref _, upd H s.heap.objs.size (SetX X.w s.heap.objs.size []), ?_, rfl, q _ (I.hok.fresh (Nat.le_refl _))⟩
  exact I.laid (t' := s.toks) (fun b u e => Heap.get?_push_of_some _ e) (Nat.le_refl _) (setX_new (bare_holds (Heap.get?_push_size _ rfl)))
/-- set(a list of texts) -/
def rOfX (K : PySem.W.Frag) (w : World) : List V → Hp → VK → Prop := fun xs H Q => ∃ (l : Addr) (texts : List Str), xs = [.ref l] ∧ SqL K H l (texts.map V.str) ∧ texts.length + 1 < scanBound ∧
  ∀ p, H p = none → Q (.ref p) (upd H p (SetX w p (insAll [] texts)))
theorem cr_ofX (hc : X.calm = true) : CallR X (.type "set") (rOfX X.K X.w) := by
  intro pins s σ H xs us Q I r ⟨l, texts, e, hq, few, q⟩
  subst e
  rw [Vals.ref1 r]
  obtain ⟨its, rv, pl, _⟩ := I.list hq
  refine set_of_list texts (I.ok.hd hc) pl.isList (by simpa using strsAre_of rv) few fun h' tk hS keep => ?_
  exact ⟨.ref _, upd H s.heap.objs.size (SetX X.w s.heap.objs.size (insAll [] texts)), I.laid (t' := tk) keep (Nat.le_refl _) (setX_new hS), rfl, q _ (I.hok.fresh (Nat.le_refl _))⟩
/-- found.add(text) -/
def rAddX (w : World) : V → List V → Hp → VK → Prop := fun x xs H Q => ∃ (a : Addr) (k : Str) (ks : List Str), x = V.ref a ∧ xs = [V.str k] ∧ H a = some (SetX w a ks) ∧ ks.length + 1 < scanBound ∧ Q .non (upd H a (SetX w a (ins k ks)))
theorem mt_addX : MtR X "set.add" (rAddX X.w) := by
  intro pins s σ H x xs v us Q I rx rxs ⟨a, k, ks, e1, e2, ha, room, q⟩
  subst e1 e2
  cases rx
  obtain ⟨u, rfl, tk, rfl⟩ := vals1 rxs
  have R := setX_get I ha
  refine wpAny_call_entry F.slot_set_add (R.of (P := X.prog)).typeIs F.entry_set_add ?_ (F.args_set_add_2 _ _)
  unfold Builtin.«set.add» Builtin.Frozenset.oneOther
  simp only [List.isEmpty_nil, bind_assoc]
  unfold Builtin.Frozenset.addrOf setAdd
  refine wpAny_bind (wpAny_pure ?_)
  try dsimp only
  refine wpAny_bind (wpAny_pure ?_)
  try dsimp only
  refine wpAny_bind (wpAny_holding (wpAny_bind ((PySem.strKind X.prog X.w).pyHash (strKind_is X.prog X.w k tk) ?_)))
  refine add_at (s := { s with toks := s.toks + 1 }) R room fun b h' sb new => ?_
  show wpAny _ _ (ret Value.none) _ _ _
  have there : ∃ u, h'.get? a = some u := by
    obtain ⟨o, _, _, _, ho, _⟩ := new
    exact ⟨o, ho⟩
  exact wpAny_pure ⟨_, rfl, .non, upd H a (SetX X.w a (ins k ks)), I.write (e := a) (t' := s.toks + 1) (by rw [ha]; trivial) (.inl rfl) (fun c u hc hu => (sb.2 c hc).trans hu) there (setX_new new), rfl, q⟩
def tAddX (w : World) (to : TE) (t : TA) : TE := fun σ H Q => to σ H fun x H1 => (∃ a ks, x = V.ref a ∧ H1 a = some (SetX w a ks)) ∧ t σ H1 fun xs H2 => rAddX w x xs H2 Q
theorem pe_addX {o e : Expr} {to : TE} {t : TA} {apos cpos : Pos} (ho : PE X o to) (ha : PA X [e] t)
    (h1 : attributeBase o "add" X.env (eval o X.env) = eval o X.env := by rfl)
    (h2 : ((backTo cpos (starEach [e] X.env)).all (fun x => !x.1) && (backToKw cpos (keywordEach [] X.env)).all (fun x => x.1.isSome) && decide ([e].length + ([] : List Keyword).length + (if ([] : List Keyword).isEmpty then 0 else 1) < 30)) = true := by rfl)
    (h3 : (apos.endLine == cpos.line) = true := by rfl) (h4 : starEach [e] X.env = (false, eval e X.env) :: starEach [] X.env := by rfl) (h5 : (backTo cpos (starEach [] X.env)).any (·.1) = false := by rfl) :
    PE X (.Call (.Attribute o "add" apos) [e] [] cpos) (tAddX X.w to t) := by
  refine ⟨fun pins s σ H Q I h => wpAny_Call_method_late h1 h2 h3 rfl (thn (ho.run pins s σ H _ I h) fun v s1 ⟨x, H1, I1, r1, ⟨a, ks, ex, hka⟩, q1⟩ => ?_)⟩
  subst ex
  cases r1
  have R := (setX_get I1 hka).of (P := X.prog)
  have run := ha.run cpos pins s1 σ H1 _ I1 q1
  refine ⟨"set", "set.add", F.plainAttrs_set, F.slot_set_add, F.type_set_add, R.typeIs, R.noDict, ?_⟩
  rw [h4] at run ⊢
  refine Calls.callWith_builtin (by show (false || (backTo cpos (starEach [] X.env)).any (·.1)) = false; rw [h5]; rfl) (Calls.evalArgs_plain (thn run fun us s2 ⟨vs, H2, I2, r2, q2⟩ => ?_))
  exact mt_addX pins s2 σ H2 (.ref a) vs (.ref a) us Q I2 rfl r2 q2
/-- sorted(a set of texts) -/
def rSortX (w : World) : List V → Hp → VK → Prop := fun vs H Q => ∃ (a : Addr) (ks : List Str), vs = [V.ref a] ∧ H a = some (SetX w a ks) ∧ ks.length < 64 ∧
  ∀ (ys : List Str) (p : Addr), ys.Perm ks → ys.Nodup → sortedS ys = true → H p = none → Q (.ref p) (upd H p (.lst (ys.map V.str)))
theorem cr_sortX (hc : X.calm = true) : CallR X (.builtin "sorted") (rSortX X.w) := by
  intro pins s σ H vs us Q I r ⟨a, ks, e, ha, few, q⟩
  subst e
  rw [Vals.ref1 r]
  have R := setX_get I ha
  have nd : ks.Nodup := by
    obtain ⟨_, _, _, _, _, _, _, rows⟩ := R
    exact rows.nd
  refine sorted_of_set R (I.ok.hd hc) few fun s' p out c ys keep g1 o1 old hp y1 y2 y3 => ?_
  have line : (ys.map V.str).length ≤ sizeLine := by
    rw [List.length_map, y2.length_eq]
    exact small64 few
  have free : H p = none := I.hok.fresh old
  have J : Inv X pins σ (upd H p (.lst (ys.map V.str))) { s with heap := s'.heap, gens := s'.gens, drawn := s'.drawn, toks := s'.toks } :=
    I.call (ch := []) (Un.laid keep old free) (I.hok.laid keep old ⟨line, out.toList, c, vals_of_strs y1, hp⟩) (by rw [g1]; exact I.bare) (fun _ z => nomatch z)
  have back : s' = { s with heap := s'.heap, gens := s'.gens, drawn := s'.drawn, toks := s'.toks } := by
    cases s'
    cases s
    cases o1
    rfl
  rw [back]
  exact ⟨.ref p, _, J, rfl, q ys p y2 (y2.nodup_iff.mpr nd) y3 free⟩
end
end Sx
set_option Elab.async false
set_option linter.all false
set_option maxRecDepth 100000
set_option maxHeartbeats 4000000
/-! Trees, heaps: what the defs of these laws share. -/
namespace Kf
open PySem PySem.Spec PyProof.Rows L2 Sx
/-! ### lists, pair by pair -/
inductive All2 {α β : Type} (F : α → β → Prop) : List α → List β → Prop
  | nil : All2 F [] []
  | cons {a : α} {b : β} {l : List α} {m : List β} : F a b → All2 F l m → All2 F (a :: l) (b :: m)
section
variable {α β : Type} {F G : α → β → Prop}
theorem All2.len : ∀ {l : List α} {m : List β}, All2 F l m → l.length = m.length
  | _, _, .nil => rfl
  | _, _, .cons _ t => congrArg Nat.succ t.len
theorem All2.app : ∀ {l l2 : List α} {m m2 : List β}, All2 F l m → All2 F l2 m2 → All2 F (l ++ l2) (m ++ m2)
  | _, _, _, _, .nil, h => h
  | _, _, _, _, .cons r t, h => .cons r (t.app h)
theorem All2.mono (f : ∀ a b, F a b → G a b) : ∀ {l : List α} {m : List β}, All2 F l m → All2 G l m
  | _, _, .nil => .nil
  | _, _, .cons r t => .cons (f _ _ r) (t.mono f)
theorem All2.one {a : α} {b : β} (h : F a b) : All2 F [a] [b] := .cons h .nil
theorem All2.rev : ∀ {l : List α} {m : List β}, All2 F l m → All2 F l.reverse m.reverse
  | _, _, .nil => .nil
  | _, _, .cons r t => by
    rw [List.reverse_cons, List.reverse_cons]
    exact t.rev.app (.one r)
theorem All2.last {l : List α} {m : List β} {y : β} (h : All2 F l (m ++ [y])) : ∃ k x, l = k ++ [x] ∧ All2 F k m ∧ F x y := by
  have q := h.rev
  rw [List.reverse_append, List.reverse_singleton, List.singleton_append] at q
  generalize hr : l.reverse = r at q
  cases q with
  | @cons x _ k _ r t =>
    have t2 := t.rev
    rw [List.reverse_reverse] at t2
    refine ⟨k.reverse, x, ?_, t2, r⟩
    have e := congrArg List.reverse hr
    rw [List.reverse_reverse, List.reverse_cons] at e
    exact e
theorem All2.get : ∀ {l : List α} {m : List β} {i : Nat} {y : β}, All2 F l m → m[i]? = some y → ∃ x, l[i]? = some x ∧ F x y
  | _, _, _, _, .nil, h => by simp at h
  | _, _, 0, _, .cons r _, h => ⟨_, rfl, (Option.some.inj h) ▸ r⟩
  | _, _, i + 1, _, .cons _ t, h => t.get (i := i) (by simpa using h)
end
/-! ### heaps -/
/-- all but what stands at f is as it was -/
def But (f : Addr) (H H' : Hp) : Prop := ∀ b o, b ≠ f → H b = some o → H' b = some o
/-- all tuples stand -/
def Tups (H H' : Hp) : Prop := ∀ b xs, H b = some (.tup xs) → H' b = some (.tup xs)
section
variable {f : Addr} {H H1 H2 : Hp} {p : Addr} {o : HO}
theorem But.refl (f : Addr) (H : Hp) : But f H H := fun _ _ _ e => e
theorem But.trans (a : But f H H1) (b : But f H1 H2) : But f H H2 := fun c u n e => b c u n (a c u n e)
theorem but_same (a : Same H H1) : But f H H1 := fun c u _ e => a c u e
theorem But.new (a : But f H H1) (h : H1 p = none) : But f H (upd H1 p o) := fun c u n e => by
  have q := a c u n e
  rw [upd_ne (ne_of_none q h)]
  exact q
theorem But.own (a : But f H H1) : But f H (upd H1 f o) := fun c u n e => by
  rw [upd_ne n]
  exact a c u n e
theorem same_new (h : H p = none) : Same H (upd H p o) := fun b u q => by
  rw [upd_ne (ne_of_none q h)]
  exact q
theorem same_put (s : Same H H1) (h : H1 p = none) : Same H (upd H1 p o) := fun b u q => by
  rw [upd_ne (ne_of_none (s b u q) h)]
  exact s b u q
theorem Tups.refl (H : Hp) : Tups H H := fun _ _ e => e
theorem Tups.trans (a : Tups H H1) (b : Tups H1 H2) : Tups H H2 := fun c u e => b c u (a c u e)
theorem tups_same (a : Same H H1) : Tups H H1 := fun c u e => a c _ e
theorem But.tups {xs : List V} (a : But f H H1) (h : H f = some (.lst xs)) : Tups H H1 := fun c u e => a c _ (fun z => by
  rw [z, h] at e
  cases e) e
theorem tups_put (h : ∀ xs, H p ≠ some (.tup xs)) : Tups H (upd H p o) := fun c u e => by
  rw [upd_ne (fun z => h u (by rw [← z]; exact e))]
  exact e
end
/-! ### trees -/
inductive Tr where
  | leaf (w : Str) (x : V)
  | n0 (w : Str)
  | n1 (w : Str) (a : Tr)
  | n2 (w : Str) (a b : Tr)
abbrev leafVs : List V := [.str "num", .str "name", .str "bound"]
abbrev bindVs : List V := [.str "all", .str "some"]
def leafy (w : Str) : Bool := inV (.str w) leafVs
def binds (w : Str) : Bool := inV (.str w) bindVs
/-- how many stand around the parts -/
def inner (w : Str) (r : Nat) : Nat := if binds w = true then r + 1 else r
def Tr.word : Tr → Str
  | .leaf w _ => w
  | .n0 w => w
  | .n1 w _ => w
  | .n2 w _ _ => w
def Tr.kids : Tr → List Tr
  | .leaf _ _ => []
  | .n0 _ => []
  | .n1 _ a => [a]
  | .n2 _ a b => [a, b]
/-- the tree t is the value v -/
def At (H : Hp) : Tr → V → Prop
  | .leaf w x, v => ∃ p, v = .ref p ∧ H p = some (.tup [.str w, x])
  | .n0 w, v => ∃ p, v = .ref p ∧ H p = some (.tup [.str w])
  | .n1 w a, v => ∃ p y, v = .ref p ∧ H p = some (.tup [.str w, y]) ∧ At H a y
  | .n2 w a b, v => ∃ p y z, v = .ref p ∧ H p = some (.tup [.str w, y, z]) ∧ At H a y ∧ At H b z
theorem At.keep {H H' : Hp} (k : Tups H H') : ∀ {t : Tr} {v : V}, At H t v → At H' t v
  | .leaf _ _, _, ⟨p, e, h⟩ => ⟨p, e, k _ _ h⟩
  | .n0 _, _, ⟨p, e, h⟩ => ⟨p, e, k _ _ h⟩
  | .n1 _ _, _, ⟨p, y, e, h, a⟩ => ⟨p, y, e, k _ _ h, a.keep k⟩
  | .n2 _ _ _, _, ⟨p, y, z, e, h, a, b⟩ => ⟨p, y, z, e, k _ _ h, a.keep k, b.keep k⟩
/-- leaves by their words -/
def Tr.Ok : Tr → Prop
  | .leaf w x => leafy w = true ∧ ((∃ i, x = .int i) ∧ w ≠ "name" ∨ (∃ z, x = .str z) ∧ w = "name")
  | .n0 w => leafy w = false
  | .n1 w a => leafy w = false ∧ a.Ok
  | .n2 w a b => leafy w = false ∧ a.Ok ∧ b.Ok
/-- how far within one another -/
def Tr.deep : Tr → Nat
  | .leaf _ _ => 1
  | .n0 _ => 1
  | .n1 _ a => a.deep + 1
  | .n2 _ a b => max a.deep b.deep + 1
def Tr.size : Tr → Nat
  | .leaf _ _ => 1
  | .n0 _ => 1
  | .n1 _ a => a.size + 1
  | .n2 _ a b => a.size + b.size + 1
theorem size_deep : ∀ t : Tr, t.size + 1 ≤ 2 ^ t.deep
  | .leaf _ _ => Nat.le_refl _
  | .n0 _ => Nat.le_refl _
  | .n1 _ a => by
    have h := size_deep a
    have p : 2 ^ (a.deep + 1) = 2 ^ a.deep * 2 := Nat.pow_succ _ _
    show a.size + 1 + 1 ≤ 2 ^ (a.deep + 1)
    omega
  | .n2 _ a b => by
    have h := size_deep a
    have h2 := size_deep b
    have p : 2 ^ (max a.deep b.deep + 1) = 2 ^ (max a.deep b.deep) * 2 := Nat.pow_succ _ _
    have q1 : 2 ^ a.deep ≤ 2 ^ (max a.deep b.deep) := Nat.pow_le_pow_right (by decide) (Nat.le_max_left _ _)
    have q2 : 2 ^ b.deep ≤ 2 ^ (max a.deep b.deep) := Nat.pow_le_pow_right (by decide) (Nat.le_max_right _ _)
    show a.size + b.size + 1 + 1 ≤ 2 ^ (max a.deep b.deep + 1)
    omega
def Tr.names : Tr → List Str
  | .leaf w x => if w = "name" then (match x with | .str z => [z] | _ => []) else []
  | .n0 _ => []
  | .n1 _ a => a.names
  | .n2 _ a b => a.names ++ b.names
theorem names_size : ∀ t : Tr, t.names.length ≤ t.size
  | .leaf w x => by
    show (if w = "name" then (match x with | .str z => [z] | _ => []) else ([] : List Str)).length ≤ 1
    split
    · cases x <;> simp
    · simp
  | .n0 _ => Nat.zero_le _
  | .n1 _ a => Nat.le_succ_of_le (names_size a)
  | .n2 _ a b => by
    have h1 := names_size a
    have h2 := names_size b
    show (a.names ++ b.names).length ≤ a.size + b.size + 1
    rw [List.length_append]
    omega
/-! ### the pieces, parts ahead of the whole, from the left; each with how many all and some stand around it -/
def Tr.post : Tr → Nat → List (Tr × Nat)
  | .leaf w x, r => [(.leaf w x, r)]
  | .n0 w, r => [(.n0 w, r)]
  | .n1 w a, r => a.post (inner w r) ++ [(.n1 w a, r)]
  | .n2 w a b, r => a.post (inner w r) ++ b.post (inner w r) ++ [(.n2 w a b, r)]
theorem post_len : ∀ (t : Tr) (r : Nat), (t.post r).length = t.size
  | .leaf _ _, _ => rfl
  | .n0 _, _ => rfl
  | .n1 w a, r => by
    show (a.post _ ++ [_]).length = a.size + 1
    rw [List.length_append, post_len a]
    rfl
  | .n2 w a b, r => by
    show (a.post _ ++ b.post _ ++ [_]).length = a.size + b.size + 1
    rw [List.length_append, List.length_append, post_len a, post_len b]
    rfl
theorem post_kids (t : Tr) (r : Nat) : t.post r = (t.kids.flatMap fun a => a.post (inner t.word r)) ++ [(t, r)] := by
  cases t with
  | leaf w x => rfl
  | n0 w => rfl
  | n1 w a => simp [Tr.post, Tr.kids, Tr.word]
  | n2 w a b => simp [Tr.post, Tr.kids, Tr.word]
/-- what a whole list of pieces has for names -/
def leafName : Tr → List Str
  | .leaf w x => Tr.names (.leaf w x)
  | _ => []
theorem post_names : ∀ (t : Tr) (r : Nat), ((t.post r).flatMap fun (e : Tr × Nat) => leafName e.1) = t.names
  | .leaf w x, r => by simp [Tr.post, leafName]
  | .n0 w, r => by simp [Tr.post, leafName, Tr.names]
  | .n1 w a, r => by
    show ((a.post _ ++ [_]).flatMap fun (e : Tr × Nat) => leafName e.1) = a.names
    rw [List.flatMap_append, post_names a]
    simp [leafName]
  | .n2 w a b, r => by
    show ((a.post _ ++ b.post _ ++ [_]).flatMap fun (e : Tr × Nat) => leafName e.1) = a.names ++ b.names
    rw [List.flatMap_append, List.flatMap_append, post_names a, post_names b]
    simp [leafName]
theorem post_ok : ∀ (t : Tr) (r : Nat), t.Ok → ∀ e ∈ t.post r, e.1.Ok
  | .leaf w x, r, h, e, he => by
    rw [List.mem_singleton.mp he]
    exact h
  | .n0 w, r, h, e, he => by
    rw [List.mem_singleton.mp he]
    exact h
  | .n1 w a, r, h, e, he => by
    rcases List.mem_append.mp he with z | z
    · exact post_ok a _ h.2 e z
    · rw [List.mem_singleton.mp z]
      exact h
  | .n2 w a b, r, h, e, he => by
    rcases List.mem_append.mp he with z | z
    · rcases List.mem_append.mp z with z | z
      · exact post_ok a _ h.2.1 e z
      · exact post_ok b _ h.2.2 e z
    · rw [List.mem_singleton.mp z]
      exact h
theorem no_leaf {w : Str} (h : leafy w = false) (z : leafy w = true) : False := by
  rw [h] at z
  cases z
/-- a tree's own tuple -/
theorem At.view {H : Hp} {t : Tr} {v : V} (h : At H t v) (ok : t.Ok) : ∃ p vs, v = .ref p ∧ H p = some (.tup (.str t.word :: vs)) ∧ vs.length ≤ 2 ∧ (leafy t.word = false → All2 (At H) t.kids vs) ∧ (leafy t.word = true → ∃ x, t = .leaf t.word x ∧ vs = [x]) := by
  cases t with
  | leaf w x =>
    obtain ⟨p, e, h⟩ := h
    exact ⟨p, [x], e, h, Nat.le_succ 1, fun z => (no_leaf z ok.1).elim, fun _ => ⟨x, rfl, rfl⟩⟩
  | n0 w =>
    obtain ⟨p, e, h⟩ := h
    exact ⟨p, [], e, h, Nat.zero_le 2, fun _ => .nil, fun z => (no_leaf ok z).elim⟩
  | n1 w a =>
    obtain ⟨p, y, e, h, ha⟩ := h
    exact ⟨p, [y], e, h, Nat.le_succ 1, fun _ => .one ha, fun z => (no_leaf ok.1 z).elim⟩
  | n2 w a b =>
    obtain ⟨p, y, z, e, h, ha, hb⟩ := h
    exact ⟨p, [y, z], e, h, Nat.le_refl 2, fun _ => .cons ha (.one hb), fun q => (no_leaf ok.1 q).elim⟩
theorem kids_ok {t : Tr} (ok : t.Ok) : ∀ a ∈ t.kids, a.Ok := by
  cases t with
  | leaf w x => intro a h; cases h
  | n0 w => intro a h; cases h
  | n1 w a =>
    intro c h
    rw [List.mem_singleton.mp h]
    exact ok.2
  | n2 w a b =>
    intro c h
    rcases List.mem_cons.mp h with z | z
    · rw [z]
      exact ok.2.1
    · rw [List.mem_singleton.mp z]
      exact ok.2.2
/-! ### sorted lists of texts -/
theorem nodup_le : ∀ (ks ms : List Str), ks.Nodup → (∀ k ∈ ks, k ∈ ms) → ks.length ≤ ms.length
  | [], _, _, _ => Nat.zero_le _
  | k :: r, ms, nd, h => by
    obtain ⟨n1, n2⟩ := List.nodup_cons.mp nd
    have hk : k ∈ ms := h k List.mem_cons_self
    have q := nodup_le r (ms.erase k) n2 fun j hj => (List.mem_erase_of_ne (fun z : j = k => n1 (z ▸ hj))).mpr (h j (List.mem_cons_of_mem _ hj))
    rw [List.length_erase_of_mem hk] at q
    have pos : 0 < ms.length := List.length_pos_of_mem hk
    rw [List.length_cons]
    omega
def Le (a b : Str) : Prop := ltCps b.cps.toList a.cps.toList = false
theorem rising_pairs : ∀ (p : Str) (l : List Str), risingS p l = true → (∀ (a b c : Str), Le a b → Le b c → Le a c) → (p :: l).Pairwise Le
  | p, [], _, _ => List.pairwise_singleton _ _
  | p, x :: r, h, tr => by
    have h' : (!ltCps x.cps.toList p.cps.toList && risingS x r) = true := h
    rw [Bool.and_eq_true] at h'
    have q := rising_pairs x r h'.2 tr
    have px : Le p x := by
      unfold Le
      simpa using h'.1
    refine List.pairwise_cons.mpr ⟨fun y hy => ?_, q⟩
    rcases List.mem_cons.mp hy with z | z
    · rw [z]
      exact px
    · exact tr _ _ _ px (List.rel_of_pairwise_cons q z)
theorem le_iff (a b : Str) : Le a b ↔ a.cps.toList ≤ b.cps.toList := by
  unfold Le
  rw [ltCps_eq]
  simp
theorem le_trans3 (a b c : Str) (h1 : Le a b) (h2 : Le b c) : Le a c := by
  rw [le_iff] at *
  exact List.le_trans h1 h2
theorem le_anti (a b : Str) (h1 : Le a b) (h2 : Le b a) : a = b := by
  rw [le_iff] at *
  have q := List.le_antisymm h1 h2
  cases a with
  | mk x =>
    cases b with
    | mk y =>
      have q' : x.toList = y.toList := q
      rw [Array.toList_inj.mp q']
theorem one_order : ∀ (l m : List Str), l.Pairwise Le → m.Pairwise Le → l.Nodup → m.Nodup → (∀ x, x ∈ l ↔ x ∈ m) → l = m
  | [], [], _, _, _, _, _ => rfl
  | [], y :: m, _, _, _, _, h => by
    have := (h y).2 List.mem_cons_self
    cases this
  | x :: l, [], _, _, _, _, h => by
    have := (h x).1 List.mem_cons_self
    cases this
  | x :: l, y :: m, pl, pm, nl, nm, h => by
    obtain ⟨l1, l2⟩ := List.pairwise_cons.mp pl
    obtain ⟨m1, m2⟩ := List.pairwise_cons.mp pm
    obtain ⟨k1, k2⟩ := List.nodup_cons.mp nl
    obtain ⟨j1, j2⟩ := List.nodup_cons.mp nm
    have exy : x = y := by
      rcases List.mem_cons.mp ((h x).1 List.mem_cons_self) with z | z
      · exact z
      · rcases List.mem_cons.mp ((h y).2 List.mem_cons_self) with q | q
        · exact q.symm
        · exact le_anti _ _ (l1 y q) (m1 x z)
    subst exy
    rw [one_order l m l2 m2 k2 j2 fun z => ?_]
    constructor
    · intro hz
      rcases List.mem_cons.mp ((h z).1 (List.mem_cons_of_mem _ hz)) with e | e
      · exact absurd (e ▸ hz) k1
      · exact e
    · intro hz
      rcases List.mem_cons.mp ((h z).2 (List.mem_cons_of_mem _ hz)) with e | e
      · exact absurd (e ▸ hz) j1
      · exact e
theorem sorted_pairs : ∀ l : List Str, sortedS l = true → l.Pairwise Le
  | [], _ => List.Pairwise.nil
  | x :: r, h => rising_pairs x r h le_trans3
end Kf
set_option Elab.async false
set_option linter.all false
set_option maxRecDepth 100000
set_option maxHeartbeats 4000000
/-! The defs by which the law makes its inputs. -/
namespace Kf
open PySem PySem.Spec PyProof.Rows L2 Sx
def top (i : Nat) : Stmt := PySem.Challenge.pw_prooffruit_k05_names_that_stand_there.main.body.getD i (.Pass ⟨0, 0, 0, 0⟩)
abbrev sFeed : Stmt := top 8
abbrev sTake : Stmt := top 9
abbrev sPick : Stmt := top 10
abbrev sLeaf : Stmt := top 11
theorem scFeed : FnScope ["script", "k", "seed", "digits"] ["script", "k"] (defScope sFeed) := ⟨rfl, rfl, rfl, by decide +kernel, rfl, by decide +kernel, by decide +kernel⟩
theorem scTake : FnScope ["feed", "many", "found"] ["feed", "many"] (defScope sTake) := ⟨rfl, rfl, rfl, by decide +kernel, rfl, by decide +kernel, by decide +kernel⟩
theorem scPick : FnScope ["feed", "some"] ["feed", "some"] (defScope sPick) := ⟨rfl, rfl, rfl, by decide +kernel, rfl, by decide +kernel, by decide +kernel⟩
theorem scLeaf : FnScope ["feed", "names", "around", "way"] ["feed", "names", "around"] (defScope sLeaf) := ⟨rfl, rfl, rfl, by decide +kernel, rfl, by decide +kernel, by decide +kernel⟩
/-- the feed at f: two numbers, the second below 2 ^ 61 - 1 -/
def FeedAt (H : Hp) (f : Addr) : Prop := ∃ a b : Int, H f = some (.lst [.int a, .int b]) ∧ 0 ≤ b ∧ b < 2305843009213693951
theorem FeedAt.keep {H H' : Hp} {f g : Addr} (h : FeedAt H f) (n : f ≠ g) (b : But g H H') : FeedAt H' f := by
  obtain ⟨x, y, e, q⟩ := h
  exact ⟨x, y, b _ _ n e, q⟩
theorem FeedAt.same {H H' : Hp} {f : Addr} (h : FeedAt H f) (b : Same H H') : FeedAt H' f := by
  obtain ⟨x, y, e, q⟩ := h
  exact ⟨x, y, b _ _ e, q⟩
theorem FeedAt.tups {H H' : Hp} {f : Addr} (h : FeedAt H f) (b : But f H H') : Tups H H' := by
  obtain ⟨x, y, e, q⟩ := h
  exact b.tups e
/-- a list of the call's own -/
theorem FeedAt.ne {H : Hp} {f p : Addr} (h : FeedAt H f) (e : H p = none) : p ≠ f := fun z => by
  obtain ⟨x, y, e2, q⟩ := h
  rw [z, e2] at e
  cases e
section
variable {P : Program} {w : World} {K : PySem.W.Frag} {mg : Str → Option Value} {base : Heap}
/-! ### _law_feed -/
def spFeed (K : PySem.W.Frag) : Sp := fun vs H Q _ => ∃ (a : Addr) (ns : List Int) (k : Nat), vs = [.ref a, .int (k : Int)] ∧ SqL K H a (ns.map V.int) ∧ (∀ z ∈ ns, Builtin.Int.intBits z ≤ 1048576) ∧ k ≤ 100 ∧
  ∀ p H', Same H H' → H p = none → FeedAt H' p → Q (.ref p) H'
theorem notM : (2305843009213693951 : Int) ≠ 0 := by decide
theorem modM (i : Int) : 0 ≤ i.fmod 2305843009213693951 ∧ i.fmod 2305843009213693951 < 2305843009213693951 := by
  rw [Int.fmod_eq_emod_of_nonneg _ (by decide)]
  exact ⟨Int.emod_nonneg _ (by decide), Int.emod_lt_of_pos _ (by decide)⟩
theorem seed_ok {z : Int} (h : Builtin.Int.intBits z ≤ 1048576) : CMulX z 6364136223846793005 := by
  unfold CMulX
  have e : Builtin.Int.intBits 6364136223846793005 = 63 := by decide +kernel
  rw [e]
  omega
theorem ok_feed {f : Addr} {fd : FuncData} {j : Nat} (F : Fun K "_law_feed" "_law_feed" sFeed f fd) (ml : mg "len" = none) (ma : mg "abs" = none) : FnOk P w K mg base CX0 (j + 1) f fd ["script", "k"] (spFeed K) := by
  refine F.ok scFeed (fun vs H Q E h => ?_) (fun cdv A outer s H vs Q E hr h => ?_)
  · obtain ⟨a, ns, k, rfl, _⟩ := h
    rfl
  obtain ⟨a, ns, k, rfl, hS, hb, hk, q⟩ := h
  refine ⟨_, pss_cons (ps_set (i := 2) scFeed.nd rfl (.inl rfl) (pe_op op_add (pe_op op_mul pe_int (pv 1)) pe_int))
    (pss_cons (ps_if (pt_cmpR op_lt (pv 1) (pe_callB call_len_seq (by rfl) ml PySem.boot_len (pa_cons (pv 0) pa_nil)) (nomark _)) (pss_one (ps_set (i := 2) scFeed.nd rfl (.inl rfl) (pe_ix ix_list (pv 0) (pv 1) (fun _ _ => rfl)))) pss_nil)
    (pss_cons (ps_set (i := 3) scFeed.nd rfl (.inl rfl) pe_int)
    (pss_cons (ps_if (pt_cmpR op_ge (pe_callB call_abs (by rfl) ma (by decide +kernel) (pa_cons (pv 2) pa_nil)) (pe_op op_pow pe_int pe_int) (nomark _)) (pss_one (ps_set (i := 3) scFeed.nd rfl (.inl rfl) (pe_op op_sub (pe_callB call_abs (by rfl) ma (by decide +kernel) (pa_cons (pv 2) pa_nil)) (pe_op op_pow pe_int pe_int)))) pss_nil)
    (pss_one (ps_ret (pe_lst (pa_cons (pv 3) (pa_cons (pe_op op_modN (pe_op op_add (pe_op op_add (pe_op op_mulX (pv 2) pe_int) (pe_op op_mul pe_int (pv 1))) pe_int) pe_int) pa_nil)))))))), ?_⟩
  refine ⟨_, rfl, _, _, rfl, rfl, .inl ⟨by decide, by decide⟩, _, _, rfl, rfl, ?_⟩
  refine ⟨_, rfl, _, rfl, a, _, rfl, .inl hS, _, _, rfl, rfl, _, rfl, ?_⟩
  have fin : ∀ (z d : Int), Builtin.Int.intBits z ≤ 1048576 → ∀ p, H p = none → Q (.ref p) (upd H p (.lst [.int d, .int ((z * 6364136223846793005 + 7919 * (k : Int) + 1442695040888963407).fmod 2305843009213693951)])) := fun z d _ p hp => by
    refine q p _ (same_new hp) hp ⟨_, _, upd_same, (modM _).1, (modM _).2⟩
  have two : ∀ (z : Int), Builtin.Int.intBits z ≤ 1048576 → CMulX z 6364136223846793005 ∧ CMul 7919 (k : Int) := fun z hz => ⟨seed_ok hz, .inl ⟨by decide, by decide⟩⟩
  refine ite2 (fun c => ?_) (fun c => ?_)
  · have c' : (k : Int) < (((ns.map V.int).length : Nat) : Int) := of_decide_eq_true c
    have lt : k < ns.length := by
      rw [List.length_map] at c'
      omega
    have item : atI (ns.map V.int) (k : Int) = some (.int ns[k]) := atI_nat (by rw [List.getElem?_map, List.getElem?_eq_getElem lt]; rfl)
    have hz := hb ns[k] (List.getElem_mem lt)
    refine ⟨_, rfl, _, rfl, a, _, _, _, rfl, rfl, hS, item, ?_⟩
    refine ⟨_, rfl, _, rfl, _, _, rfl, rfl, ⟨by decide, by decide, by decide⟩, _, _, rfl, rfl, _, rfl, ?_⟩
    refine ite2 (fun _ => ?_) (fun _ => ?_)
    · refine ⟨_, rfl, _, rfl, _, _, rfl, rfl, ⟨by decide, by decide, by decide⟩, _, _, rfl, rfl, ?_⟩
      exact ⟨_, rfl, _, rfl, _, _, rfl, rfl, (two _ hz).1, _, rfl, _, _, rfl, rfl, (two _ hz).2, _, _, rfl, rfl, _, _, rfl, rfl, _, _, rfl, rfl, notM, (by show 2 ≤ sizeLine; decide), fin _ _ hz⟩
    · exact ⟨_, rfl, _, rfl, _, _, rfl, rfl, (two _ hz).1, _, rfl, _, _, rfl, rfl, (two _ hz).2, _, _, rfl, rfl, _, _, rfl, rfl, _, _, rfl, rfl, notM, (by show 2 ≤ sizeLine; decide), fin _ _ hz⟩
  · have hz : Builtin.Int.intBits (67 * (k : Int) + 19) ≤ 1048576 := by
      refine Nat.le_trans (PyProof.Rows.intBits_le (k := 20) ?_) (by decide)
      have : (67 * (k : Int) + 19).natAbs ≤ 6719 := by omega
      exact Nat.lt_of_le_of_lt this (by decide)
    refine ⟨_, rfl, _, rfl, _, _, rfl, rfl, ⟨by decide, by decide, by decide⟩, _, _, rfl, rfl, _, rfl, ?_⟩
    refine ite2 (fun _ => ?_) (fun _ => ?_)
    · refine ⟨_, rfl, _, rfl, _, _, rfl, rfl, ⟨by decide, by decide, by decide⟩, _, _, rfl, rfl, ?_⟩
      exact ⟨_, rfl, _, rfl, _, _, rfl, rfl, (two _ hz).1, _, rfl, _, _, rfl, rfl, (two _ hz).2, _, _, rfl, rfl, _, _, rfl, rfl, _, _, rfl, rfl, notM, (by show 2 ≤ sizeLine; decide), fin _ _ hz⟩
    · exact ⟨_, rfl, _, rfl, _, _, rfl, rfl, (two _ hz).1, _, rfl, _, _, rfl, rfl, (two _ hz).2, _, _, rfl, rfl, _, _, rfl, rfl, _, _, rfl, rfl, notM, (by show 2 ≤ sizeLine; decide), fin _ _ hz⟩
/-! ### _law_take -/
def spTake : Sp := fun vs H Q _ => ∃ (f : Addr) (many : Int), vs = [.ref f, .int many] ∧ 0 < many ∧ many.natAbs < 2 ^ 200 ∧ FeedAt H f ∧
  ∀ (r : Int) H', 0 ≤ r → r < many → But f H H' → FeedAt H' f → Q (.int r) H'
theorem mod_in {i m : Int} (h : 0 < m) : 0 ≤ i.fmod m ∧ i.fmod m < m := by
  rw [Int.fmod_eq_emod_of_nonneg _ (Int.le_of_lt h)]
  exact ⟨Int.emod_nonneg _ (Int.ne_of_gt h), Int.emod_lt_of_pos _ h⟩
theorem ok_take {f : Addr} {fd : FuncData} {j : Nat} (F : Fun K "_law_take" "_law_take" sTake f fd) : FnOk P w K mg base CX0 (j + 1) f fd ["feed", "many"] spTake := by
  refine F.ok scTake (fun vs H Q E h => ?_) (fun cdv A outer s H vs Q E hr h => ?_)
  · obtain ⟨a, m, rfl, _⟩ := h
    rfl
  obtain ⟨f, m, rfl, pos, small, ⟨x, y, hf, y0, y1⟩, q⟩ := h
  refine ⟨_, pss_cons (ps_if (pt_cmpR op_gt (pe_ix ix_list (pv 0) pe_int (fun _ _ => rfl)) pe_int (nomark _))
      (pss_cons (ps_set (i := 2) scTake.nd rfl (.inl rfl) (pe_op op_modN (pe_ix ix_list (pv 0) pe_int (fun _ _ => rfl)) (pv 1)))
      (pss_cons (ps_asg (pe_op op_fdivW (pe_ix ix_list (pv 0) pe_int (fun _ _ => rfl)) (pv 1)) (pg_sub (pv 0) pe_int set_list)) (pss_one (ps_ret (pv 2))))) pss_nil)
    (pss_cons (ps_asg (pe_op op_modN (pe_op op_add (pe_op op_mul (pe_ix ix_list (pv 0) pe_int (fun _ _ => rfl)) pe_int) pe_int) pe_int) (pg_sub (pv 0) pe_int set_list))
    (pss_one (ps_ret (pe_op op_modN (pe_op op_fdiv (pe_ix ix_list (pv 0) pe_int (fun _ _ => rfl)) pe_int) (pv 1))))), ?_⟩
  have s0 : SqL K H f [.int x, .int y] := .inl (.inl hf)
  refine ⟨_, rfl, f, _, 0, .int x, rfl, rfl, s0, rfl, _, _, rfl, rfl, _, rfl, ?_⟩
  refine ite2 (fun c => ?_) (fun c => ?_)
  · refine ⟨_, rfl, f, _, 0, .int x, rfl, rfl, s0, rfl, _, rfl, _, _, rfl, rfl, Int.ne_of_gt pos, ?_⟩
    refine ⟨_, rfl, f, _, 0, .int x, rfl, rfl, s0, rfl, _, rfl, _, _, rfl, rfl, wide_div pos small (by decide) (by decide), ?_⟩
    refine ⟨_, rfl, f, _, 0, 0, rfl, rfl, hf, rfl, _, rfl, ?_⟩
    exact q _ _ (mod_in pos).1 (mod_in pos).2 ((But.refl f H).own) ⟨_, _, upd_same, y0, y1⟩
  · refine ⟨_, rfl, f, _, 1, .int y, rfl, rfl, s0, rfl, _, _, rfl, rfl, .inr ⟨by decide, by decide⟩, _, _, rfl, rfl, _, _, rfl, rfl, notM, ?_⟩
    refine ⟨_, rfl, f, _, 1, 1, rfl, rfl, hf, rfl, ?_⟩
    refine ⟨_, rfl, f, _, 1, _, rfl, rfl, .inl (.inl upd_same), rfl, _, _, rfl, rfl, ⟨by decide, by decide⟩, _, rfl, _, _, rfl, rfl, Int.ne_of_gt pos, ?_⟩
    exact q _ _ (mod_in pos).1 (mod_in pos).2 ((But.refl f H).own) ⟨_, _, upd_same, (modM _).1, (modM _).2⟩
/-! ### _law_pick -/
theorem atI_in {α : Type} {xs : List α} {r : Int} (h0 : 0 ≤ r) (h1 : r < (xs.length : Int)) : ∃ x ∈ xs, atI xs r = some x := by
  have lt : r.toNat < xs.length := by omega
  have er : ((r.toNat : Nat) : Int) = r := by omega
  have q : atI xs ((r.toNat : Nat) : Int) = some xs[r.toNat] := atI_nat (List.getElem?_eq_getElem lt)
  rw [er] at q
  exact ⟨_, List.getElem_mem lt, q⟩
/-- from a list -/
def spPick (K : PySem.W.Frag) : Sp := fun vs H Q _ => ∃ (f l : Addr) (xs : List V), vs = [.ref f, .ref l] ∧ l ≠ f ∧ SqL K H l xs ∧ 0 < xs.length ∧ xs.length ≤ 1000 ∧ FeedAt H f ∧
  ∀ x ∈ xs, ∀ H', But f H H' → FeedAt H' f → Q x H'
theorem seq_but {K : PySem.W.Frag} {f l : Addr} {H H' : Hp} {xs : List V} (n : l ≠ f) (b : But f H H') (h : SqL K H l xs) : SqL K H' l xs := by
  rcases h with (h | ⟨o, h⟩) | h
  · exact .inl (.inl (b _ _ n h))
  · exact .inl (.inr ⟨o, b _ _ n h⟩)
  · exact .inr h
theorem len200 {n : Nat} (h : n ≤ 1000) : ((n : Nat) : Int).natAbs < 2 ^ 200 := Nat.lt_of_le_of_lt (by rw [Int.natAbs_natCast]; exact h) (by decide)
theorem ok_pick {f g : Addr} {fd gd : FuncData} {j : Nat} (F : Fun K "_law_pick" "_law_pick" sPick f fd) (G : FnOk P w K mg base CX0 (j + 1) g gd ["feed", "many"] spTake) (bG : Binds K gd ["feed", "many"] []) (kG : PySem.W.keepIn K (.ref g) = true) (mG : mg "_law_take" = some (.ref g)) (ml : mg "len" = none) :
    FnOk P w K mg base CX0 (j + 2) f fd ["feed", "some"] (spPick K) := by
  refine F.ok scPick (fun vs H Q E h => ?_) (fun cdv A outer s H vs Q E hr h => ?_)
  · obtain ⟨a, l, xs, rfl, _⟩ := h
    rfl
  obtain ⟨f, l, xs, rfl, apart, hS, pos, few, hF, q⟩ := h
  refine ⟨_, pss_one (ps_ret (pe_ix ix_list (pv 1) (pe_call G hr (by rfl) mG kG bG .nil pass0 (pa_cons (pv 0) (pa_cons (pe_callB call_len_seq (by rfl) ml PySem.boot_len (pa_cons (pv 1) pa_nil)) pa_nil))) (fun _ _ => rfl))), ?_⟩
  refine ⟨_, rfl, _, rfl, _, rfl, l, xs, rfl, .inl hS, f, _, rfl, (by omega), len200 few, hF, fun r H' r0 r1 b hF' => ?_⟩
  obtain ⟨x, hx, item⟩ := atI_in r0 r1
  exact ⟨l, xs, r, _, rfl, rfl, seq_but apart b hS, item, q _ hx H' b hF'⟩
/-- from a text -/
def spPickS : Sp := fun vs H Q _ => ∃ (f : Addr) (z : Str), vs = [.ref f, .str z] ∧ 0 < z.length ∧ z.length ≤ 1000 ∧ FeedAt H f ∧ ∀ c ∈ z.cps.toList, ∀ H', But f H H' → FeedAt H' f → Q (.str ⟨#[c]⟩) H'
theorem ok_pickS {f g : Addr} {fd gd : FuncData} {j : Nat} (F : Fun K "_law_pick" "_law_pick" sPick f fd) (G : FnOk P w K mg base CX0 (j + 1) g gd ["feed", "many"] spTake) (bG : Binds K gd ["feed", "many"] []) (kG : PySem.W.keepIn K (.ref g) = true) (mG : mg "_law_take" = some (.ref g)) (ml : mg "len" = none) :
    FnOk P w K mg base CX0 (j + 2) f fd ["feed", "some"] spPickS := by
  refine F.ok scPick (fun vs H Q E h => ?_) (fun cdv A outer s H vs Q E hr h => ?_)
  · obtain ⟨a, z, rfl, _⟩ := h
    rfl
  obtain ⟨f, z, rfl, pos, few, hF, q⟩ := h
  refine ⟨_, pss_one (ps_ret (pe_ix ix_str (pv 1) (pe_call G hr (by rfl) mG kG bG .nil pass0 (pa_cons (pv 0) (pa_cons (pe_callB call_len_str (by rfl) ml PySem.boot_len (pa_cons (pv 1) pa_nil)) pa_nil))) (fun _ _ => rfl))), ?_⟩
  have line : z.length ≤ sizeLine := Nat.le_trans few (by decide)
  refine ⟨_, rfl, _, rfl, _, rfl, z, rfl, line, f, _, rfl, (by omega), len200 few, hF, fun r H' r0 r1 b hF' => ?_⟩
  have ln : z.cps.toList.length = z.length := Array.length_toList
  obtain ⟨x, hx, item⟩ := atI_in (xs := z.cps.toList) r0 (by omega)
  exact ⟨z, r, _, rfl, rfl, line, item, q _ hx H' b hF'⟩
end
end Kf
set_option Elab.async false
set_option linter.all false
set_option maxRecDepth 100000
set_option maxHeartbeats 4000000
/-! The terms and sayings that the law makes. -/
namespace Kf
open PySem PySem.Spec PyProof.Rows L2 Sx
abbrev sTerm : Stmt := top 12
abbrev sSaying : Stmt := top 13
theorem scTerm : FnScope ["feed", "deep", "names", "around", "word", "one"] ["feed", "deep", "names", "around"] (defScope sTerm) := ⟨rfl, rfl, rfl, by decide +kernel, rfl, by decide +kernel, by decide +kernel⟩
theorem scSaying : FnScope ["feed", "deep", "names", "around", "way", "word"] ["feed", "deep", "names", "around"] (defScope sSaying) := ⟨rfl, rfl, rfl, by decide +kernel, rfl, by decide +kernel, by decide +kernel⟩
/-! ### lists of texts as data -/
def NmOk (z : Str) : Prop := z.cps.all (· < 0x110000) = true
theorem dp_strs {K : PySem.W.Frag} {H : Hp} {a : Addr} {ns : List Str} (h : SqL K H a (ns.map V.str)) : Dp K H (.ref a) (.list (ns.map PyData.str)) := by
  refine .lst h ?_
  clear h
  induction ns with
  | nil => exact .nil
  | cons x r ih => exact .cons (.str x) ih
theorem eqv_strs : ∀ xs ys : List Str, PyData.eqvAll (xs.map .str) (ys.map .str) = decide (xs = ys)
  | [], [] => rfl
  | [], _ :: _ => rfl
  | _ :: _, [] => rfl
  | x :: xs, y :: ys => by
    show (x == y && PyData.eqvAll (xs.map .str) (ys.map .str)) = decide (x :: xs = y :: ys)
    rw [eqv_strs xs ys]
    by_cases e : x = y
    · subst e
      simp
    · have e2 : (x == y) = false := beq_eq_false_iff_ne.mpr e
      rw [e2]
      simp [e]
theorem lay_strs : ∀ ns : List Str, (∀ z ∈ ns, NmOk z) → PyData.canLayAll0 (ns.map .str) = true ∧ PyData.depthAll (ns.map .str) = 0
  | [], _ => ⟨rfl, rfl⟩
  | z :: r, h => by
    obtain ⟨h1, h2⟩ := lay_strs r fun y hy => h y (List.mem_cons_of_mem _ hy)
    have hz : z.cps.all (· < 0x110000) = true := h z List.mem_cons_self
    refine ⟨?_, ?_⟩
    · show (z.cps.all (· < 0x110000) && PyData.canLayAll0 (r.map .str)) = true
      rw [hz, h1]
      rfl
    · show max 0 (PyData.depthAll (r.map .str)) = 0
      rw [h2]
      rfl
theorem shaped_strs {ns : List Str} (h : ∀ z ∈ ns, NmOk z) : SeqAt.shaped (.list (ns.map .str)) = true := by
  obtain ⟨h1, h2⟩ := lay_strs ns h
  show (PyData.canLayAll0 (ns.map .str) && decide (PyData.depthAll (ns.map .str) + 1 ≤ 64)) = true
  rw [h1, h2]
  rfl
/-! ### what the law makes -/
/-- numbers and bounds that may stand where r of all and some stand around -/
def Tr.In : Tr → Int → Prop
  | .leaf w x, r => (w = "num" ∧ ∃ n : Int, x = .int n ∧ 0 ≤ n ∧ n < 10 ^ 60) ∨ (w = "name" ∧ ∃ z, x = .str z) ∨ (w = "bound" ∧ ∃ k : Int, x = .int k ∧ 0 ≤ k ∧ k < r)
  | .n0 _, _ => True
  | .n1 w a, r => a.In (if binds w = true then r + 1 else r)
  | .n2 w a b, r => binds w = false ∧ a.In r ∧ b.In r
/-- no is a word of its own -/
def Tr.Not : Tr → Prop
  | .leaf _ _ => True
  | .n0 _ => True
  | .n1 w a => w ≠ "no" ∧ a.Not
  | .n2 w a b => w ≠ "no" ∧ a.Not ∧ b.Not
/-- the names' list -/
structure NmAt (H : Hp) (l : Addr) (ns : List Str) : Prop where
  at_ : H l = some (.lst (ns.map V.str))
  few : ns.length ≤ 60
  ok : ∀ z ∈ ns, NmOk z
theorem NmAt.keep {H H' : Hp} {f l : Addr} {ns : List Str} (h : NmAt H l ns) (n : l ≠ f) (b : But f H H') : NmAt H' l ns := ⟨b _ _ n h.at_, h.few, h.ok⟩
theorem NmAt.same {H H' : Hp} {l : Addr} {ns : List Str} (h : NmAt H l ns) (b : Same H H') : NmAt H' l ns := ⟨b _ _ h.at_, h.few, h.ok⟩
/-- a made tree -/
structure Made (ns : List Str) (r : Int) (d : Nat) (t : Tr) : Prop where
  ok : t.Ok
  inn : t.In r
  dp : t.deep ≤ d
  nm : ∀ z ∈ t.names, z ∈ ns
  no : t.Not
theorem made_num {ns : List Str} {r n : Int} (h0 : 0 ≤ n) (h1 : n < 10 ^ 60) : Made ns r 1 (.leaf "num" (.int n)) :=
  ⟨⟨by decide +kernel, .inl ⟨⟨n, rfl⟩, by decide +kernel⟩⟩, .inl ⟨rfl, n, rfl, h0, h1⟩, Nat.le_refl 1, fun z hz => by
    rw [show (Tr.leaf "num" (.int n)).names = [] from if_neg (by decide +kernel)] at hz
    exact (List.not_mem_nil hz).elim, trivial⟩
theorem made_name {ns : List Str} {r : Int} {x : Str} (h : x ∈ ns) : Made ns r 1 (.leaf "name" (.str x)) :=
  ⟨⟨by decide +kernel, .inr ⟨⟨x, rfl⟩, rfl⟩⟩, .inr (.inl ⟨rfl, x, rfl⟩), Nat.le_refl 1, fun z hz => by
    rw [show (Tr.leaf "name" (.str x)).names = [x] from if_pos rfl] at hz
    rw [List.mem_singleton.mp hz]
    exact h, trivial⟩
theorem made_bound {ns : List Str} {r k : Int} (h0 : 0 ≤ k) (h1 : k < r) : Made ns r 1 (.leaf "bound" (.int k)) :=
  ⟨⟨by decide +kernel, .inl ⟨⟨k, rfl⟩, by decide +kernel⟩⟩, .inr (.inr ⟨rfl, k, rfl, h0, h1⟩), Nat.le_refl 1, fun z hz => by
    rw [show (Tr.leaf "bound" (.int k)).names = [] from if_neg (by decide +kernel)] at hz
    exact (List.not_mem_nil hz).elim, trivial⟩
theorem made_no {ns : List Str} {r : Int} : Made ns r 1 (.n0 "no") := ⟨by show leafy "no" = false; decide +kernel, trivial, Nat.le_refl 1, fun z hz => (List.not_mem_nil hz).elim, trivial⟩
theorem Made.up {ns : List Str} {r : Int} {d e : Nat} {t : Tr} (h : Made ns r d t) (le : d ≤ e) : Made ns r e t := ⟨h.ok, h.inn, Nat.le_trans h.dp le, h.nm, h.no⟩
theorem made_one {ns : List Str} {r r2 : Int} {d : Nat} {w : Str} {a : Tr} (hw : leafy w = false) (hn : w ≠ "no") (hr : (if binds w = true then r + 1 else r) = r2) (h : Made ns r2 d a) : Made ns r (d + 1) (.n1 w a) :=
  ⟨⟨hw, h.ok⟩, by show a.In _; rw [hr]; exact h.inn, Nat.succ_le_succ h.dp, h.nm, ⟨hn, h.no⟩⟩
theorem made_two {ns : List Str} {r : Int} {d : Nat} {w : Str} {a b : Tr} (hw : leafy w = false) (hn : w ≠ "no") (hb : binds w = false) (h : Made ns r d a) (g : Made ns r d b) : Made ns r (d + 1) (.n2 w a b) :=
  ⟨⟨hw, h.ok, g.ok⟩, ⟨hb, h.inn, g.inn⟩, Nat.succ_le_succ (Nat.max_le.mpr ⟨h.dp, g.dp⟩), fun z hz => (List.mem_append.mp hz).elim (h.nm z) (g.nm z), ⟨hn, h.no, g.no⟩⟩
/-- what is promised of a made tree -/
def Out (f : Addr) (H : Hp) (ns : List Str) (r : Int) (d : Nat) (Q : VK) : Prop := ∀ t v H', Made ns r d t → At H' t v → But f H H' → FeedAt H' f → Q v H'
/-- what stands behind several ways, shown once -/
theorem join {C G : Hp → Prop} {M : Prop} (main : (∀ H, C H → G H) → M) (rest : ∀ H, C H → G H) : M := main rest
section
variable {P : Program} {w : World} {K : PySem.W.Frag} {mg : Str → Option Value} {base : Heap}
def spLeaf : Sp := fun vs H Q _ => ∃ (f l : Addr) (ns : List Str) (r : Int), vs = [.ref f, .ref l, .int r] ∧ l ≠ f ∧ NmAt H l ns ∧ r ≤ 1000 ∧ FeedAt H f ∧ Out f H ns r 1 Q
/-- the defs that draw -/
structure Draw (P : Program) (w : World) (K : PySem.W.Frag) (mg : Str → Option Value) (base : Heap) (ft fp : Addr) (dt dp : FuncData) : Prop where
  T : FnOk P w K mg base CX0 1 ft dt ["feed", "many"] spTake
  bT : Binds K dt ["feed", "many"] []
  kT : PySem.W.keepIn K (.ref ft) = true
  mT : mg "_law_take" = some (.ref ft)
  Pk : FnOk P w K mg base CX0 2 fp dp ["feed", "some"] (spPick K)
  Ps : FnOk P w K mg base CX0 2 fp dp ["feed", "some"] spPickS
  bP : Binds K dp ["feed", "some"] []
  kP : PySem.W.keepIn K (.ref fp) = true
  mP : mg "_law_pick" = some (.ref fp)
theorem few1000 {n : Int} (h0 : 0 < n) (h : n ≤ 1000) : n.natAbs < 2 ^ 200 := Nat.lt_of_le_of_lt (show n.natAbs ≤ 1000 by omega) (by decide)
theorem ok_leaf {f ft fp : Addr} {fd dt dp : FuncData} (F : Fun K "_law_leaf" "_law_leaf" sLeaf f fd) (D : Draw P w K mg base ft fp dt dp) : FnOk P w K mg base CX0 3 f fd ["feed", "names", "around"] spLeaf := by
  refine F.ok scLeaf (fun vs H Q E h => ?_) (fun cdv A outer s H vs Q E hr h => ?_)
  · obtain ⟨a, l, ns, r, rfl, _⟩ := h
    rfl
  obtain ⟨f, l, ns, r, rfl, apart, hN, r1, hF, q⟩ := h
  have h1 : Room 1 _ := hr.mono (by decide)
  refine ⟨_, pss_cons (ps_set (i := 3) scLeaf.nd rfl (.inl rfl) (pe_call D.T h1 (by rfl) D.mT D.kT D.bT .nil pass0 (pa_cons (pv 0) (pa_cons pe_int pa_nil))))
    (pss_cons (ps_if (PW.pt (pw_and (pt_cmpR op_lt (pv 3) pe_int (nomark _)) (pw_and1 (pt_cmpR (op_neD hr.units) (pv 1) (pe_lst pa_nil) (nomark _)))))
      (pss_one (ps_ret (pe_tup (pa_cons pe_str (pa_cons (pe_call D.Pk hr (by rfl) D.mP D.kP D.bP .nil pass0 (pa_cons (pv 0) (pa_cons (pv 1) pa_nil))) pa_nil))))) pss_nil)
    (pss_cons (ps_if (PW.pt (pw_and (pt_cmpR op_lt (pv 3) pe_int (nomark _)) (pw_and1 (pt_cmpR op_gt (pv 2) pe_int (nomark _)))))
      (pss_one (ps_ret (pe_tup (pa_cons pe_str (pa_cons (pe_call D.T h1 (by rfl) D.mT D.kT D.bT .nil pass0 (pa_cons (pv 0) (pa_cons (pv 2) pa_nil))) pa_nil))))) pss_nil)
    (pss_one (ps_ret (pe_tup (pa_cons pe_str (pa_cons (pe_call D.Pk hr (by rfl) D.mP D.kP D.bP .nil pass0 (pa_cons (pv 0) (pa_cons
      (pe_lst (pa_cons pe_int (pa_cons pe_int (pa_cons pe_int (pa_cons (pe_call D.T h1 (by rfl) D.mT D.kT D.bT .nil pass0 (pa_cons (pv 0) (pa_cons pe_int pa_nil)))
        (pa_cons (pe_call D.T h1 (by rfl) D.mT D.kT D.bT .nil pass0 (pa_cons (pv 0) (pa_cons (pe_op op_pow pe_int pe_int) pa_nil))) (pa_cons (pe_op op_sub (pe_op op_pow pe_int pe_int) pe_int) pa_nil))))))) pa_nil))) pa_nil))))))), ?_⟩
  refine ⟨_, rfl, f, 8, rfl, by decide, by decide, hF, fun way H1 _ _ b1 hF1 => ?_⟩
  apply join (C := fun H2 => But f H H2 ∧ FeedAt H2 f)
  · intro rest
    refine ⟨_, rfl, _, _, rfl, rfl, _, rfl, ?_⟩
    refine ite2 (fun _ => ?_) (fun _ => iteF (rest H1 ⟨b1, hF1⟩))
    refine ⟨_, rfl, Nat.zero_le _, fun e he => ?_⟩
    have hN1 := hN.keep apart b1
    have bb : But f H (upd H1 e (.lst [])) := b1.new he
    have hF2 : FeedAt (upd H1 e (.lst [])) f := hF1.same (same_new he)
    have hN2 : NmAt (upd H1 e (.lst [])) l ns := hN.keep apart bb
    have d0 : Dp K (upd H1 e (.lst [])) (.ref e) (.list (([] : List Str).map PyData.str)) := dp_strs (ns := []) (.inl (.inl upd_same))
    refine ⟨_, _, dp_strs (.inl (.inl hN2.at_)), d0, shaped_strs hN2.ok, shaped_strs (fun z hz => by cases hz), _, rfl, ?_⟩
    show if (!PyData.eqvAll (ns.map .str) (([] : List Str).map .str)) = true then _ else _
    rw [eqv_strs]
    by_cases en : ns = []
    · rw [decide_eq_true en]
      exact iteF (rest _ ⟨bb, hF2⟩)
    · rw [decide_eq_false en]
      refine iteT ?_
      have pos : 0 < (ns.map V.str).length := by
        rw [List.length_map]
        exact List.length_pos_iff.mpr en
      refine ⟨_, rfl, _, rfl, f, l, _, rfl, apart, .inl (.inl hN2.at_), pos, (by rw [List.length_map]; exact Nat.le_trans hN2.few (by decide)), hF2, fun x hx H3 b3 hF3 => ?_⟩
      obtain ⟨z, hz, rfl⟩ := List.mem_map.mp hx
      refine ⟨(by show 2 ≤ sizeLine; decide), fun p hp => ?_⟩
      exact q _ _ _ (made_name hz) ⟨p, rfl, upd_same⟩ ((bb.trans b3).new hp) (hF3.same (same_new hp))
  · intro H2 ⟨b2, hF2⟩
    apply join (C := fun H2 => But f H H2 ∧ FeedAt H2 f)
    · intro last
      refine ⟨_, rfl, _, _, rfl, rfl, _, rfl, ?_⟩
      refine ite2 (fun _ => ?_) (fun _ => iteF (last H2 ⟨b2, hF2⟩))
      refine ⟨_, rfl, _, _, rfl, rfl, _, rfl, ?_⟩
      refine ite2 (fun c => ?_) (fun _ => last H2 ⟨b2, hF2⟩)
      have pos : 0 < r := of_decide_eq_true c
      refine ⟨_, rfl, _, rfl, f, r, rfl, pos, few1000 pos r1, hF2, fun k H3 k0 k1 b3 hF3 => ?_⟩
      refine ⟨(by show 2 ≤ sizeLine; decide), fun p hp => ?_⟩
      exact q _ _ _ (made_bound k0 k1) ⟨p, rfl, upd_same⟩ ((b2.trans b3).new hp) (hF3.same (same_new hp))
    · intro H3 ⟨b3, hF3⟩
      refine ⟨_, rfl, _, rfl, f, 7, rfl, by decide, by decide, hF3, fun k H4 k0 k1 b4 hF4 => ?_⟩
      refine ⟨_, rfl, _, _, rfl, rfl, ⟨by decide, by decide, by decide⟩, f, _, rfl, by decide, by decide +kernel, hF4, fun k2 H5 k20 k21 b5 hF5 => ?_⟩
      refine ⟨_, _, rfl, rfl, ⟨by decide, by decide, by decide⟩, _, _, rfl, rfl, (by show 6 ≤ sizeLine; decide), fun g hg => ?_⟩
      have bb : But f H (upd H5 g (.lst [.int 0, .int 1, .int 2, .int k, .int k2, .int (10 ^ (60 : Int).toNat - 1)])) := (((b3.trans b4).trans b5).new hg)
      refine ⟨f, g, _, rfl, hF5.ne hg, .inl (.inl upd_same), (by show 0 < 6; decide), (by show 6 ≤ 1000; decide), hF5.same (same_new hg), fun x hx H6 b6 hF6 => ?_⟩
      have nm : ∃ n : Int, x = .int n ∧ 0 ≤ n ∧ n < 10 ^ 60 := by
        have k2b : k2 < 10 ^ 30 := k21
        rcases List.mem_cons.mp hx with e | hx
        · exact ⟨0, e, by decide, by decide⟩
        rcases List.mem_cons.mp hx with e | hx
        · exact ⟨1, e, by decide, by decide⟩
        rcases List.mem_cons.mp hx with e | hx
        · exact ⟨2, e, by decide, by decide⟩
        rcases List.mem_cons.mp hx with e | hx
        · exact ⟨k, e, k0, by omega⟩
        rcases List.mem_cons.mp hx with e | hx
        · exact ⟨k2, e, k20, by omega⟩
        · exact ⟨_, List.mem_singleton.mp hx, by decide, by decide⟩
      obtain ⟨n, rfl, n0, n1⟩ := nm
      refine ⟨(by show 2 ≤ sizeLine; decide), fun p hp => ?_⟩
      exact q _ _ _ (made_num n0 n1) ⟨p, rfl, upd_same⟩ ((bb.trans b6).new hp) (hF6.same (same_new hp))
/-! ### _law_term -/
def spTerm (n : Nat) : Sp := fun vs H Q _ => ∃ (f l : Addr) (ns : List Str) (r : Int) (d : Nat), vs = [.ref f, .int (d : Int), .ref l, .int r] ∧ d + 1 ≤ n ∧ l ≠ f ∧ NmAt H l ns ∧ r ≤ 1000 ∧ FeedAt H f ∧ Out f H ns r (d + 1) Q
theorem words3 : ∀ x ∈ ([.str "next", .str "plus", .str "times"] : List V), ∃ wd : Str, x = .str wd ∧ leafy wd = false ∧ binds wd = false ∧ wd ≠ "no" := by
  intro x hx
  rcases List.mem_cons.mp hx with e | hx
  · exact ⟨_, e, by decide +kernel, by decide +kernel, by decide +kernel⟩
  rcases List.mem_cons.mp hx with e | hx
  · exact ⟨_, e, by decide +kernel, by decide +kernel, by decide +kernel⟩
  · exact ⟨_, List.mem_singleton.mp hx, by decide +kernel, by decide +kernel, by decide +kernel⟩
theorem no_calls {f : Addr} {fd : FuncData} {k : Nat} {ps : List Str} {sp : Sp} (no : ∀ vs H Q E, ¬ sp vs H Q E) : FnOk P w K mg base CX0 k f fd ps sp :=
  ⟨fun vs H Q E h => absurd h (no vs H Q E), fun A outer s H args us vs Q E _ _ _ _ h => absurd h (no vs H Q E)⟩
theorem ok_term {f ft fp fl : Addr} {fd dt dp dl : FuncData} {n : Nat} (F : Fun K "_law_term" "_law_term" sTerm f fd) (D : Draw P w K mg base ft fp dt dp)
    (L : FnOk P w K mg base CX0 3 fl dl ["feed", "names", "around"] spLeaf) (bL : Binds K dl ["feed", "names", "around"] []) (kL : PySem.W.keepIn K (.ref fl) = true) (mL : mg "_law_leaf" = some (.ref fl))
    (S : FnOk P w K mg base CX0 (3 + n) f fd ["feed", "deep", "names", "around"] (spTerm n)) (bS : Binds K fd ["feed", "deep", "names", "around"] []) (mS : mg "_law_term" = some (.ref f)) :
    FnOk P w K mg base CX0 (3 + n + 1) f fd ["feed", "deep", "names", "around"] (spTerm (n + 1)) := by
  refine F.ok scTerm (fun vs H Q E h => ?_) (fun cdv A outer s H vs Q E hr h => ?_)
  · obtain ⟨a, l, ns, r, d, rfl, _⟩ := h
    rfl
  obtain ⟨f, l, ns, r, d, rfl, dn, apart, hN, r1, hF, q⟩ := h
  have h1 : Room 1 _ := hr.mono (by omega)
  have h2 : Room 2 _ := hr.mono (by omega)
  have h3 : Room 3 _ := hr.mono (by omega)
  refine ⟨_, pss_cons (ps_if (PW.pt (pw_or (pt_cmpR op_eq (pv 1) pe_int (nomark _)) (pw_or1 (pt_cmpR op_eq (pe_call D.T h1 (by rfl) D.mT D.kT D.bT .nil pass0 (pa_cons (pv 0) (pa_cons pe_int pa_nil))) pe_int (nomark _)))))
      (pss_one (ps_ret (pe_call L h3 (by rfl) mL kL bL .nil pass0 (pa_cons (pv 0) (pa_cons (pv 2) (pa_cons (pv 3) pa_nil)))))) pss_nil)
    (pss_cons (ps_set (i := 4) scTerm.nd rfl (.inl rfl) (pe_call D.Pk h2 (by rfl) D.mP D.kP D.bP .nil pass0 (pa_cons (pv 0) (pa_cons (pe_lst (pa_cons pe_str (pa_cons pe_str (pa_cons pe_str pa_nil)))) pa_nil))))
    (pss_cons (ps_set (i := 5) scTerm.nd rfl (.inl rfl) (pe_call S hr (by rfl) mS F.kp bS .nil pass0 (pa_cons (pv 0) (pa_cons (pe_op op_sub (pv 1) pe_int) (pa_cons (pv 2) (pa_cons (pv 3) pa_nil))))))
    (pss_cons (ps_if (pt_cmpR op_eq (pv 4) pe_str (nomark _)) (pss_one (ps_ret (pe_tup (pa_cons (pv 4) (pa_cons (pv 5) pa_nil))))) pss_nil)
    (pss_one (ps_ret (pe_tup (pa_cons (pv 4) (pa_cons (pv 5) (pa_cons (pe_call S hr (by rfl) mS F.kp bS .nil pass0 (pa_cons (pv 0) (pa_cons (pe_op op_sub (pv 1) pe_int) (pa_cons (pv 2) (pa_cons (pv 3) pa_nil))))) pa_nil))))))))), ?_⟩
  -- a leaf, at any heap behind
  have leaf : ∀ H1 : Hp, But f H H1 → FeedAt H1 f → Out f H1 ns r 1 Q := fun H1 b1 _ t v H' m a b hF' => q t v H' (m.up (by omega)) a (b1.trans b) hF'
  refine ⟨_, rfl, rfl, _, rfl, ?_⟩
  refine ite2 (fun c => ?_) (fun c => ?_)
  · exact iteT ⟨_, rfl, _, rfl, _, rfl, f, l, ns, r, rfl, apart, hN, r1, hF, leaf H (But.refl f H) hF⟩
  have dpos : 0 < d := by
    rcases Nat.eq_zero_or_pos d with e | e
    · exact absurd (show decide (V.int (d : Int) = V.int 0) = true from decide_eq_true (by rw [e]; rfl)) c
    · exact e
  refine ⟨_, rfl, f, 3, rfl, by decide, by decide, hF, fun k H1 _ _ b1 hF1 => ?_⟩
  have hN1 := hN.keep apart b1
  refine ⟨rfl, _, rfl, ?_⟩
  refine ite2 (fun _ => ?_) (fun _ => ?_)
  · exact ⟨_, rfl, _, rfl, _, rfl, f, l, ns, r, rfl, apart, hN1, r1, hF1, leaf H1 b1 hF1⟩
  refine ⟨_, rfl, (by show 3 ≤ sizeLine; decide), fun g hg => ?_⟩
  refine ⟨f, g, _, rfl, hF1.ne hg, .inl (.inl upd_same), by decide, by decide, hF1.same (same_new hg), fun x hx H2 b2 hF2 => ?_⟩
  obtain ⟨wd, rfl, lw, bw, nw⟩ := words3 x hx
  have bb2 : But f H H2 := (b1.new hg).trans b2
  have ed : (d : Int) - 1 = ((d - 1 : Nat) : Int) := by omega
  refine ⟨_, rfl, _, rfl, _, _, rfl, rfl, _, rfl, _, rfl, f, l, ns, r, d - 1, (by show [V.ref f, V.int ((d : Int) - 1), V.ref l, V.int r] = _; rw [ed]), by omega, apart, hN.keep apart bb2, r1, hF2, fun t1 v1 H3 m1 a1 b3 hF3 => ?_⟩
  have bb3 := bb2.trans b3
  refine ⟨_, rfl, rfl, _, rfl, ?_⟩
  refine ite2 (fun _ => ?_) (fun _ => ?_)
  · refine ⟨_, rfl, _, rfl, (by show 2 ≤ sizeLine; decide), fun p hp => ?_⟩
    exact q _ _ _ ((made_one lw nw (by rw [bw]; rfl) m1).up (by omega)) ⟨p, v1, rfl, upd_same, a1.keep (tups_same (same_new hp))⟩ (bb3.new hp) (hF3.same (same_new hp))
  · refine ⟨_, rfl, _, rfl, _, rfl, _, rfl, _, _, rfl, rfl, _, rfl, _, rfl, f, l, ns, r, d - 1, (by show [V.ref f, V.int ((d : Int) - 1), V.ref l, V.int r] = _; rw [ed]), by omega, apart, hN.keep apart bb3, r1, hF3, fun t2 v2 H4 m2 a2 b4 hF4 => ?_⟩
    refine ⟨(by show 3 ≤ sizeLine; decide), fun p hp => ?_⟩
    have k1 : At H4 t1 v1 := a1.keep (hF3.tups b4)
    exact q _ _ _ ((made_two lw nw bw m1 m2).up (by omega)) ⟨p, v1, v2, rfl, upd_same, k1.keep (tups_same (same_new hp)), a2.keep (tups_same (same_new hp))⟩ ((bb3.trans b4).new hp) (hF4.same (same_new hp))
theorem ok_terms {f ft fp fl : Addr} {fd dt dp dl : FuncData} (F : Fun K "_law_term" "_law_term" sTerm f fd) (D : Draw P w K mg base ft fp dt dp)
    (L : FnOk P w K mg base CX0 3 fl dl ["feed", "names", "around"] spLeaf) (bL : Binds K dl ["feed", "names", "around"] []) (kL : PySem.W.keepIn K (.ref fl) = true) (mL : mg "_law_leaf" = some (.ref fl))
    (bS : Binds K fd ["feed", "deep", "names", "around"] []) (mS : mg "_law_term" = some (.ref f)) : ∀ n : Nat, FnOk P w K mg base CX0 (3 + n) f fd ["feed", "deep", "names", "around"] (spTerm n)
  | 0 => no_calls fun vs H Q E h => by
    obtain ⟨a, l, ns, r, d, _, dn, _⟩ := h
    omega
  | n + 1 => ok_term F D L bL kL mL (ok_terms F D L bL kL mL bS mS n) bS mS
/-! ### _law_saying -/
def spSaying (n : Nat) : Sp := fun vs H Q _ => ∃ (f l : Addr) (ns : List Str) (r : Int) (d : Nat), vs = [.ref f, .int (d : Int), .ref l, .int r] ∧ d + 1 ≤ n ∧ l ≠ f ∧ NmAt H l ns ∧ r + n ≤ 1000 ∧ FeedAt H f ∧ Out f H ns r (d + 4) Q
theorem words2 : ∀ x ∈ ([.str "all", .str "some"] : List V), ∃ wd : Str, x = .str wd ∧ leafy wd = false ∧ binds wd = true ∧ wd ≠ "no" := by
  intro x hx
  rcases List.mem_cons.mp hx with e | hx
  · exact ⟨_, e, by decide +kernel, by decide +kernel, by decide +kernel⟩
  · exact ⟨_, List.mem_singleton.mp hx, by decide +kernel, by decide +kernel, by decide +kernel⟩
theorem wordsB : ∀ x ∈ ([.str "and", .str "or", .str "if"] : List V), ∃ wd : Str, x = .str wd ∧ leafy wd = false ∧ binds wd = false ∧ wd ≠ "no" := by
  intro x hx
  rcases List.mem_cons.mp hx with e | hx
  · exact ⟨_, e, by decide +kernel, by decide +kernel, by decide +kernel⟩
  rcases List.mem_cons.mp hx with e | hx
  · exact ⟨_, e, by decide +kernel, by decide +kernel, by decide +kernel⟩
  · exact ⟨_, List.mem_singleton.mp hx, by decide +kernel, by decide +kernel, by decide +kernel⟩
theorem ok_saying {f ft fp fm : Addr} {fd dt dp dm : FuncData} {n : Nat} (F : Fun K "_law_saying" "_law_saying" sSaying f fd) (D : Draw P w K mg base ft fp dt dp)
    (M : FnOk P w K mg base CX0 6 fm dm ["feed", "deep", "names", "around"] (spTerm 3)) (bM : Binds K dm ["feed", "deep", "names", "around"] []) (kM : PySem.W.keepIn K (.ref fm) = true) (mM : mg "_law_term" = some (.ref fm))
    (S : FnOk P w K mg base CX0 (6 + n) f fd ["feed", "deep", "names", "around"] (spSaying n)) (bS : Binds K fd ["feed", "deep", "names", "around"] []) (mS : mg "_law_saying" = some (.ref f)) :
    FnOk P w K mg base CX0 (6 + n + 1) f fd ["feed", "deep", "names", "around"] (spSaying (n + 1)) := by
  refine F.ok scSaying (fun vs H Q E h => ?_) (fun cdv A outer s H vs Q E hr h => ?_)
  · obtain ⟨a, l, ns, r, d, rfl, _⟩ := h
    rfl
  obtain ⟨f, l, ns, r, d, rfl, dn, apart, hN, r1, hF, q⟩ := h
  have h1 : Room 1 _ := hr.mono (by omega)
  have h2 : Room 2 _ := hr.mono (by omega)
  have h6 : Room 6 _ := hr.mono (by omega)
  refine ⟨_, pss_cons (ps_set (i := 4) scSaying.nd rfl (.inl rfl) (pe_call D.T h1 (by rfl) D.mT D.kT D.bT .nil pass0 (pa_cons (pv 0) (pa_cons pe_int pa_nil))))
    (pss_cons (ps_if (PW.pt (pw_or (pt_cmpR op_eq (pv 1) pe_int (nomark _)) (pw_or1 (pt_cmpR op_lt (pv 4) pe_int (nomark _)))))
      (pss_cons (ps_if (pt_cmpR op_eq (pe_call D.T h1 (by rfl) D.mT D.kT D.bT .nil pass0 (pa_cons (pv 0) (pa_cons pe_int pa_nil))) pe_int (nomark _)) (pss_one (ps_ret (pe_tup (pa_cons pe_str pa_nil)))) pss_nil)
      (pss_one (ps_ret (pe_tup (pa_cons pe_str (pa_cons (pe_call M h6 (by rfl) mM kM bM .nil pass0 (pa_cons (pv 0) (pa_cons pe_int (pa_cons (pv 2) (pa_cons (pv 3) pa_nil)))))
        (pa_cons (pe_call M h6 (by rfl) mM kM bM .nil pass0 (pa_cons (pv 0) (pa_cons pe_int (pa_cons (pv 2) (pa_cons (pv 3) pa_nil))))) pa_nil))))))) pss_nil)
    (pss_cons (ps_if (pt_cmpR op_lt (pv 4) pe_int (nomark _)) (pss_one (ps_ret (pe_tup (pa_cons (pe_call D.Pk h2 (by rfl) D.mP D.kP D.bP .nil pass0 (pa_cons (pv 0) (pa_cons (pe_lst (pa_cons pe_str (pa_cons pe_str pa_nil))) pa_nil)))
        (pa_cons (pe_call S hr (by rfl) mS F.kp bS .nil pass0 (pa_cons (pv 0) (pa_cons (pe_op op_sub (pv 1) pe_int) (pa_cons (pv 2) (pa_cons (pe_op op_add (pv 3) pe_int) pa_nil))))) pa_nil))))) pss_nil)
    (pss_cons (ps_set (i := 5) scSaying.nd rfl (.inl rfl) (pe_call D.Pk h2 (by rfl) D.mP D.kP D.bP .nil pass0 (pa_cons (pv 0) (pa_cons (pe_lst (pa_cons pe_str (pa_cons pe_str (pa_cons pe_str pa_nil)))) pa_nil))))
    (pss_one (ps_ret (pe_tup (pa_cons (pv 5) (pa_cons (pe_call S hr (by rfl) mS F.kp bS .nil pass0 (pa_cons (pv 0) (pa_cons (pe_op op_sub (pv 1) pe_int) (pa_cons (pv 2) (pa_cons (pv 3) pa_nil)))))
      (pa_cons (pe_call S hr (by rfl) mS F.kp bS .nil pass0 (pa_cons (pv 0) (pa_cons (pe_op op_sub (pv 1) pe_int) (pa_cons (pv 2) (pa_cons (pv 3) pa_nil))))) pa_nil))))))))), ?_⟩
  refine ⟨_, rfl, f, 9, rfl, by decide, by decide, hF, fun way H1 _ _ b1 hF1 => ?_⟩
  have hN1 := hN.keep apart b1
  apply join (C := fun H2 => But f H H2 ∧ FeedAt H2 f)
  · intro flat
    apply join (C := fun H2 => 0 < d ∧ But f H H2 ∧ FeedAt H2 f)
    · intro rest
      refine ⟨_, rfl, rfl, _, rfl, ?_⟩
      refine ite2 (fun c => ?_) (fun c => ?_)
      · exact iteT (flat H1 ⟨b1, hF1⟩)
      have dpos : 0 < d := by
        rcases Nat.eq_zero_or_pos d with e | e
        · exact absurd (show decide (V.int (d : Int) = V.int 0) = true from decide_eq_true (by rw [e]; rfl)) c
        · exact e
      refine ⟨_, rfl, _, _, rfl, rfl, _, rfl, ?_⟩
      exact ite2 (fun _ => flat H1 ⟨b1, hF1⟩) (fun _ => rest H1 ⟨dpos, b1, hF1⟩)
    · intro H2 ⟨dpos, b2, hF2⟩
      have ed : (d : Int) - 1 = ((d - 1 : Nat) : Int) := by omega
      refine ⟨_, rfl, _, _, rfl, rfl, _, rfl, ?_⟩
      refine ite2 (fun _ => ?_) (fun _ => ?_)
      · refine ⟨_, rfl, (by show 2 ≤ sizeLine; decide), fun g hg => ?_⟩
        refine ⟨f, g, _, rfl, hF2.ne hg, .inl (.inl upd_same), by decide, by decide, hF2.same (same_new hg), fun x hx H3 b3 hF3 => ?_⟩
        obtain ⟨wd, rfl, lw, bw, nw⟩ := words2 x hx
        have bb3 := (b2.new hg).trans b3
        refine ⟨_, rfl, _, rfl, _, _, rfl, rfl, _, rfl, _, rfl, _, _, rfl, rfl, f, l, ns, r + 1, d - 1, (by show [V.ref f, V.int ((d : Int) - 1), V.ref l, V.int (r + 1)] = _; rw [ed]), by omega, apart, hN.keep apart bb3, by omega, hF3, fun t1 v1 H4 m1 a1 b4 hF4 => ?_⟩
        refine ⟨(by show 2 ≤ sizeLine; decide), fun p hp => ?_⟩
        exact q _ _ _ ((made_one lw nw (by rw [bw]; rfl) m1).up (by omega)) ⟨p, v1, rfl, upd_same, a1.keep (tups_same (same_new hp))⟩ ((bb3.trans b4).new hp) (hF4.same (same_new hp))
      · refine ⟨_, rfl, (by show 3 ≤ sizeLine; decide), fun g hg => ?_⟩
        refine ⟨f, g, _, rfl, hF2.ne hg, .inl (.inl upd_same), by decide, by decide, hF2.same (same_new hg), fun x hx H3 b3 hF3 => ?_⟩
        obtain ⟨wd, rfl, lw, bw, nw⟩ := wordsB x hx
        have bb3 := (b2.new hg).trans b3
        refine ⟨_, rfl, _, rfl, _, rfl, _, _, rfl, rfl, _, rfl, _, rfl, f, l, ns, r, d - 1, (by show [V.ref f, V.int ((d : Int) - 1), V.ref l, V.int r] = _; rw [ed]), by omega, apart, hN.keep apart bb3, by omega, hF3, fun t1 v1 H4 m1 a1 b4 hF4 => ?_⟩
        have bb4 := bb3.trans b4
        refine ⟨_, rfl, _, rfl, _, _, rfl, rfl, _, rfl, _, rfl, f, l, ns, r, d - 1, (by show [V.ref f, V.int ((d : Int) - 1), V.ref l, V.int r] = _; rw [ed]), by omega, apart, hN.keep apart bb4, by omega, hF4, fun t2 v2 H5 m2 a2 b5 hF5 => ?_⟩
        refine ⟨(by show 3 ≤ sizeLine; decide), fun p hp => ?_⟩
        have k1 : At H5 t1 v1 := a1.keep (hF4.tups b5)
        exact q _ _ _ ((made_two lw nw bw m1 m2).up (by omega)) ⟨p, v1, v2, rfl, upd_same, k1.keep (tups_same (same_new hp)), a2.keep (tups_same (same_new hp))⟩ ((bb4.trans b5).new hp) (hF5.same (same_new hp))
  · intro H2 ⟨b2, hF2⟩
    refine ⟨_, rfl, f, 6, rfl, by decide, by decide, hF2, fun k H3 _ _ b3 hF3 => ?_⟩
    have bb3 := b2.trans b3
    refine ⟨rfl, _, rfl, ?_⟩
    refine ite2 (fun _ => ?_) (fun _ => ?_)
    · refine ⟨(by show 1 ≤ sizeLine; decide), fun p hp => ?_⟩
      exact q _ _ _ (made_no.up (by omega)) ⟨p, rfl, upd_same⟩ (bb3.new hp) (hF3.same (same_new hp))
    · refine ⟨_, rfl, _, rfl, _, rfl, f, l, ns, r, 2, rfl, by decide, apart, hN.keep apart bb3, by omega, hF3, fun t1 v1 H4 m1 a1 b4 hF4 => ?_⟩
      have bb4 := bb3.trans b4
      refine ⟨_, rfl, _, rfl, _, rfl, f, l, ns, r, 2, rfl, by decide, apart, hN.keep apart bb4, by omega, hF4, fun t2 v2 H5 m2 a2 b5 hF5 => ?_⟩
      refine ⟨(by show 3 ≤ sizeLine; decide), fun p hp => ?_⟩
      have k1 : At H5 t1 v1 := a1.keep (hF4.tups b5)
      exact q _ _ _ ((made_two (w := "same") (by decide +kernel) (by decide +kernel) (by decide +kernel) m1 m2).up (by omega)) ⟨p, v1, v2, rfl, upd_same, k1.keep (tups_same (same_new hp)), a2.keep (tups_same (same_new hp))⟩ ((bb4.trans b5).new hp) (hF5.same (same_new hp))
theorem ok_sayings {f ft fp fm : Addr} {fd dt dp dm : FuncData} (F : Fun K "_law_saying" "_law_saying" sSaying f fd) (D : Draw P w K mg base ft fp dt dp)
    (M : FnOk P w K mg base CX0 6 fm dm ["feed", "deep", "names", "around"] (spTerm 3)) (bM : Binds K dm ["feed", "deep", "names", "around"] []) (kM : PySem.W.keepIn K (.ref fm) = true) (mM : mg "_law_term" = some (.ref fm))
    (bS : Binds K fd ["feed", "deep", "names", "around"] []) (mS : mg "_law_saying" = some (.ref f)) : ∀ n : Nat, FnOk P w K mg base CX0 (6 + n) f fd ["feed", "deep", "names", "around"] (spSaying n)
  | 0 => no_calls fun vs H Q E h => by
    obtain ⟨a, l, ns, r, d, _, dn, _⟩ := h
    omega
  | n + 1 => ok_saying F D M bM kM mM (ok_sayings F D M bM kM mM bS mS n) bS mS
end
end Kf
set_option Elab.async false
set_option linter.all false
set_option maxRecDepth 100000
set_option maxHeartbeats 4000000
/-! The program's own defs: beneath, pieces_of, names_in; the law's walk _law_names. -/
namespace Kf
open PySem PySem.Spec PyProof.Rows L2 Sx
abbrev sBeneath : Stmt := top 3
abbrev sPieces : Stmt := top 4
abbrev sNamesIn : Stmt := top 6
abbrev sLN : Stmt := top 14
theorem scBeneath : FnScope ["piece", "around"] ["piece", "around"] (defScope sBeneath) := ⟨rfl, rfl, rfl, by decide +kernel, rfl, by decide +kernel, by decide +kernel⟩
theorem scPieces : FnScope ["thing", "found", "todo", "piece", "around", "inner", "part"] ["thing"] (defScope sPieces) := ⟨rfl, rfl, rfl, by decide +kernel, rfl, by decide +kernel, by decide +kernel⟩
theorem scNamesIn : FnScope ["thing", "found", "piece", "_"] ["thing"] (defScope sNamesIn) := ⟨rfl, rfl, rfl, by decide +kernel, rfl, by decide +kernel, by decide +kernel⟩
theorem scLN : FnScope ["thing", "found", "one"] ["thing"] (defScope sLN) := ⟨rfl, rfl, rfl, by decide +kernel, rfl, by decide +kernel, by decide +kernel⟩
/-! ### rows: a tree and how many stand around it -/
def Row (H : Hp) (e : Tr × Nat) (v : V) : Prop := ∃ q x, v = .ref q ∧ H q = some (.tup [x, .int (e.2 : Int)]) ∧ At H e.1 x
theorem Row.keep {H H' : Hp} (k : Tups H H') (e : Tr × Nat) (v : V) (h : Row H e v) : Row H' e v := by
  obtain ⟨q, x, e1, e2, a⟩ := h
  exact ⟨q, x, e1, k _ _ e2, a.keep k⟩
def visits (es : List (Tr × Nat)) : List (Tr × Nat) := es.reverse.flatMap fun e => (e.1.post e.2).reverse
theorem visits_last (es : List (Tr × Nat)) (e : Tr × Nat) : visits (es ++ [e]) = (e.1.post e.2).reverse ++ visits es := by
  unfold visits
  rw [List.reverse_append, List.reverse_singleton, List.singleton_append, List.flatMap_cons]
theorem visits_kids (r : Nat) : ∀ (ks : List Tr) (es : List (Tr × Nat)), visits (es ++ ks.map fun k => (k, r)) = (ks.flatMap fun a => a.post r).reverse ++ visits es
  | [], es => by simp
  | k :: ks, es => by
    rw [List.map_cons, show es ++ (k, r) :: ks.map (fun k => (k, r)) = (es ++ [(k, r)]) ++ ks.map (fun k => (k, r)) by simp, visits_kids r ks, visits_last, List.flatMap_cons, List.reverse_append, List.append_assoc]
theorem visits_step (es : List (Tr × Nat)) (t : Tr) (r : Nat) : visits (es ++ [(t, r)]) = (t, r) :: visits (es ++ t.kids.map fun k => (k, inner t.word r)) := by
  rw [visits_last, visits_kids]
  show (t.post r).reverse ++ visits es = _
  rw [post_kids, List.reverse_append, List.reverse_singleton]
  rfl
theorem post_pos (t : Tr) (r : Nat) : 1 ≤ (t.post r).length := by
  rw [post_kids, List.length_append]
  exact Nat.le_add_left _ _
theorem flat_len {α β : Type} (g : α → List β) (h : ∀ a, 1 ≤ (g a).length) : ∀ l : List α, l.length ≤ (l.flatMap g).length
  | [] => Nat.zero_le _
  | a :: l => by
    have h1 := flat_len g h l
    have h2 := h a
    rw [List.flatMap_cons, List.length_append, List.length_cons]
    omega
theorem visits_len (es : List (Tr × Nat)) : es.length ≤ (visits es).length := by
  have h := flat_len (fun (e : Tr × Nat) => (e.1.post e.2).reverse) (fun e => by rw [List.length_reverse]; exact post_pos e.1 e.2) es.reverse
  rw [List.length_reverse] at h
  exact h
theorem cut_one (x : V) (r : List V) : cutV (x :: r) (some 1) none = r := by
  unfold cutV
  have e1 : HT.sIx (x :: r).length 0 (some 1) = 1 := by
    rw [show HT.sIx (x :: r).length 0 (some 1) = min 1 (x :: r).length from HT.sIx_nat _ 0 1, List.length_cons]
    omega
  rw [e1, HT.sIx_none]
  show List.take ((x :: r).length - 1) r = r
  rw [List.length_cons, Nat.add_sub_cancel]
  exact List.take_length
theorem cut_not (x : V) (r : List V) : ¬ (HT.sIx (x :: r).length 0 (some 1) = 0 ∧ HT.sIx (x :: r).length (x :: r).length none = (x :: r).length) := by
  intro h
  have e1 : HT.sIx (x :: r).length 0 (some 1) = 1 := by
    rw [show HT.sIx (x :: r).length 0 (some 1) = min 1 (x :: r).length from HT.sIx_nat _ 0 1, List.length_cons]
    omega
  rw [e1] at h
  exact absurd h.1 (by decide)
/-! ### the top's names -/
structure Txt (K : PySem.W.Frag) (mg : Str → Option Value) (L B : Addr) : Prop where
  mL : mg "LEAVES" = some (.ref L)
  mB : mg "BINDERS" = some (.ref B)
  leaf : ∀ H, SqT K H L leafVs
  bind : ∀ H, SqT K H B bindVs
section
variable {P : Program} {w : World} {K : PySem.W.Frag} {mg : Str → Option Value} {base : Heap} {L B : Addr}
def spBeneath : Sp := fun vs H Q _ => ∃ (p : Addr) (wd : Str) (us : List V) (r : Nat), vs = [.ref p, .int (r : Int)] ∧ H p = some (.tup (.str wd :: us)) ∧ Q (.int (inner wd r : Nat)) H
theorem head_at (x : V) (us : List V) : atI (x :: us) 0 = some x := atI_nat (j := 0) rfl
theorem ok_beneath {f : Addr} {fd : FuncData} {j : Nat} (F : Fun K "beneath" "beneath" sBeneath f fd) (T : Txt K mg L B) : FnOk P w K mg base CX0 (j + 1) f fd ["piece", "around"] spBeneath := by
  refine F.ok scBeneath (fun vs H Q E h => ?_) (fun cdv A outer s H vs Q E hr h => ?_)
  · obtain ⟨p, wd, us, r, rfl, _⟩ := h
    rfl
  obtain ⟨p, wd, us, r, rfl, hp, q⟩ := h
  refine ⟨_, pss_one (ps_ret (pe_ifExp (pt_cmpR op_in_seq (pe_ix ix_tup (pv 0) pe_int (fun _ _ => rfl)) (pe_glob (v := .ref B) (by rfl) T.mB rfl) (by rfl)) (pe_op op_add (pv 1) pe_int) (pv 1))), ?_⟩
  refine ⟨_, rfl, p, _, 0, _, rfl, rfl, .inl (.inl hp), head_at _ _, B, bindVs, rfl, .inr (T.bind H), rfl, rfl, _, rfl, ?_⟩
  show if binds wd = true then _ else _
  unfold inner at q
  by_cases c : binds wd = true
  · rw [if_pos c] at q ⊢
    exact ⟨_, rfl, _, _, rfl, rfl, q⟩
  · rw [if_neg c] at q ⊢
    exact ⟨_, rfl, q⟩
/-! ### pieces_of -/
def spPieces : Sp := fun vs H Q _ => ∃ (v : V) (t : Tr), vs = [v] ∧ At H t v ∧ t.Ok ∧ t.deep ≤ 12 ∧
  ∀ (p : Addr) (H' : Hp) (vf : List V), Same H H' → H p = none → H' p = some (.lst vf) → All2 (Row H') (t.post 0) vf → Q (.ref p) H'
theorem line_of {n : Nat} (h : n ≤ 4096) : n < sizeLine := Nat.lt_of_le_of_lt h (by decide)
/-- between two turns -/
structure Turn (H H' : Hp) (pf pt : Addr) (all : List (Tr × Nat)) (m : Nat) (ef es : List (Tr × Nat)) (vf vt : List V) : Prop where
  same : Same H H'
  lf : H' pf = some (.lst vf)
  lt : H' pt = some (.lst vt)
  rf : All2 (Row H') ef vf
  rt : All2 (Row H') es vt
  sum : ef ++ visits es = all
  ok : ∀ e ∈ es, e.1.Ok
  m : m = (visits es).length
theorem ok_pieces {f g : Addr} {fd gd : FuncData} (F : Fun K "pieces_of" "pieces_of" sPieces f fd) (T : Txt K mg L B) (G : FnOk P w K mg base CX0 1 g gd ["piece", "around"] spBeneath) (bG : Binds K gd ["piece", "around"] []) (kG : PySem.W.keepIn K (.ref g) = true) (mG : mg "beneath" = some (.ref g)) :
    FnOk P w K mg base CX0 2 f fd ["thing"] spPieces := by
  refine F.ok scPieces (fun vs H Q E h => ?_) (fun cdv A outer s H vs Q E hr h => ?_)
  · obtain ⟨v, t, rfl, _⟩ := h
    rfl
  obtain ⟨v, t, rfl, hA, hO, hd, q⟩ := h
  refine ⟨_, pss_cons (ps_set (i := 1) scPieces.nd rfl (.inl rfl) (pe_lst pa_nil))
    (pss_cons (ps_set (i := 2) scPieces.nd rfl (.inl rfl) (pe_lst (pa_cons (pe_tup (pa_cons (pv 0) (pa_cons pe_int pa_nil))) pa_nil)))
    (pss_cons (ps_while PassesOwn.never (pt_truth (pv 2) (by intro _; rfl))
      (pss_cons (ps_asg (pe_bm0 PySem.F.plainAttrs_list PySem.F.slot_list_pop PySem.F.type_list_pop mt_pop (pv 2)) (pg_tup (by rfl) (pgs_cons (pg_name (i := 3) scPieces.nd rfl (.inl rfl)) (pgs_cons (pg_name (i := 4) scPieces.nd rfl (.inl rfl)) pgs_nil))))
      (pss_cons (ps_expr (pe_bm PySem.F.plainAttrs_list PySem.F.slot_list_append PySem.F.type_list_append mt_append (pv 1) (pa_cons (pe_tup (pa_cons (pv 3) (pa_cons (pv 4) pa_nil))) pa_nil)))
      (pss_one (ps_if (pt_cmpR op_notIn_seq (pe_ix ix_tup (pv 3) pe_int (fun _ _ => rfl)) (pe_glob (v := .ref L) (by rfl) T.mL rfl) (by rfl))
        (pss_cons (ps_set (i := 5) scPieces.nd rfl (.inl rfl) (pe_call G hr (by rfl) mG kG bG .nil pass0 (pa_cons (pv 3) (pa_cons (pv 4) pa_nil))))
        (pss_one (ps_for PassesOwn.never rfl (pi_tup (pe_slice sl_tup (pv 3) (po_some pe_int) po_none)) (pg_name (i := 6) scPieces.nd rfl (.inl rfl))
          (pss_one (ps_expr (pe_bm PySem.F.plainAttrs_list PySem.F.slot_list_append PySem.F.type_list_append mt_append (pv 2) (pa_cons (pe_tup (pa_cons (pv 6) (pa_cons (pv 5) pa_nil))) pa_nil)))))))
        pss_nil)))))
    (pss_cons (ps_expr (pe_bm0 PySem.F.plainAttrs_list PySem.F.slot_list_reverse PySem.F.type_list_reverse mt_reverse (pv 1)))
    (pss_one (ps_ret (pv 1)))))), ?_⟩
  refine ⟨Nat.zero_le _, fun pf nf => ?_⟩
  refine ⟨_, rfl, (by show 2 ≤ sizeLine; decide), fun q0 nq => ?_⟩
  refine ⟨(by show 1 ≤ sizeLine; decide), fun pt nt => ?_⟩
  have s1 : Same H (upd H pf (.lst [])) := same_new nf
  have s2 := same_put (o := .tup [v, .int 0]) s1 nq
  have s3 := same_put (o := .lst [.ref q0]) s2 nt
  have nft : pf ≠ pt := fun z => by
    rw [← z, upd_ne (fun z2 => by rw [z2, upd_same] at nq; cases nq), upd_same] at nt
    cases nt
  have nfq : pf ≠ q0 := fun z => by
    rw [← z, upd_same] at nq
    cases nq
  have nqt : q0 ≠ pt := fun z => by
    rw [← z, upd_same] at nt
    cases nt
  have big : ∀ (ef es : List (Tr × Nat)), ef ++ visits es = (t.post 0).reverse → ef.length + es.length ≤ 4096 := fun ef es e => by
    have l1 := congrArg List.length e
    rw [List.length_append, List.length_reverse, post_len] at l1
    have l2 := visits_len es
    have l3 := size_deep t
    have l4 : 2 ^ t.deep ≤ 2 ^ 12 := Nat.pow_le_pow_right (by decide) hd
    omega
  refine ⟨fun m σ H' => ∃ (ef es : List (Tr × Nat)) (vf vt : List V) (y3 y4 y5 y6 : Option V), σ = [some v, some (.ref pf), some (.ref pt), y3, y4, y5, y6] ∧ Turn H H' pf pt (t.post 0).reverse m ef es vf vt,
    ⟨_, [], [(t, 0)], [], [.ref q0], none, none, none, none, rfl, ⟨s3, ?_, upd_same, .nil, .one ⟨q0, v, rfl, ?_, hA.keep (tups_same s3)⟩, ?_, fun e he => by rw [List.mem_singleton.mp he]; exact hO, rfl⟩⟩, fun m σ H1 hW => ?_⟩
  · rw [upd_ne nft, upd_ne nfq, upd_same]
  · rw [upd_ne nqt, upd_same]
    rfl
  · show visits [(t, 0)] = _
    unfold visits
    simp
  obtain ⟨ef, es, vf, vt, y3, y4, y5, y6, rfl, W⟩ := hW
  refine ⟨_, rfl, !vt.isEmpty, .inl ⟨vt, .inl (.inl W.lt), rfl⟩, ?_⟩
  rcases List.eq_nil_or_concat vt with en | ⟨vt0, y, en⟩
  · subst en
    refine iteF ?_
    have ee : es = [] := by
      have l := W.rt.len
      exact List.length_eq_zero_iff.mp l
    subst ee
    have e2 : ef = (t.post 0).reverse := by
      have e3 := W.sum
      rw [show visits [] = [] from rfl, List.append_nil] at e3
      exact e3
    refine ⟨_, rfl, .inl ⟨rfl, _, .inl (.inl W.lf)⟩, pf, vf, rfl, rfl, W.lf, ?_⟩
    refine ⟨_, rfl, q pf _ vf.reverse (fun b u e => ?_) nf upd_same ?_⟩
    · rw [upd_ne (ne_of_none e nf)]
      exact W.same _ _ e
    · have r1 := W.rf.rev
      rw [e2, List.reverse_reverse] at r1
      exact r1.mono fun e v h => Row.keep (tups_put fun xs z => by rw [W.lf] at z; cases z) e v h
  · rw [List.concat_eq_append] at en
    subst en
    rw [show (!(vt0 ++ [y]).isEmpty) = true by simp]
    refine iteT ?_
    obtain ⟨es0, ⟨t1, r1⟩, rfl, rt0, ⟨q1, x1, rfl, h1, a1⟩⟩ := W.rt.last
    have ok1 : t1.Ok := W.ok _ (List.mem_append.mpr (.inr (List.mem_singleton.mpr rfl)))
    refine ⟨fun σ' H' => ∃ m', m' < m ∧ ∃ (ef es : List (Tr × Nat)) (vf vt : List V) (y3 y4 y5 y6 : Option V), σ' = [some v, some (.ref pf), some (.ref pt), y3, y4, y5, y6] ∧ Turn H H' pf pt (t.post 0).reverse m' ef es vf vt,
      fun σ' H' h => h, ?_⟩
    -- piece, around = todo.pop()
    refine ⟨_, rfl, .inl ⟨rfl, _, .inl (.inl W.lt)⟩, pt, _, .ref q1, rfl, rfl, W.lt, by simp, ?_⟩
    rw [List.dropLast_concat]
    have nqt1 : q1 ≠ pt := ne_of h1 W.lt (by intro z; cases z)
    have k2 : Tups H1 (upd H1 pt (.lst vt0)) := tups_put fun xs z => by
      rw [W.lt] at z
      cases z
    refine ⟨q1, [x1, .int (r1 : Int)], rfl, .inl (.inl (k2 _ _ h1)), rfl, x1, [.int (r1 : Int)], rfl, .int (r1 : Int), [], rfl, rfl, ?_⟩
    -- found.append((piece, around))
    have lf2 : (upd H1 pt (.lst vt0)) pf = some (.lst vf) := by
      rw [upd_ne nft]
      exact W.lf
    have bigN := big ef (es0 ++ [(t1, r1)]) W.sum
    rw [List.length_append, List.length_singleton] at bigN
    refine ⟨_, rfl, .inl ⟨rfl, _, .inl (.inl lf2)⟩, _, rfl, _, rfl, (by show 2 ≤ sizeLine; decide), fun q2 nq2 => ?_⟩
    have nfq2 : pf ≠ q2 := ne_of_none lf2 nq2
    have ntq2 : pt ≠ q2 := ne_of_none (show (upd H1 pt (.lst vt0)) pt = _ from upd_same) nq2
    refine ⟨pf, vf, .ref q2, rfl, rfl, (by rw [upd_ne nfq2]; exact lf2), line_of (by have := W.rf.len; omega), ?_⟩
    generalize hH2 : upd (upd (upd H1 pt (.lst vt0)) q2 (.tup [x1, .int (r1 : Int)])) pf (.lst (vf ++ [.ref q2])) = H2
    have k3 : Tups H1 H2 := by
      rw [← hH2]
      refine k2.trans ((tups_same (same_new nq2)).trans (tups_put fun xs z => ?_))
      rw [upd_ne nfq2, lf2] at z
      cases z
    have same2 : Same H H2 := fun b u e => by
      rw [← hH2, upd_ne (ne_of_none e nf)]
      have nbt : b ≠ pt := fun z => by
        have z2 := s2.free nt
        rw [← z, e] at z2
        cases z2
      have e2 : (upd H1 pt (.lst vt0)) b = some u := by
        rw [upd_ne nbt]
        exact W.same _ _ e
      rw [upd_ne (ne_of_none e2 nq2)]
      exact e2
    have lf3 : H2 pf = some (.lst (vf ++ [.ref q2])) := by
      rw [← hH2, upd_same]
    have lt3 : H2 pt = some (.lst vt0) := by
      rw [← hH2, upd_ne nft.symm, upd_ne ntq2, upd_same]
    have hq2 : H2 q2 = some (.tup [x1, .int (r1 : Int)]) := by
      rw [← hH2, upd_ne nfq2.symm, upd_same]
    have a3 : At H2 t1 x1 := At.keep k3 a1
    have rf3 : All2 (Row H2) (ef ++ [(t1, r1)]) (vf ++ [.ref q2]) := (W.rf.mono (Row.keep k3)).app (.one ⟨q2, x1, rfl, hq2, a3⟩)
    have rt3 : All2 (Row H2) es0 vt0 := rt0.mono (Row.keep k3)
    obtain ⟨p1, us, rfl, hp1, lus, kids, leafs⟩ := a3.view ok1
    have e0 := W.sum
    rw [visits_step] at e0
    have em := W.m
    rw [visits_step, List.length_cons] at em
    -- if piece[0] not in LEAVES
    refine ⟨_, rfl, p1, _, 0, _, rfl, rfl, .inl (.inl hp1), head_at _ _, L, leafVs, rfl, .inr (T.leaf H2), rfl, rfl, _, rfl, ?_⟩
    show if (!leafy t1.word) = true then _ else _
    cases hl : leafy t1.word with
    | true =>
      refine iteF ?_
      obtain ⟨x, et, _⟩ := leafs hl
      have noK : t1.kids = [] := by
        rw [et]
        rfl
      rw [noK] at e0 em
      rw [show es0 ++ ([] : List Tr).map (fun k => (k, inner t1.word r1)) = es0 by simp] at e0 em
      refine ⟨(visits es0).length, by omega, ef ++ [(t1, r1)], es0, _, vt0, _, _, y5, y6, rfl, ⟨same2, lf3, lt3, rf3, rt3, ?_, fun e he => W.ok e (List.mem_append.mpr (.inl he)), rfl⟩⟩
      rw [List.append_assoc]
      exact e0
    | false =>
      refine iteT ?_
      have kd := kids hl
      -- inner = beneath(piece, around)
      refine ⟨_, rfl, _, rfl, p1, t1.word, us, r1, rfl, hp1, ?_⟩
      -- piece[1:]
      refine ⟨_, rfl, 1, rfl, p1, _, rfl, .inl (.inl hp1), cut_not _ _, fun c nc => ?_⟩
      rw [cut_one]
      have k4 : Tups H2 (upd H2 c (.tup us)) := tups_same (same_new nc)
      have ncf : c ≠ pf := fun z => by
        rw [z, lf3] at nc
        cases nc
      have nct : c ≠ pt := fun z => by
        rw [z, lt3] at nc
        cases nc
      have len1 := kd.len
      refine ⟨c, rfl, ⟨_, .inl (.inl upd_same)⟩, for_tup (K := K) (a := c) (xs := us) (fun i σ' H' => ∃ (vt : List V) (y6 : Option V), σ' = [some v, some (.ref pf), some (.ref pt), some (.ref p1), some (.int (r1 : Int)), some (.int (inner t1.word r1 : Nat)), y6] ∧
          Same H H' ∧ Tups (upd H2 c (.tup us)) H' ∧ H' pf = some (.lst (vf ++ [.ref q2])) ∧ H' pt = some (.lst vt) ∧ All2 (Row H') (es0 ++ (t1.kids.take i).map fun k => (k, inner t1.word r1)) vt)
        ⟨vt0, y6, rfl, same_put same2 nc, Tups.refl _, (by rw [upd_ne ncf.symm]; exact lf3), (by rw [upd_ne nct.symm]; exact lt3), ?_⟩ (fun i σ' H' _ ⟨_, _, _, _, kt, _⟩ => .inl (.inl (kt _ _ upd_same))) ?_ ?_⟩
      · rw [show (t1.kids.take 0).map (fun k => (k, inner t1.word r1)) = [] by simp, List.append_nil]
        exact rt3.mono (Row.keep k4)
      · rintro i x σ' H' hx ⟨vt, y6', rfl, sm, kt, gf, gt, rr⟩
        obtain ⟨tk, htk, hax⟩ := kd.get hx
        have hax' : At H' tk x := hax.keep (k4.trans kt)
        have bnd : vt.length ≤ 4096 := by
          have l1 := rr.len
          have l2 : ((t1.kids.take i).map fun k => (k, inner t1.word r1)).length ≤ 2 := by
            rw [List.length_map, List.length_take]
            omega
          have l3 := big (ef ++ [(t1, r1)]) (es0 ++ t1.kids.map fun k => (k, inner t1.word r1)) (by rw [List.append_assoc]; exact e0)
          rw [List.length_append, List.length_append, List.length_map] at l3
          rw [List.length_append, List.length_map, List.length_take] at l1
          omega
        -- todo.append((part, inner))
        refine ⟨_, rfl, .inl ⟨rfl, _, .inl (.inl gt)⟩, _, rfl, _, rfl, (by show 2 ≤ sizeLine; decide), fun q3 nq3 => ?_⟩
        have ntq3 : pt ≠ q3 := ne_of_none gt nq3
        have nfq3 : pf ≠ q3 := ne_of_none gf nq3
        refine ⟨pt, vt, .ref q3, rfl, rfl, (by rw [upd_ne ntq3]; exact gt), line_of bnd, ?_⟩
        have k5 : Tups H' (upd (upd H' q3 (.tup [x, .int (inner t1.word r1 : Nat)])) pt (.lst (vt ++ [.ref q3]))) := (tups_same (same_new nq3)).trans (tups_put fun xs z => by
          rw [upd_ne ntq3, gt] at z
          cases z)
        refine ⟨vt ++ [.ref q3], some x, rfl, fun b u e => ?_, kt.trans k5, ?_, upd_same, ?_⟩
        · have nbt : b ≠ pt := fun z => by
            have z2 := s2.free nt
            rw [← z, e] at z2
            cases z2
          rw [upd_ne nbt, upd_ne (ne_of_none (sm _ _ e) nq3)]
          exact sm _ _ e
        · rw [upd_ne nft, upd_ne nfq3]
          exact gf
        · have et : t1.kids.take (i + 1) = t1.kids.take i ++ [tk] := by
            rw [List.take_add_one, htk]
            rfl
          rw [et, List.map_append, ← List.append_assoc]
          refine (rr.mono (Row.keep k5)).app (.one ⟨q3, x, rfl, ?_, hax'.keep k5⟩)
          rw [upd_ne ntq3.symm, upd_same]
      · rintro σ' H' ⟨vt, y6', rfl, sm, kt, gf, gt, rr⟩
        rw [← len1, List.take_length] at rr
        refine ⟨_, ?_, ef ++ [(t1, r1)], es0 ++ t1.kids.map (fun k => (k, inner t1.word r1)), _, vt, _, _, _, y6', rfl, ⟨sm, gf, gt, rf3.mono (Row.keep (k4.trans kt)), rr, by rw [List.append_assoc]; exact e0, fun e he => ?_, rfl⟩⟩
        · omega
        · rcases List.mem_append.mp he with z | z
          · exact W.ok e (List.mem_append.mpr (.inl z))
          · obtain ⟨k, hk, rfl⟩ := List.mem_map.mp z
            exact kids_ok ok1 k hk
end
end Kf
set_option Elab.async false
set_option linter.all false
set_option maxRecDepth 100000
set_option maxHeartbeats 4000000
/-! names_in; the law's walk _law_names. -/
namespace Kf
open PySem PySem.Spec PyProof.Rows L2 Sx
section
variable {P : Program} {w : World} {K : PySem.W.Frag} {mg : Str → Option Value} {base : Heap} {L B : Addr}
/-- the names of the tree, once each, rising -/
structure Rising (t : Tr) (ys : List Str) : Prop where
  pairs : ys.Pairwise Le
  nd : ys.Nodup
  mem : ∀ z, z ∈ ys ↔ z ∈ t.names
theorem Rising.one {t : Tr} {ys zs : List Str} (a : Rising t ys) (b : Rising t zs) : ys = zs := one_order ys zs a.pairs b.pairs a.nd b.nd fun x => (a.mem x).trans (b.mem x).symm
def spNamesIn : Sp := fun vs H Q _ => ∃ (v : V) (t : Tr) (ns : List Str), vs = [v] ∧ At H t v ∧ t.Ok ∧ t.deep ≤ 12 ∧ (∀ z ∈ t.names, z ∈ ns) ∧ ns.length ≤ 60 ∧
  ∀ (ys : List Str) (p : Addr) (H' : Hp), Same H H' → H p = none → H' p = some (.lst (ys.map V.str)) → Rising t ys → Q (.ref p) H'
theorem leaf_name {t : Tr} (ok : t.Ok) {H : Hp} {v : V} (h : At H t v) : ∃ p us, v = .ref p ∧ H p = some (.tup (.str t.word :: us)) ∧ (t.word = "name" → ∃ z, us = [.str z] ∧ leafName t = [z]) ∧ (t.word ≠ "name" → leafName t = []) := by
  obtain ⟨p, us, e, hp, _, kids, leafs⟩ := h.view ok
  refine ⟨p, us, e, hp, fun ew => ?_, fun nw => ?_⟩
  · have hl : leafy t.word = true := by
      rw [ew]
      decide +kernel
    obtain ⟨x, et, eu⟩ := leafs hl
    cases t with
    | leaf wd x2 =>
      have ex : x2 = x := by
        injection et
      subst ex
      rcases ok.2 with ⟨_, ne⟩ | ⟨⟨z, ez⟩, ew2⟩
      · exact absurd ew ne
      · refine ⟨z, by rw [eu, ez], ?_⟩
        show (if wd = "name" then (match x2 with | .str z => [z] | _ => []) else []) = [z]
        rw [if_pos ew2, ez]
    | n0 _ => cases et
    | n1 _ _ => cases et
    | n2 _ _ _ => cases et
  · cases t with
    | leaf wd x =>
      show (if wd = "name" then (match x with | .str z => [z] | _ => []) else []) = ([] : List Str)
      rw [if_neg (show ¬ wd = "name" from nw)]
    | n0 _ => rfl
    | n1 _ _ => rfl
    | n2 _ _ _ => rfl
theorem ok_names {f g : Addr} {fd gd : FuncData} (F : Fun K "names_in" "names_in" sNamesIn f fd) (G : FnOk P w K mg base CX0 2 g gd ["thing"] spPieces) (bG : Binds K gd ["thing"] []) (kG : PySem.W.keepIn K (.ref g) = true) (mG : mg "pieces_of" = some (.ref g)) (mS : mg "set" = none) (mO : mg "sorted" = none) :
    FnOk P w K mg base CX0 3 f fd ["thing"] spNamesIn := by
  refine F.ok scNamesIn (fun vs H Q E h => ?_) (fun cdv A outer s H vs Q E hr h => ?_)
  · obtain ⟨v, t, ns, rfl, _⟩ := h
    rfl
  obtain ⟨v, t, ns, rfl, hA, hO, hd, sub, few, q⟩ := h
  refine ⟨_, pss_cons (ps_set (i := 1) scNamesIn.nd rfl (.inl rfl) (pe_callTy0 cr_newX (by rfl) mS (by decide +kernel)))
    (pss_cons (ps_for PassesOwn.never rfl (pi_list (pe_call G hr (by rfl) mG kG bG .nil pass0 (pa_cons (pv 0) pa_nil))) (pg_tup (by rfl) (pgs_cons (pg_name (i := 2) scNamesIn.nd rfl (.inl rfl)) (pgs_cons (pg_name (i := 3) scNamesIn.nd rfl (.inl rfl)) pgs_nil)))
      (pss_one (ps_if (pt_cmpR op_eq (pe_ix ix_tup (pv 2) pe_int (fun _ _ => rfl)) pe_str (nomark _)) (pss_one (ps_expr (pe_addX (pv 1) (pa_cons (pe_ix ix_tup (pv 2) pe_int (fun _ _ => rfl)) pa_nil)))) pss_nil)))
    (pss_one (ps_ret (pe_callB (cr_sortX rfl) (by rfl) mO (by decide +kernel) (pa_cons (pv 1) pa_nil))))), ?_⟩
  refine ⟨rfl, fun S nS => ?_⟩
  have s1 : Same H (upd H S (SetX w S [])) := same_new nS
  refine ⟨_, rfl, v, t, rfl, hA.keep (tups_same s1), hO, hd, fun p H1 vf sm np hp rows => ?_⟩
  have hS1 : H1 S = some (SetX w S []) := sm _ _ upd_same
  have npS : p ≠ S := fun z => by
    rw [z, upd_same] at np
    cases np
  have all := post_names t 0
  refine ⟨p, rfl, ⟨_, .inl (.inl hp)⟩, for_list (K := K) (a := p) (xs := vf) (fun i σ H' => ∃ (ks : List Str) (y2 y3 : Option V), σ = [some v, some (.ref S), y2, y3] ∧ But S H1 H' ∧ H' S = some (SetX w S ks) ∧ ks.Nodup ∧ ∀ z, z ∈ ks ↔ z ∈ ((t.post 0).take i).flatMap fun (e : Tr × Nat) => leafName e.1)
    ⟨[], none, none, rfl, But.refl _ _, hS1, List.nodup_nil, fun z => by simp⟩ (fun i σ H' _ ⟨_, _, _, _, b, _⟩ => .inl (.inl (b _ _ npS hp))) ?_ ?_⟩
  · rintro i y σ H' hy ⟨ks, y2, y3, rfl, b, hS, nd, mem⟩
    obtain ⟨⟨t1, r1⟩, he, ⟨q1, x1, rfl, h1, a1⟩⟩ := rows.get hy
    have k1 : Tups H1 H' := fun c xs e => b c _ (fun z => by rw [z, hS1] at e; cases e) e
    have a2 : At H' t1 x1 := At.keep k1 a1
    have ok1 : t1.Ok := post_ok t 0 hO (t1, r1) (List.mem_of_getElem? he)
    obtain ⟨p1, us, rfl, hp1, isN, noN⟩ := leaf_name ok1 a2
    have et : ((t.post 0).take (i + 1)).flatMap (fun (e : Tr × Nat) => leafName e.1) = ((t.post 0).take i).flatMap (fun (e : Tr × Nat) => leafName e.1) ++ leafName t1 := by
      rw [List.take_add_one, he, List.flatMap_append]
      show _ ++ ([(t1, r1)].flatMap fun (e : Tr × Nat) => leafName e.1) = _
      simp
    refine ⟨q1, [.ref p1, .int (r1 : Int)], rfl, .inl (.inl (k1 _ _ h1)), rfl, .ref p1, [.int (r1 : Int)], rfl, .int (r1 : Int), [], rfl, rfl, ?_⟩
    refine ⟨_, rfl, p1, _, 0, _, rfl, rfl, .inl (.inl hp1), head_at _ _, rfl, _, rfl, ?_⟩
    refine ite2 (fun c => ?_) (fun c => ?_)
    · have ew : t1.word = "name" := by
        have z := of_decide_eq_true c
        injection z
      obtain ⟨z, eu, el⟩ := isN ew
      have ksub : ∀ k ∈ ks, k ∈ ns := fun k hk => sub k (by
        rw [← all]
        obtain ⟨e, e1, e2⟩ := List.mem_flatMap.mp ((mem k).1 hk)
        exact List.mem_flatMap.mpr ⟨e, List.mem_of_mem_take e1, e2⟩)
      have kfew := nodup_le ks ns nd ksub
      refine ⟨_, rfl, ⟨S, ks, rfl, hS⟩, _, rfl, p1, _, 1, .str z, rfl, rfl, .inl (.inl hp1), (by rw [eu]; exact atI_nat (j := 1) rfl), S, z, ks, rfl, rfl, hS, (by unfold scanBound; omega), ?_⟩
      refine ⟨ins z ks, _, _, rfl, b.own, upd_same, ins_nodup nd, fun j => ?_⟩
      rw [ins_mem, et, List.mem_append, el, List.mem_singleton, mem j]
      exact Or.comm
    · have nw : t1.word ≠ "name" := fun z => c (by rw [z]; exact decide_eq_true rfl)
      refine ⟨ks, _, _, rfl, b, hS, nd, fun j => ?_⟩
      rw [et, noN nw, List.append_nil]
      exact mem j
  · rintro σ H' ⟨ks, y2, y3, rfl, b, hS, nd, mem⟩
    rw [← rows.len, List.take_length, all] at mem
    have kfew := nodup_le ks ns nd fun k hk => sub k ((mem k).1 hk)
    refine ⟨_, rfl, S, ks, rfl, hS, by omega, fun ys l pm ynd srt nl => ?_⟩
    refine q ys l _ (fun c u e => ?_) ?_ upd_same ⟨sorted_pairs ys srt, ynd, fun z => (pm.mem_iff).trans (mem z)⟩
    · have ncS : c ≠ S := ne_of_none e nS
      have e1 := b _ _ ncS (sm _ _ (s1 _ _ e))
      rw [upd_ne (ne_of_none e1 nl)]
      exact e1
    · cases hl : H l with
      | none => rfl
      | some u =>
        have ncS : l ≠ S := ne_of_none hl nS
        have e1 := b _ _ ncS (sm _ _ (s1 _ _ hl))
        rw [nl] at e1
        cases e1
/-! ### _law_names -/
def spLN (n : Nat) : Sp := fun vs H Q _ => ∃ (v : V) (t : Tr), vs = [v] ∧ At H t v ∧ t.Ok ∧ t.Not ∧ t.deep ≤ n ∧ t.deep ≤ 12 ∧
  ∀ (p : Addr) (H' : Hp), Same H H' → H p = none → H' p = some (.lst (t.names.map V.str)) → Q (.ref p) H'
theorem leaf_none {t : Tr} (h : leafName t = []) (hl : leafy t.word = true) (ok : t.Ok) : t.names = [] := by
  cases t with
  | leaf wd x => exact h
  | n0 wd => rfl
  | n1 wd a => exact (no_leaf ok.1 hl).elim
  | n2 wd a b => exact (no_leaf ok.1 hl).elim
theorem names_kids {t : Tr} (hl : leafy t.word = false) (ok : t.Ok) : t.names = t.kids.flatMap Tr.names := by
  cases t with
  | leaf wd x => exact (no_leaf hl ok.1).elim
  | n0 wd => rfl
  | n1 wd a => simp [Tr.names, Tr.kids]
  | n2 wd a b => simp [Tr.names, Tr.kids]
theorem kids_deep {t k : Tr} (h : k ∈ t.kids) : k.deep + 1 ≤ t.deep := by
  cases t with
  | leaf wd x => cases h
  | n0 wd => cases h
  | n1 wd a =>
    rw [List.mem_singleton.mp h]
    exact Nat.le_refl _
  | n2 wd a b =>
    rcases List.mem_cons.mp h with z | z
    · rw [z]
      exact Nat.succ_le_succ (Nat.le_max_left _ _)
    · rw [List.mem_singleton.mp z]
      exact Nat.succ_le_succ (Nat.le_max_right _ _)
abbrev endVs : List V := [.str "num", .str "bound", .str "no"]
theorem ends_or (wd : Str) (h : inV (.str wd) endVs = false) (hl : leafy wd = true) : wd = "name" := by
  have e1 : ∀ k : Str, eqV (.str k) (.str wd) = decide (k = wd) := fun k => by
    unfold eqV
    rfl
  unfold inV endVs at h
  unfold leafy inV leafVs at hl
  simp only [List.any_cons, List.any_nil, e1, Bool.or_false, Bool.or_eq_false_iff, Bool.or_eq_true, decide_eq_true_eq, decide_eq_false_iff_not] at h hl
  rcases hl with z | z | z
  · exact absurd z h.1
  · exact z.symm
  · exact absurd z h.2.1
theorem names_leaf {t : Tr} (hl : leafy t.word = true) (ok : t.Ok) : t.names = leafName t := by
  cases t with
  | leaf wd x => rfl
  | n0 wd => rfl
  | n1 wd a => exact (no_leaf ok.1 hl).elim
  | n2 wd a b => exact (no_leaf ok.1 hl).elim
theorem end_word {wd : Str} (h : inV (.str wd) endVs = true) : wd = "num" ∨ wd = "bound" ∨ wd = "no" := by
  have e1 : ∀ k : Str, eqV (.str k) (.str wd) = decide (k = wd) := fun k => by
    unfold eqV
    rfl
  unfold inV endVs at h
  simp only [List.any_cons, List.any_nil, e1, Bool.or_false, Bool.or_eq_true, decide_eq_true_eq] at h
  rcases h with z | z | z
  · exact .inl z.symm
  · exact .inr (.inl z.symm)
  · exact .inr (.inr z.symm)
theorem end_names {t : Tr} (h : inV (.str t.word) endVs = true) (ok : t.Ok) (no : t.Not) : t.names = [] := by
  cases t with
  | leaf wd x =>
    have ne : ¬ wd = "name" := by
      intro z
      rcases end_word h with e | e | e
      · exact absurd (z.symm.trans e) (by decide +kernel)
      · exact absurd (z.symm.trans e) (by decide +kernel)
      · exact absurd (z.symm.trans e) (by decide +kernel)
    show (if wd = "name" then _ else []) = _
    rw [if_neg ne]
  | n0 wd => rfl
  | n1 wd a =>
    rcases end_word h with e | e | e
    · exact (no_leaf ok.1 (by rw [show wd = "num" from e]; decide +kernel)).elim
    · exact (no_leaf ok.1 (by rw [show wd = "bound" from e]; decide +kernel)).elim
    · exact absurd e no.1
  | n2 wd a b =>
    rcases end_word h with e | e | e
    · exact (no_leaf ok.1 (by rw [show wd = "num" from e]; decide +kernel)).elim
    · exact (no_leaf ok.1 (by rw [show wd = "bound" from e]; decide +kernel)).elim
    · exact absurd e no.1
theorem kids_not {t : Tr} (no : t.Not) : ∀ a ∈ t.kids, a.Not := by
  cases t with
  | leaf w x => intro a h; cases h
  | n0 w => intro a h; cases h
  | n1 w a =>
    intro c h
    rw [List.mem_singleton.mp h]
    exact no.2
  | n2 w a b =>
    intro c h
    rcases List.mem_cons.mp h with z | z
    · rw [z]
      exact no.2.1
    · rw [List.mem_singleton.mp z]
      exact no.2.2
theorem ok_LN {f : Addr} {fd : FuncData} {n : Nat} (F : Fun K "_law_names" "_law_names" sLN f fd) (S : FnOk P w K mg base CX0 n f fd ["thing"] (spLN n)) (bS : Binds K fd ["thing"] []) (mS : mg "_law_names" = some (.ref f)) :
    FnOk P w K mg base CX0 (n + 1) f fd ["thing"] (spLN (n + 1)) := by
  refine F.ok scLN (fun vs H Q E h => ?_) (fun cdv A outer s H vs Q E hr h => ?_)
  · obtain ⟨v, t, rfl, _⟩ := h
    rfl
  obtain ⟨v, t, rfl, hA, hO, hN, hd, h12, q⟩ := h
  refine ⟨_, pss_cons (ps_if (pt_cmpR op_eq (pe_ix ix_tup (pv 0) pe_int (fun _ _ => rfl)) pe_str (nomark _)) (pss_one (ps_ret (pe_lst (pa_cons (pe_ix ix_tup (pv 0) pe_int (fun _ _ => rfl)) pa_nil)))) pss_nil)
    (pss_cons (ps_if (pt_cmpR op_in_seq (pe_ix ix_tup (pv 0) pe_int (fun _ _ => rfl)) (pe_tup (pa_cons pe_str (pa_cons pe_str (pa_cons pe_str pa_nil)))) (by rfl)) (pss_one (ps_ret (pe_lst pa_nil))) pss_nil)
    (pss_cons (ps_set (i := 1) scLN.nd rfl (.inl rfl) (pe_lst pa_nil))
    (pss_cons (ps_for PassesOwn.never rfl (pi_tup (pe_slice sl_tup (pv 0) (po_some pe_int) po_none)) (pg_name (i := 2) scLN.nd rfl (.inl rfl))
      (pss_one (ps_set (i := 1) scLN.nd rfl (.inl rfl) (pe_op op_cat (pv 1) (pe_call S hr (by rfl) mS F.kp bS .nil pass0 (pa_cons (pv 2) pa_nil))))))
    (pss_one (ps_ret (pv 1)))))), ?_⟩
  obtain ⟨p1, us, rfl, hp1, isN, noN⟩ := leaf_name hO hA
  obtain ⟨p2, us2, e2, hp2, _, kids, leafs⟩ := hA.view hO
  have e3 : p1 = p2 := by
    injection e2
  subst e3
  rw [hp1] at hp2
  have e4 : us = us2 := by
    injection hp2 with z
    injection z with z
    injection z
  subst e4
  refine ⟨_, rfl, p1, _, 0, _, rfl, rfl, .inl (.inl hp1), head_at _ _, rfl, _, rfl, ?_⟩
  refine ite2 (fun c => ?_) (fun c => ?_)
  · have ew : t.word = "name" := by
      have z := of_decide_eq_true c
      injection z
    obtain ⟨z, eu, el⟩ := isN ew
    have en : t.names = [z] := (names_leaf (by rw [ew]; decide +kernel) hO).trans el
    refine ⟨_, rfl, p1, _, 1, .str z, rfl, rfl, .inl (.inl hp1), (by rw [eu]; exact atI_nat (j := 1) rfl), (by show 1 ≤ sizeLine; decide), fun l hl => ?_⟩
    exact q l _ (same_new hl) hl (by rw [en, upd_same]; rfl)
  have nw : t.word ≠ "name" := fun z => c (by rw [z]; exact decide_eq_true rfl)
  refine ⟨_, rfl, p1, _, 0, _, rfl, rfl, .inl (.inl hp1), head_at _ _, (by show 3 ≤ sizeLine; decide), fun m nm => ?_⟩
  refine ⟨m, endVs, rfl, .inr (.inl (.inl upd_same)), rfl, rfl, _, rfl, ?_⟩
  show if inV (.str t.word) endVs = true then _ else _
  have s1 : Same H (upd H m (.tup endVs)) := same_new nm
  by_cases ce : inV (.str t.word) endVs = true
  · rw [if_pos ce]
    refine ⟨Nat.zero_le _, fun l hl => ?_⟩
    exact q l _ (same_put s1 hl) (s1.free hl) (by rw [end_names ce hO hN, upd_same]; rfl)
  · rw [if_neg ce]
    have nl : leafy t.word = false := by
      cases hl : leafy t.word with
      | false => rfl
      | true => exact absurd (ends_or t.word (Bool.eq_false_iff.mpr ce) hl) nw
    have kd := kids nl
    have len1 := kd.len
    refine ⟨Nat.zero_le _, fun l0 nl0 => ?_⟩
    have s2 := same_put (o := .lst []) s1 nl0
    refine ⟨_, rfl, 1, rfl, p1, _, rfl, .inl (.inl (s2 _ _ hp1)), cut_not _ _, fun c nc => ?_⟩
    rw [cut_one]
    have s3 := same_put (o := .tup us) s2 nc
    have ncl : c ≠ l0 := fun z => by
      rw [z, upd_same] at nc
      cases nc
    refine ⟨c, rfl, ⟨_, .inl (.inl upd_same)⟩, for_tup (K := K) (a := c) (xs := us) (fun i σ H' => ∃ (l : Addr) (y2 : Option V), σ = [some (.ref p1), some (.ref l), y2] ∧ Same H H' ∧ H l = none ∧ H' c = some (.tup us) ∧ H' l = some (.lst (((t.kids.take i).flatMap Tr.names).map V.str)))
      ⟨l0, none, rfl, s3, s1.free nl0, upd_same, ?_⟩ (fun i σ H' _ ⟨_, _, _, _, _, kt, _⟩ => .inl (.inl kt)) ?_ ?_⟩
    · rw [upd_ne ncl.symm, upd_same]
      simp
    · rintro i x σ H' hx ⟨l, y2, rfl, sm, fl, hc, hl⟩
      obtain ⟨tk, htk, hax⟩ := kd.get hx
      have mk : tk ∈ t.kids := List.mem_of_getElem? htk
      have dk := kids_deep mk
      refine ⟨_, rfl, _, rfl, x, tk, rfl, hax.keep (tups_same sm), kids_ok hO _ mk, kids_not hN _ mk, by omega, by omega, fun l2 H2 sm2 nl2 hl2 => ?_⟩
      have en : (t.kids.take (i + 1)).flatMap Tr.names = (t.kids.take i).flatMap Tr.names ++ tk.names := by
        rw [List.take_add_one, htk, List.flatMap_append]
        simp
      have small : (((t.kids.take i).flatMap Tr.names).map V.str).length + (tk.names.map V.str).length ≤ sizeLine := by
        have h1 : ((t.kids.take i).flatMap Tr.names).length ≤ t.names.length := by
          rw [names_kids nl hO]
          conv => rhs; rw [← List.take_append_drop i t.kids, List.flatMap_append, List.length_append]
          exact Nat.le_add_right _ _
        have h2 := names_size t
        have h3 := size_deep t
        have h4 : 2 ^ t.deep ≤ 2 ^ 12 := Nat.pow_le_pow_right (by decide) h12
        have h5 := names_size tk
        have h6 := size_deep tk
        have h7 : 2 ^ tk.deep ≤ 2 ^ 12 := Nat.pow_le_pow_right (by decide) (by omega)
        rw [List.length_map, List.length_map]
        refine Nat.le_trans (show _ ≤ 8192 by omega) (by decide)
      refine ⟨l, l2, _, _, rfl, rfl, sm2 _ _ hl, hl2, small, fun l3 nl3 => ?_⟩
      have sm3 := same_put (o := .lst (((t.kids.take i).flatMap Tr.names).map V.str ++ tk.names.map V.str)) (sm.trans sm2) nl3
      refine ⟨l3, some x, rfl, sm3, (sm.trans sm2).free nl3, ?_, ?_⟩
      · have e1 := sm2 _ _ hc
        rw [upd_ne (ne_of_none e1 nl3)]
        exact e1
      · rw [upd_same, en, List.map_append]
    · rintro σ H' ⟨l, y2, rfl, sm, fl, hc, hl⟩
      rw [← len1, List.take_length, ← names_kids nl hO] at hl
      exact ⟨_, rfl, q l H' sm fl hl⟩
theorem ok_LNs {f : Addr} {fd : FuncData} (F : Fun K "_law_names" "_law_names" sLN f fd) (bS : Binds K fd ["thing"] []) (mS : mg "_law_names" = some (.ref f)) : ∀ n : Nat, FnOk P w K mg base CX0 n f fd ["thing"] (spLN n)
  | 0 => no_calls fun vs H Q E h => by
    obtain ⟨v, t, _, _, _, _, hd, _⟩ := h
    have : 1 ≤ t.deep := by
      cases t
      · exact Nat.le_refl 1
      · exact Nat.le_refl 1
      · exact Nat.le_add_left 1 _
      · exact Nat.le_add_left 1 _
    omega
  | n + 1 => ok_LN F (ok_LNs F bS mS n) bS mS
end
end Kf
set_option Elab.async false
set_option linter.all false
set_option maxRecDepth 100000
set_option maxHeartbeats 8000000
/-! The law. -/
namespace Kf
open PySem PySem.Spec PyProof.Rows L2 Sx
abbrev sLaw : Stmt := top 15
abbrev lawN : List Str := ["script", "k", "feed", "letters", "names", "turn", "some", "thing", "due", "found", "place"]
theorem scLaw : FnScope lawN ["script"] (defScope sLaw) := ⟨rfl, rfl, rfl, by decide +kernel, rfl, by decide +kernel, by decide +kernel⟩
abbrev abc : Str := "abcdefghijklmnopqrstuvwxyz"
theorem abc_ok : ∀ c ∈ abc.cps.toList, c < 0x110000 := by decide +kernel
/-- a text of one of these signs -/
def OneSign (x : Str) : Prop := ∃ c, c ∈ abc.cps.toList ∧ x = ⟨#[c]⟩
theorem joinL_mem : ∀ (ps : List (List Nat)) (c : Nat), c ∈ TL.joinL [] ps → ∃ p ∈ ps, c ∈ p
  | [], c, h => by cases h
  | [p], c, h => ⟨p, List.mem_singleton.mpr rfl, h⟩
  | p :: q :: r, c, h => by
    rcases List.mem_append.mp (show c ∈ p ++ ([] ++ TL.joinL [] (q :: r)) from h) with z | z
    · exact ⟨p, List.mem_cons_self, z⟩
    · obtain ⟨p2, h1, h2⟩ := joinL_mem (q :: r) c z
      exact ⟨p2, List.mem_cons_of_mem _ h1, h2⟩
theorem join_nm {a : Str} {ys : List Str} (ha : a.cps.toList = []) (h : ∀ y ∈ ys, OneSign y) : NmOk (Txt.join a ys) := by
  have e := TL.tl_join a ys
  rw [show TL.tl a = [] from ha] at e
  rw [← TL.join_eq] at e
  unfold NmOk
  rw [Array.all_eq_true']
  intro c hc
  have hc2 : c ∈ TL.tl (Txt.join a ys) := by
    show c ∈ (Txt.join a ys).cps.toList
    exact Array.mem_toList_iff.mpr hc
  rw [e] at hc2
  obtain ⟨p, hp, hcp⟩ := joinL_mem _ c hc2
  obtain ⟨y, hy, rfl⟩ := List.mem_map.mp hp
  obtain ⟨c2, h2, rfl⟩ := h y hy
  have e3 : c = c2 := by
    have z : c ∈ [c2] := hcp
    exact List.mem_singleton.mp z
  rw [e3]
  exact decide_eq_true (abc_ok c2 h2)
theorem one_lens : ∀ {ys : List Str}, (∀ y ∈ ys, OneSign y) → (ys.map (·.length)).sum = ys.length
  | [], _ => rfl
  | y :: ys, h => by
    obtain ⟨c, _, rfl⟩ := h y List.mem_cons_self
    rw [List.map_cons, List.sum_cons, one_lens fun y hy => h y (List.mem_cons_of_mem _ hy), List.length_cons]
    show 1 + ys.length = ys.length + 1
    omega
theorem insAll_nodup : ∀ (xs ks : List Str), ks.Nodup → (insAll ks xs).Nodup
  | [], ks, h => h
  | x :: r, ks, h => insAll_nodup r (ins x ks) (ins_nodup h)
theorem lo62 {r : Int} (h : 0 ≤ r) : -(2 ^ 62) ≤ r := Int.le_trans (by decide) h
theorem hi62 {r : Int} (h : r ≤ 1000) : r < 2 ^ 62 := Int.lt_of_le_of_lt h (by decide)
abbrev dueH (w : World) (H : Hp) (S : Addr) (ks : List Str) (d : Addr) (ys : List Str) : Hp := upd (upd H S (SetX w S ks)) d (.lst (ys.map V.str))
def spLaw (K : PySem.W.Frag) : Sp := fun vs H Q _ => ∃ (a : Addr) (ns : List Int), vs = [.ref a] ∧ SqL K H a (ns.map V.int) ∧ ns.length ≤ 63 ∧ (∀ z ∈ ns, Builtin.Int.intBits z ≤ 1048576) ∧ ∀ H', Q (.bl true) H'
section
variable {P : Program} {w : World} {K : PySem.W.Frag} {mg : Str → Option Value} {base : Heap}
/-- what the law calls -/
structure Calls (P : Program) (w : World) (K : PySem.W.Frag) (mg : Str → Option Value) (base : Heap) (ff ft fp fm fs fn fi : Addr) (df dt dp dm ds dn di : FuncData) : Prop where
  D : Draw P w K mg base ft fp dt dp
  Fd : FnOk P w K mg base CX0 1 ff df ["script", "k"] (spFeed K)
  bFd : Binds K df ["script", "k"] []
  kFd : PySem.W.keepIn K (.ref ff) = true
  mFd : mg "_law_feed" = some (.ref ff)
  M : FnOk P w K mg base CX0 8 fm dm ["feed", "deep", "names", "around"] (spTerm 5)
  bM : Binds K dm ["feed", "deep", "names", "around"] []
  kM : PySem.W.keepIn K (.ref fm) = true
  mM : mg "_law_term" = some (.ref fm)
  S : FnOk P w K mg base CX0 11 fs ds ["feed", "deep", "names", "around"] (spSaying 5)
  bS : Binds K ds ["feed", "deep", "names", "around"] []
  kS : PySem.W.keepIn K (.ref fs) = true
  mS : mg "_law_saying" = some (.ref fs)
  N : FnOk P w K mg base CX0 12 fn dn ["thing"] (spLN 12)
  bN : Binds K dn ["thing"] []
  kN : PySem.W.keepIn K (.ref fn) = true
  mN : mg "_law_names" = some (.ref fn)
  I : FnOk P w K mg base CX0 3 fi di ["thing"] spNamesIn
  bI : Binds K di ["thing"] []
  kI : PySem.W.keepIn K (.ref fi) = true
  mI : mg "names_in" = some (.ref fi)
  zRange : mg "range" = none
  zMax : mg "max" = none
  zMin : mg "min" = none
  zLen : mg "len" = none
  zSorted : mg "sorted" = none
  zSet : mg "set" = none
  zIs : mg "isinstance" = none
  zList : mg "list" = none
theorem ok_law {f ff ft fp fm fs fn fi : Addr} {fd df dt dp dm ds dn di : FuncData} (F : Fun K "law" "law" sLaw f fd) (C : Calls P w K mg base ff ft fp fm fs fn fi df dt dp dm ds dn di) : FnOk P w K mg base CX0 13 f fd ["script"] (spLaw K) := by
  refine F.ok scLaw (fun vs H Q E h => ?_) (fun cdv A outer s H vs Q E hr h => ?_)
  · obtain ⟨a, ns, rfl, _⟩ := h
    rfl
  obtain ⟨a, ns, rfl, hS, hlen, hb, q⟩ := h
  have h1 : Room 1 _ := hr.mono (by decide)
  have h2 : Room 2 _ := hr.mono (by decide)
  have h3 : Room 3 _ := hr.mono (by decide)
  have h8 : Room 8 _ := hr.mono (by decide)
  have h11 : Room 11 _ := hr.mono (by decide)
  refine ⟨_, pss_cons (ps_for PassesOwn.never rfl (pi_range1 (by rfl) C.zRange (pa_cons (pe_callB (call_max2 rfl) (by rfl) C.zMax (by decide +kernel) (pa_cons pe_int (pa_cons (pe_callB (call_min2 rfl) (by rfl) C.zMin (by decide +kernel) (pa_cons pe_int (pa_cons (pe_callB call_len_seq (by rfl) C.zLen PySem.boot_len (pa_cons (pv 0) pa_nil)) pa_nil))) pa_nil))) pa_nil)) (pg_name (i := 1) scLaw.nd rfl (.inl rfl))
      (pss_cons (ps_set (i := 2) scLaw.nd rfl (.inr rfl) (pe_call C.Fd h1 (by rfl) C.mFd C.kFd C.bFd .nil pass0 (pa_cons (pv 0) (pa_cons (pv 1) pa_nil))))
      (pss_cons (ps_set (i := 3) scLaw.nd rfl (.inr rfl) pe_str)
      (pss_cons (ps_set (i := 4) scLaw.nd rfl (.inl rfl) (pe_lst pa_nil))
      (pss_cons (ps_for PassesOwn.never rfl (pi_range1 (by rfl) C.zRange (pa_cons (pe_call C.D.T h1 (by rfl) C.D.mT C.D.kT C.D.bT .nil pass0 (pa_cons (pv 2) (pa_cons pe_int pa_nil))) pa_nil)) (pg_name (i := 5) scLaw.nd rfl (.inl rfl))
        (pss_one (ps_expr (pe_bm PySem.F.plainAttrs_list PySem.F.slot_list_append PySem.F.type_list_append mt_append (pv 4) (pa_cons (pe_join pe_str
          (pe_lc (own := [("place", 10)]) (g := gName 10) (tt := tYes) rfl scLaw.nd (pi_range1 (by rfl) C.zRange (pa_cons (pe_op op_add pe_int (pe_call C.D.T h1 (by rfl) C.D.mT C.D.kT C.D.bT .nil pass0 (pa_cons (pv 2) (pa_cons pe_int pa_nil)))) pa_nil))
            (blkOk_by (N := lawN) (sc := defScope sLaw) (by decide +kernel)) (fun _ _ _ _ _ => pg_name (i := 10) scLaw.nd rfl (Or.inl rfl)) (fun _ _ _ _ _ => pts_nil)
            (fun _ _ _ _ _ => pe_call C.D.Ps h2 (by rfl) C.D.mP C.D.kP C.D.bP .nil pass0 (pa_cons (pv 2) (pa_cons (pv 3) pa_nil))))) pa_nil)))))
      (pss_cons (ps_set (i := 6) scLaw.nd rfl (.inl rfl) (pe_lst
        (pa_cons (pe_call C.M h8 (by rfl) C.mM C.kM C.bM .nil pass0 (pa_cons (pv 2) (pa_cons pe_int (pa_cons (pv 4) (pa_cons pe_int pa_nil)))))
        (pa_cons (pe_call C.S h11 (by rfl) C.mS C.kS C.bS .nil pass0 (pa_cons (pv 2) (pa_cons pe_int (pa_cons (pv 4) (pa_cons pe_int pa_nil)))))
        (pa_cons (pe_call C.S h11 (by rfl) C.mS C.kS C.bS .nil pass0 (pa_cons (pv 2) (pa_cons pe_int (pa_cons (pv 4) (pa_cons pe_int pa_nil))))) pa_nil)))))
      (pss_one (ps_for PassesOwn.never rfl (pi_list (pv 6)) (pg_name (i := 7) scLaw.nd rfl (.inl rfl))
        (pss_cons (ps_set (i := 8) scLaw.nd rfl (.inl rfl) (pe_callB (cr_sortX rfl) (by rfl) C.zSorted (by decide +kernel) (pa_cons (pe_callTy (cr_ofX rfl) (by rfl) C.zSet (by decide +kernel) (pa_cons (pe_call C.N hr (by rfl) C.mN C.kN C.bN .nil pass0 (pa_cons (pv 7) pa_nil)) pa_nil)) pa_nil)))
        (pss_one (ps_for PassesOwn.never rfl (pi_range1 (by rfl) C.zRange (pa_cons pe_int pa_nil)) (pg_name (i := 5) scLaw.nd rfl (.inl rfl))
          (pss_cons (ps_set (i := 9) scLaw.nd rfl (.inl rfl) (pe_call C.I h3 (by rfl) C.mI C.kI C.bI .nil pass0 (pa_cons (pv 7) pa_nil)))
          (pss_cons (ps_if (PW.pt (pw_or (pt_not (pt_val (pe_callB call_isi (by rfl) C.zIs (by decide +kernel) (pa_cons (pv 9) (pa_cons (pe_bltn (v := .ty "list") (by rfl) C.zList (by decide +kernel) rfl) pa_nil))))) (pw_or1 (pt_cmpR (op_neD hr.units) (pv 9) (pv 8) (nomark _))))) (pss_one (ps_ret pe_bl)) pss_nil)
          (pss_one (ps_expr (pe_bm PySem.F.plainAttrs_list PySem.F.slot_list_append PySem.F.type_list_append mt_append (pv 9) (pa_cons pe_str pa_nil)))))))))))))))))
    (pss_one (ps_ret (pe_and (pe_cmpR (op_eqD hr.units) (pe_call C.I h3 (by rfl) C.mI C.kI C.bI .nil pass0 (pa_cons (pe_tup (pa_cons pe_str pa_nil)) pa_nil)) (pe_lst pa_nil) (nomark _))
      (pe_one (pe_cmpR (op_eqD hr.units) (pe_call C.I h3 (by rfl) C.mI C.kI C.bI .nil pass0 (pa_cons (pe_tup (pa_cons pe_str (pa_cons pe_str pa_nil))) pa_nil)) (pe_lst (pa_cons pe_str pa_nil)) (nomark _)))))), ?_⟩
  -- the turns
  have bounds : ∀ n : Int, 0 ≤ n → (2 : Int) ≤ (if (if n < 6 then n else 6) > 2 then (if n < 6 then n else 6) else 2) ∧ (if (if n < 6 then n else 6) > 2 then (if n < 6 then n else 6) else 2) ≤ 6 := fun n _ => by
    split
    · split <;> omega
    · omega
  obtain ⟨bn1, bn2⟩ := bounds ((ns.map V.int).length : Nat) (Int.natCast_nonneg _)
  refine ⟨_, rfl, a, _, rfl, .inl hS, _, _, rfl, _, _, rfl, _, rfl, lo62 (by omega), hi62 (by omega), ?_⟩
  generalize (if (if (((ns.map V.int).length : Nat) : Int) < 6 then (((ns.map V.int).length : Nat) : Int) else 6) > 2 then (if (((ns.map V.int).length : Nat) : Int) < 6 then (((ns.map V.int).length : Nat) : Int) else 6) else 2) = turns at bn1 bn2 ⊢
  refine for_range (lo := 0) (n := turns.toNat) (fun i σ H' => ∃ y1 y2 y3 y4 y5 y6 y7 y8 y9 y10 : Option V, σ = [some (.ref a), y1, y2, y3, y4, y5, y6, y7, y8, y9, y10] ∧ Same H H') ⟨none, none, none, none, none, none, none, none, none, none, rfl, Same.refl H⟩ ?_ ?_
  · rintro i σ H0 hi ⟨y1, y2, y3, y4, y5, y6, y7, y8, y9, y10, rfl, s0⟩
    -- feed, letters, names
    refine ⟨_, rfl, _, rfl, a, ns, i, (by show [V.ref a, V.int (0 + (i : Int))] = _; rw [Int.zero_add]), s0.seq hS, hb, by omega, fun f H1 s1 nf hF => ?_⟩
    refine ⟨Nat.zero_le _, fun l nl => ?_⟩
    have nlf : l ≠ f := hF.ne nl
    have s2 : Same H0 (upd H1 l (.lst [])) := same_put s1 nl
    refine ⟨_, rfl, f, 4, rfl, by decide, by decide, hF.same (same_new nl), fun r H2 r0 r1 b2 hF2 => ?_⟩
    refine ⟨r, rfl, lo62 r0, hi62 (by omega), ?_⟩
    have fresh : ∀ {b : Addr} {o : HO}, H0 b = some o → b ≠ f ∧ b ≠ l := fun {b o} e => ⟨ne_of_none e nf, fun z => by
      have q2 := s1 _ _ e
      rw [z, nl] at q2
      cases q2⟩
    have s3 : Same H0 H2 := fun b o e => b2 _ _ (fresh e).1 (s2 _ _ e)
    refine for_range (lo := 0) (n := r.toNat) (fun j σ H' => ∃ (nms : List Str) (y5 y6 y7 y8 y9 y10 : Option V), σ = [some (.ref a), some (.int (0 + (i : Int))), some (.ref f), some (.str abc), some (.ref l), y5, y6, y7, y8, y9, y10] ∧
        nms.length = j ∧ (∀ z ∈ nms, NmOk z) ∧ H' l = some (.lst (nms.map V.str)) ∧ FeedAt H' f ∧ Same H0 H') ⟨[], y5, y6, y7, y8, y9, y10, rfl, rfl, fun z hz => (List.not_mem_nil hz).elim, b2 _ _ nlf upd_same, hF2, s3⟩ ?_ ?_
    · rintro j σ H3 hj ⟨nms, y5, y6, y7, y8, y9, y10, rfl, lj, okn, hl, hF3, s3⟩
      refine ⟨_, rfl, .inl ⟨rfl, _, .inl (.inl hl)⟩, ⟨_, rfl⟩, _, rfl, f, 8, rfl, by decide, by decide, hF3, fun r2 H4 r20 r21 b4 hF4 => ?_⟩
      refine ⟨_, _, rfl, rfl, _, rfl, lo62 (by omega), hi62 (by omega), fun D nD => ?_⟩
      have hl4 : H4 l = some (.lst (nms.map V.str)) := b4 _ _ nlf hl
      have nDl : l ≠ D := ne_of_none hl4 nD
      have nDf : D ≠ f := hF4.ne nD
      have s4 : Same H0 H4 := fun b o e => b4 _ _ (fresh e).1 (s3 _ _ e)
      refine lc_range (lo := 0) (n := (1 + r2).toNat) (fun m H' => ∃ sx : List Str, sx.length = m ∧ (∀ y ∈ sx, OneSign y) ∧ H' D = some (.lst (sx.map V.str)) ∧ H' l = some (.lst (nms.map V.str)) ∧ FeedAt H' f ∧ Same H0 H')
        ⟨[], rfl, fun y hy => (List.not_mem_nil hy).elim, upd_same, (by rw [upd_ne nDl]; exact hl4), hF4.same (same_new nD), same_put s4 nD⟩ ?_ ?_
      · rintro m H5 hm ⟨sx, lm, one, hD, hl5, hF5, s5⟩
        refine ⟨rfl, ?_⟩
        refine ⟨_, rfl, _, rfl, f, abc, rfl, by decide +kernel, by decide +kernel, hF5, fun c hc H6 b6 hF6 => ?_⟩
        have hD6 := b6 _ _ nDf hD
        refine ⟨sx.map V.str, hD6, (by rw [List.length_map]; exact line_of (by omega)), sx ++ [⟨#[c]⟩], by rw [List.length_append, lm]; rfl, fun y hy => ?_, by rw [upd_same, List.map_append]; rfl, ?_, ?_, fun b o e => ?_⟩
        · rcases List.mem_append.mp hy with z | z
          · exact one y z
          · exact ⟨c, hc, List.mem_singleton.mp z⟩
        · rw [upd_ne nDl]
          exact b6 _ _ nlf hl5
        · obtain ⟨x1, x2, e1, e2⟩ := hF6
          exact ⟨x1, x2, by rw [upd_ne nDf.symm]; exact e1, e2⟩
        · have nbD : b ≠ D := ne_of_none (s4 _ _ e) nD
          rw [upd_ne nbD]
          exact b6 _ _ (fresh e).1 (s5 _ _ e)
      · rintro H7 ⟨sx, lm, one, hD, hl7, hF7, s7⟩
        refine ⟨_, D, sx, rfl, rfl, .inl (.inl (.inl hD)), ?_, ?_⟩
        · rw [one_lens one]
          show sx.length + sx.length * (Str.ofString "").length ≤ 16777216
          rw [show (Str.ofString "").length = 0 by decide +kernel]
          omega
        · refine ⟨l, _, _, rfl, rfl, hl7, (by rw [List.length_map]; exact line_of (by omega)), ?_⟩
          refine ⟨nms ++ [Txt.join (Str.ofString "") sx], _, y6, y7, y8, y9, y10, rfl, by rw [List.length_append, lj]; rfl, fun z hz => ?_, by rw [upd_same, List.map_append]; rfl, ?_, fun b o e => ?_⟩
          · rcases List.mem_append.mp hz with z2 | z2
            · exact okn z z2
            · rw [List.mem_singleton.mp z2]
              exact join_nm (by decide +kernel) one
          · obtain ⟨x1, x2, e1, e2⟩ := hF7
            exact ⟨x1, x2, by rw [upd_ne nlf.symm]; exact e1, e2⟩
          · rw [upd_ne (fresh e).2]
            exact s7 _ _ e
    · rintro σ H3 ⟨nms, y5, y6, y7, y8, y9, y10, rfl, lj, okn, hl, hF3, s3⟩
      have hN : NmAt H3 l nms := ⟨hl, by omega, okn⟩
      -- some
      refine ⟨_, rfl, _, rfl, f, l, nms, 0, 4, rfl, by decide, nlf, hN, by decide, hF3, fun t1 v1 H4 m1 a1 b4 hF4 => ?_⟩
      have hN4 := hN.keep nlf b4
      refine ⟨_, rfl, _, rfl, f, l, nms, 0, 4, rfl, by decide, nlf, hN4, by decide, hF4, fun t2 v2 H5 m2 a2 b5 hF5 => ?_⟩
      have hN5 := hN4.keep nlf b5
      refine ⟨_, rfl, _, rfl, f, l, nms, 1, 4, rfl, by decide, nlf, hN5, by decide, hF5, fun t3 v3 H6 m3 a3 b6 hF6 => ?_⟩
      refine ⟨(by show 3 ≤ sizeLine; decide), fun sm nsm => ?_⟩
      have k1 : At H6 t1 v1 := (a1.keep (hF4.tups b5)).keep (hF5.tups b6)
      have k2 : At H6 t2 v2 := a2.keep (hF5.tups b6)
      have s6 : Same H0 (upd H6 sm (.lst [v1, v2, v3])) := same_put (fun b o e => b6 _ _ (fresh e).1 (b5 _ _ (fresh e).1 (b4 _ _ (fresh e).1 (s3 _ _ e)))) nsm
      have three : All2 (fun t v => t.Ok ∧ t.Not ∧ t.deep ≤ 8 ∧ (∀ z ∈ t.names, z ∈ nms) ∧ At (upd H6 sm (.lst [v1, v2, v3])) t v) [t1, t2, t3] [v1, v2, v3] := by
        have kk := tups_same (same_new (o := .lst [v1, v2, v3]) nsm)
        exact .cons ⟨m1.ok, m1.no, Nat.le_trans m1.dp (by decide), m1.nm, k1.keep kk⟩ (.cons ⟨m2.ok, m2.no, Nat.le_trans m2.dp (by decide), m2.nm, k2.keep kk⟩ (.one ⟨m3.ok, m3.no, Nat.le_trans m3.dp (by decide), m3.nm, a3.keep kk⟩))
      generalize hHs : upd H6 sm (.lst [v1, v2, v3]) = Hs at s6 three
      have hsm : Hs sm = some (.lst [v1, v2, v3]) := by
        rw [← hHs, upd_same]
      have few : nms.length ≤ 60 := by omega
      refine ⟨_, rfl, sm, rfl, ⟨_, .inl (.inl hsm)⟩, for_list (K := K) (a := sm) (xs := [v1, v2, v3]) (fun m σ H' => ∃ y5 y7 y8 y9 y10 : Option V, σ = [some (.ref a), some (.int (0 + (i : Int))), some (.ref f), some (.str abc), some (.ref l), y5, some (.ref sm), y7, y8, y9, y10] ∧ Same Hs H')
        ⟨y5, y7, y8, y9, y10, rfl, Same.refl Hs⟩ (fun m σ H' _ ⟨_, _, _, _, _, _, z⟩ => .inl (.inl (z _ _ hsm))) ?_ ?_⟩
      · rintro m x σ H7 hx ⟨y5, y7, y8, y9, y10, rfl, s7⟩
        obtain ⟨t, _, ok, no, dp8, nm, hat⟩ := three.get hx
        have dp : t.deep ≤ 12 := Nat.le_trans dp8 (by decide)
        have at7 : At H7 t x := hat.keep (tups_same s7)
        have big : t.names.length ≤ 4000 := by
          have e1 := names_size t
          have e2 := size_deep t
          have e3 : 2 ^ t.deep ≤ 2 ^ 8 := Nat.pow_le_pow_right (by decide) dp8
          omega
        -- due
        refine ⟨_, rfl, x, t, rfl, at7, ok, no, dp, dp, fun p H8 s8 np hp => ?_⟩
        refine ⟨p, t.names, rfl, .inl (.inl hp), (by unfold scanBound; omega), fun S nS => ?_⟩
        have inN : ∀ k ∈ insAll [] t.names, k ∈ nms := fun k hk => nm k (((insAll_mem t.names []).1 hk).resolve_right (List.not_mem_nil))
        have kfew := nodup_le _ nms (insAll_nodup t.names [] List.nodup_nil) inN
        refine ⟨S, insAll [] t.names, rfl, upd_same, by omega, fun ys d pm ynd srt nd => ?_⟩
        have ris : Rising t ys := ⟨sorted_pairs ys srt, ynd, fun z => (pm.mem_iff).trans ((insAll_mem t.names []).trans ⟨fun h => h.resolve_right List.not_mem_nil, .inl⟩)⟩
        have s9 : Same H7 (dueH w H8 S (insAll [] t.names) d ys) := same_put (same_put s8 nS) nd
        have hd : (dueH w H8 S (insAll [] t.names) d ys) d = some (.lst (ys.map V.str)) := upd_same
        have oky : ∀ z ∈ ys, NmOk z := fun z hz => okn z (nm z ((ris.mem z).1 hz))
        refine ⟨_, rfl, (by decide), (by decide), for_range (lo := 0) (n := 2) (fun m σ H' => ∃ y5 y9 y10 : Option V, σ = [some (.ref a), some (.int (0 + (i : Int))), some (.ref f), some (.str abc), some (.ref l), y5, some (.ref sm), some x, some (.ref d), y9, y10] ∧ Same (dueH w H8 S (insAll [] t.names) d ys) H')
          ⟨y5, y9, y10, rfl, Same.refl _⟩ ?_ ?_⟩
        · rintro m2 σ H9 hm2 ⟨y5, y9, y10, rfl, s10⟩
          refine ⟨_, rfl, x, t, nms, rfl, (at7.keep (tups_same s9)).keep (tups_same s10), ok, dp, nm, few, fun zs g H11 s11 ng hg ris2 => ?_⟩
          have eq : zs = ys := ris2.one ris
          subst eq
          have hd11 := s11 _ _ (s10 _ _ hd)
          refine ⟨_, rfl, _, _, _, _, true, rfl, .ty "list", .base (.lst hg), kit_ty (by decide +kernel), _, rfl, ?_⟩
          refine iteF ?_
          refine ⟨_, rfl, _, rfl, _, _, dp_strs (.inl (.inl hg)), dp_strs (.inl (.inl hd11)), shaped_strs oky, shaped_strs oky, _, rfl, ?_⟩
          show if (!PyData.eqvAll (zs.map .str) (zs.map .str)) = true then _ else _
          rw [eqv_strs, decide_eq_true rfl]
          refine iteF ?_
          refine ⟨_, rfl, .inl ⟨rfl, _, .inl (.inl hg)⟩, g, _, _, rfl, rfl, hg, ?_, _, _, y10, rfl, fun b o e => ?_⟩
          · rw [List.length_map]
            have := nodup_le zs nms ris2.nd fun z hz => nm z ((ris2.mem z).1 hz)
            exact line_of (by omega)
          · have e9 := s10 _ _ e
            rw [upd_ne (ne_of_none e9 ng)]
            exact s11 _ _ e9
        · rintro σ H9 ⟨y5, y9, y10, rfl, s10⟩
          exact ⟨y5, some x, some (.ref d), y9, y10, rfl, s7.trans (s9.trans s10)⟩
      · rintro σ H7 ⟨y5, y7, y8, y9, y10, rfl, s7⟩
        exact ⟨_, _, _, _, y5, _, y7, y8, y9, y10, rfl, s0.trans (s6.trans s7)⟩
  · rintro σ H0 ⟨y1, y2, y3, y4, y5, y6, y7, y8, y9, y10, rfl, s0⟩
    refine ⟨(by show 1 ≤ sizeLine; decide), fun p np => ?_⟩
    refine ⟨.ref p, .n0 "no", [], rfl, ⟨p, rfl, upd_same⟩, (by show leafy "no" = false; decide +kernel), by decide, fun z hz => hz, by decide, fun ys g H1 s1 ng hg ris => ?_⟩
    have ey : ys = [] := ris.one ⟨List.Pairwise.nil, List.nodup_nil, fun z => Iff.rfl⟩
    subst ey
    refine ⟨Nat.zero_le _, fun e ne => ?_⟩
    have hg2 : (upd H1 e (.lst [])) g = some (.lst (([] : List Str).map V.str)) := by
      rw [upd_ne (ne_of_none hg ne)]
      exact hg
    refine ⟨_, _, dp_strs (.inl (.inl hg2)), dp_strs (ns := []) (.inl (.inl upd_same)), shaped_strs (fun z hz => (List.not_mem_nil hz).elim), shaped_strs (fun z hz => (List.not_mem_nil hz).elim), _, rfl, ?_⟩
    refine iteT ?_
    refine ⟨(by show 2 ≤ sizeLine; decide), fun p2 np2 => ?_⟩
    refine ⟨.ref p2, .leaf "name" (.str "x"), [Str.ofString "x"], rfl, ⟨p2, rfl, upd_same⟩, ⟨by decide +kernel, .inr ⟨⟨_, rfl⟩, rfl⟩⟩, by decide, fun z hz => ?_, by decide, fun ys g2 H2 s2 ng2 hg2 ris => ?_⟩
    · rw [show (Tr.leaf "name" (.str "x")).names = [Str.ofString "x"] from if_pos rfl] at hz
      exact hz
    have ey : ys = [Str.ofString "x"] := ris.one ⟨List.pairwise_singleton _ _, List.nodup_cons.mpr ⟨List.not_mem_nil, List.nodup_nil⟩, fun z => by rw [show (Tr.leaf "name" (.str "x")).names = [Str.ofString "x"] from if_pos rfl]⟩
    subst ey
    refine ⟨(by show 1 ≤ sizeLine; decide), fun e2 ne2 => ?_⟩
    have hg3 : (upd H2 e2 (.lst [.str "x"])) g2 = some (.lst ([Str.ofString "x"].map V.str)) := by
      rw [upd_ne (ne_of_none hg2 ne2)]
      exact hg2
    have okx : ∀ z ∈ [Str.ofString "x"], NmOk z := fun z hz => by
      rw [List.mem_singleton.mp hz]
      show (Str.ofString "x").cps.all (· < 0x110000) = true
      decide +kernel
    refine ⟨_, _, dp_strs (.inl (.inl hg3)), dp_strs (ns := [Str.ofString "x"]) (.inl (.inl upd_same)), shaped_strs okx, shaped_strs okx, ?_⟩
    show Q (.bl (PyData.eqvAll ([Str.ofString "x"].map .str) ([Str.ofString "x"].map .str))) _
    rw [eqv_strs, decide_eq_true rfl]
    exact q _
end
end Kf
set_option Elab.async false
set_option linter.all false
set_option maxRecDepth 100000
/-! The top, the end. -/
namespace Kf
open PySem PySem.Spec PyProof.Rows L2 Sx

theorem all_mk {l : PySem.W.OpenLaw} {w : World} {K : PySem.W.Frag} {h : Heap} {mg : Str → Option Value} {fa f1 f2 f3 f4 f5 f6 f7 f8 f9 f10 f11 LV BV : Addr} (X : K.In h) (G : h.Ns mainGlobals mg) (hfa : mg "law" = some (.ref fa))
    {od1 an1 od2 an2 od3 an3 od4 an4 od5 an5 od6 an6 od7 an7 od8 an8 od9 an9 od10 an10 od11 an11 : Option Addr} {sl1 sl2 sl3 sl4 sl5 sl6 sl7 sl8 sl9 sl10 sl11 : Array (Option Value)} {oc1 kV1 dc1 pm1 cd1 ct1 oc2 kV2 dc2 pm2 cd2 ct2 oc3 kV3 dc3 pm3 cd3 ct3 oc4 kV4 dc4 pm4 cd4 ct4 oc5 kV5 dc5 pm5 cd5 ct5 oc6 kV6 dc6 pm6 cd6 ct6 oc7 kV7 dc7 pm7 cd7 ct7 oc8 kV8 dc8 pm8 cd8 ct8 oc9 kV9 dc9 pm9 cd9 ct9 oc10 kV10 dc10 pm10 cd10 ct10 oc11 kV11 dc11 pm11 cd11 ct11 : Value}
    {ddL ddB : Option Addr} {slL slB : Array (Option Value)} {nL nB : Nat} {t1 t2 t3 t4 t5 : Tok}
    (a1 : PySem.W.nsIn K mainGlobals "beneath" = some (some (.ref f1))) (l1 : K.lookup f1 = some ⟨oc1, od1, .func (PySem.W.fnOf "beneath" "beneath" (defArgs sBeneath) (defBody sBeneath) (defScope sBeneath) .none kV1 dc1 pm1 an1 cd1 ct1), sl1⟩) (c1 : PySem.W.codeIn K cd1 "beneath" = true) (k1 : PySem.W.keepIn K (.ref f1) = true)
    (a2 : PySem.W.nsIn K mainGlobals "pieces_of" = some (some (.ref f2))) (l2 : K.lookup f2 = some ⟨oc2, od2, .func (PySem.W.fnOf "pieces_of" "pieces_of" (defArgs sPieces) (defBody sPieces) (defScope sPieces) .none kV2 dc2 pm2 an2 cd2 ct2), sl2⟩) (c2 : PySem.W.codeIn K cd2 "pieces_of" = true) (k2 : PySem.W.keepIn K (.ref f2) = true)
    (a3 : PySem.W.nsIn K mainGlobals "names_in" = some (some (.ref f3))) (l3 : K.lookup f3 = some ⟨oc3, od3, .func (PySem.W.fnOf "names_in" "names_in" (defArgs sNamesIn) (defBody sNamesIn) (defScope sNamesIn) .none kV3 dc3 pm3 an3 cd3 ct3), sl3⟩) (c3 : PySem.W.codeIn K cd3 "names_in" = true) (k3 : PySem.W.keepIn K (.ref f3) = true)
    (a4 : PySem.W.nsIn K mainGlobals "_law_feed" = some (some (.ref f4))) (l4 : K.lookup f4 = some ⟨oc4, od4, .func (PySem.W.fnOf "_law_feed" "_law_feed" (defArgs sFeed) (defBody sFeed) (defScope sFeed) .none kV4 dc4 pm4 an4 cd4 ct4), sl4⟩) (c4 : PySem.W.codeIn K cd4 "_law_feed" = true) (k4 : PySem.W.keepIn K (.ref f4) = true)
    (a5 : PySem.W.nsIn K mainGlobals "_law_take" = some (some (.ref f5))) (l5 : K.lookup f5 = some ⟨oc5, od5, .func (PySem.W.fnOf "_law_take" "_law_take" (defArgs sTake) (defBody sTake) (defScope sTake) .none kV5 dc5 pm5 an5 cd5 ct5), sl5⟩) (c5 : PySem.W.codeIn K cd5 "_law_take" = true) (k5 : PySem.W.keepIn K (.ref f5) = true)
    (a6 : PySem.W.nsIn K mainGlobals "_law_pick" = some (some (.ref f6))) (l6 : K.lookup f6 = some ⟨oc6, od6, .func (PySem.W.fnOf "_law_pick" "_law_pick" (defArgs sPick) (defBody sPick) (defScope sPick) .none kV6 dc6 pm6 an6 cd6 ct6), sl6⟩) (c6 : PySem.W.codeIn K cd6 "_law_pick" = true) (k6 : PySem.W.keepIn K (.ref f6) = true)
    (a7 : PySem.W.nsIn K mainGlobals "_law_leaf" = some (some (.ref f7))) (l7 : K.lookup f7 = some ⟨oc7, od7, .func (PySem.W.fnOf "_law_leaf" "_law_leaf" (defArgs sLeaf) (defBody sLeaf) (defScope sLeaf) .none kV7 dc7 pm7 an7 cd7 ct7), sl7⟩) (c7 : PySem.W.codeIn K cd7 "_law_leaf" = true) (k7 : PySem.W.keepIn K (.ref f7) = true)
    (a8 : PySem.W.nsIn K mainGlobals "_law_term" = some (some (.ref f8))) (l8 : K.lookup f8 = some ⟨oc8, od8, .func (PySem.W.fnOf "_law_term" "_law_term" (defArgs sTerm) (defBody sTerm) (defScope sTerm) .none kV8 dc8 pm8 an8 cd8 ct8), sl8⟩) (c8 : PySem.W.codeIn K cd8 "_law_term" = true) (k8 : PySem.W.keepIn K (.ref f8) = true)
    (a9 : PySem.W.nsIn K mainGlobals "_law_saying" = some (some (.ref f9))) (l9 : K.lookup f9 = some ⟨oc9, od9, .func (PySem.W.fnOf "_law_saying" "_law_saying" (defArgs sSaying) (defBody sSaying) (defScope sSaying) .none kV9 dc9 pm9 an9 cd9 ct9), sl9⟩) (c9 : PySem.W.codeIn K cd9 "_law_saying" = true) (k9 : PySem.W.keepIn K (.ref f9) = true)
    (a10 : PySem.W.nsIn K mainGlobals "_law_names" = some (some (.ref f10))) (l10 : K.lookup f10 = some ⟨oc10, od10, .func (PySem.W.fnOf "_law_names" "_law_names" (defArgs sLN) (defBody sLN) (defScope sLN) .none kV10 dc10 pm10 an10 cd10 ct10), sl10⟩) (c10 : PySem.W.codeIn K cd10 "_law_names" = true) (k10 : PySem.W.keepIn K (.ref f10) = true)
    (a11 : PySem.W.nsIn K mainGlobals "law" = some (some (.ref f11))) (l11 : K.lookup f11 = some ⟨oc11, od11, .func (PySem.W.fnOf "law" "law" (defArgs sLaw) (defBody sLaw) (defScope sLaw) .none kV11 dc11 pm11 an11 cd11 ct11), sl11⟩) (c11 : PySem.W.codeIn K cd11 "law" = true) (k11 : PySem.W.keepIn K (.ref f11) = true)
    (zrange : PySem.W.nsIn K mainGlobals "range" = some none)
    (zmax : PySem.W.nsIn K mainGlobals "max" = some none)
    (zmin : PySem.W.nsIn K mainGlobals "min" = some none)
    (zlen : PySem.W.nsIn K mainGlobals "len" = some none)
    (zsorted : PySem.W.nsIn K mainGlobals "sorted" = some none)
    (zset : PySem.W.nsIn K mainGlobals "set" = some none)
    (zisinstance : PySem.W.nsIn K mainGlobals "isinstance" = some none)
    (zlist : PySem.W.nsIn K mainGlobals "list" = some none)
    (zabs : PySem.W.nsIn K mainGlobals "abs" = some none)
    (aL : PySem.W.nsIn K mainGlobals "LEAVES" = some (some (.ref LV))) (oL : K.lookup LV = some ⟨.type "tuple", ddL, .seq #[.str "num" t1, .str "name" t2, .str "bound" t3] nL, slL⟩)
    (aB : PySem.W.nsIn K mainGlobals "BINDERS" = some (some (.ref BV))) (oB : K.lookup BV = some ⟨.type "tuple", ddB, .seq #[.str "all" t4, .str "some" t5] nB, slB⟩) :
    ∃ fd : FuncData, (∀ (s : Shared) (v : Value), BindsTo s fd ⟨[v], []⟩ [("script", v)]) ∧ ∀ base : Heap, K.In base → base.Ns mainGlobals mg → FnOk l.prog w K mg base CX0 13 fa fd ["script"] (spLaw K) := by
  have e := hfa.symm.trans (PySem.W.mg_of X G a11)
  cases e
  have F1 := fun_mk (st := sBeneath) l1 c1 k1
  have b1 := F1.binds (ps := ["piece", "around"]) fun _ _ _ _ _ _ us hl => match us, hl with | [_, _], _ => rfl
  have m1 := PySem.W.mg_of X G a1
  have F2 := fun_mk (st := sPieces) l2 c2 k2
  have b2 := F2.binds (ps := ["thing"]) fun _ _ _ _ _ _ us hl => match us, hl with | [_], _ => rfl
  have m2 := PySem.W.mg_of X G a2
  have F3 := fun_mk (st := sNamesIn) l3 c3 k3
  have b3 := F3.binds (ps := ["thing"]) fun _ _ _ _ _ _ us hl => match us, hl with | [_], _ => rfl
  have m3 := PySem.W.mg_of X G a3
  have F4 := fun_mk (st := sFeed) l4 c4 k4
  have b4 := F4.binds (ps := ["script", "k"]) fun _ _ _ _ _ _ us hl => match us, hl with | [_, _], _ => rfl
  have m4 := PySem.W.mg_of X G a4
  have F5 := fun_mk (st := sTake) l5 c5 k5
  have b5 := F5.binds (ps := ["feed", "many"]) fun _ _ _ _ _ _ us hl => match us, hl with | [_, _], _ => rfl
  have m5 := PySem.W.mg_of X G a5
  have F6 := fun_mk (st := sPick) l6 c6 k6
  have b6 := F6.binds (ps := ["feed", "some"]) fun _ _ _ _ _ _ us hl => match us, hl with | [_, _], _ => rfl
  have m6 := PySem.W.mg_of X G a6
  have F7 := fun_mk (st := sLeaf) l7 c7 k7
  have b7 := F7.binds (ps := ["feed", "names", "around"]) fun _ _ _ _ _ _ us hl => match us, hl with | [_, _, _], _ => rfl
  have m7 := PySem.W.mg_of X G a7
  have F8 := fun_mk (st := sTerm) l8 c8 k8
  have b8 := F8.binds (ps := ["feed", "deep", "names", "around"]) fun _ _ _ _ _ _ us hl => match us, hl with | [_, _, _, _], _ => rfl
  have m8 := PySem.W.mg_of X G a8
  have F9 := fun_mk (st := sSaying) l9 c9 k9
  have b9 := F9.binds (ps := ["feed", "deep", "names", "around"]) fun _ _ _ _ _ _ us hl => match us, hl with | [_, _, _, _], _ => rfl
  have m9 := PySem.W.mg_of X G a9
  have F10 := fun_mk (st := sLN) l10 c10 k10
  have b10 := F10.binds (ps := ["thing"]) fun _ _ _ _ _ _ us hl => match us, hl with | [_], _ => rfl
  have m10 := PySem.W.mg_of X G a10
  have F11 := fun_mk (st := sLaw) l11 c11 k11
  have m11 := PySem.W.mg_of X G a11
  have grange := PySem.W.mg_none_of X G zrange
  have gmax := PySem.W.mg_none_of X G zmax
  have gmin := PySem.W.mg_none_of X G zmin
  have glen := PySem.W.mg_none_of X G zlen
  have gsorted := PySem.W.mg_none_of X G zsorted
  have gset := PySem.W.mg_none_of X G zset
  have gisinstance := PySem.W.mg_none_of X G zisinstance
  have glist := PySem.W.mg_none_of X G zlist
  have gabs := PySem.W.mg_none_of X G zabs
  refine ⟨PySem.W.fnOf "law" "law" (defArgs sLaw) (defBody sLaw) (defScope sLaw) .none kV11 dc11 pm11 an11 cd11 ct11, fun s v => .of_eq rfl, fun base _ _ => ?_⟩
  have T : Txt K mg LV BV := ⟨PySem.W.mg_of X G aL, PySem.W.mg_of X G aB, fun H => .inr ⟨_, _, _, oL, rfl, rfl, (by show 3 ≤ sizeLine; decide), .cons ⟨_, rfl⟩ (.cons ⟨_, rfl⟩ (.cons ⟨_, rfl⟩ .nil))⟩, fun H => .inr ⟨_, _, _, oB, rfl, rfl, (by show 2 ≤ sizeLine; decide), .cons ⟨_, rfl⟩ (.cons ⟨_, rfl⟩ .nil)⟩⟩
  have gTake := ok_take (P := l.prog) (w := w) (mg := mg) (base := base) (j := 0) F5
  have D : Draw l.prog w K mg base f5 f6 _ _ := ⟨gTake, b5, k5, m5, ok_pick F6 gTake b5 k5 m5 glen, ok_pickS F6 gTake b5 k5 m5 glen, b6, k6, m6⟩
  have gLeaf := ok_leaf F7 D
  have gTerm := ok_terms F8 D gLeaf b7 k7 m7 b8 m8
  have gSay := ok_sayings F9 D (gTerm 3) b8 k8 m8 b9 m9
  have gBen := ok_beneath (P := l.prog) (w := w) (base := base) (j := 0) F1 T
  have gPie := ok_pieces F2 T gBen b1 k1 m1
  have gNam := ok_names F3 gPie b2 k2 m2 gset gsorted
  have gLN := ok_LNs (P := l.prog) (w := w) (base := base) F10 b10 m10 12
  have gFeed := ok_feed (P := l.prog) (w := w) (base := base) (j := 0) F4 glen gabs
  exact ok_law F11 ⟨D, gFeed, b4, k4, m4, gTerm 5, b8, k8, m8, gSay 5, b9, k9, m9, gLN, b10, k10, m10, gNam, b3, k3, m3, grange, gmax, gmin, glen, gsorted, gset, gisinstance, glist⟩
theorem walk {l : PySem.W.OpenLaw} {q : Program} {loose : List Str} {XP : (Str → Option Value) → Heap → Prop} {YP : World → Heap → Prop} {d : DefRec} {K : Params → PySem.W.Frag} (hn : l.most = some 63) (hdf : d.params.defaults = [])
    (hY : ∀ (w : World) (h : Heap), YP w h → (K w.params).In h)
    (F : ∀ (w : World) (mg : Str → Option Value) (fa : Addr) (h : Heap), (K w.params).In h → h.Ns mainGlobals mg → mg d.name = some (.ref fa) →
      ∃ fd : FuncData, (∀ (s : Shared) (u : Value), BindsTo s fd ⟨[u], []⟩ [("script", u)]) ∧ ∀ base : Heap, (K w.params).In base → base.Ns mainGlobals mg → FnOk l.prog w (K w.params) mg base CX0 13 fa fd ["script"] (spLaw (K w.params))) :
    PySem.W.WalkO q loose XP YP l.row.toRowW d [] (fun f vs => PySem.call f vs) :=
  L2.walk_ofB (n := 63) (k := 13) (x := "script") (CX := fun _ => CX0) (sp := fun w => spLaw (K w.params)) hn (by decide) hdf ⟨rfl, by decide, by decide⟩ hY F (fun _ _ a ns hl hb _ hS => ⟨a, ns, rfl, hS, hl, hb, fun _ => rfl⟩) fun _ _ _ _ _ z => z
end Kf
open PySem PySem.W PyProof.Rows in
set_option maxRecDepth 100000 in
set_option maxHeartbeats 0 in
theorem PySem.Challenge.cw_prooffruit_k05_names_that_stand_there_holds : PySem.Challenge.rw_prooffruit_k05_names_that_stand_there.Holds := by
  w_on; o_law; k_head; (case hw => w_witness2)
  k_fill
  refine Kf.walk (l := PySem.Challenge.rw_prooffruit_k05_names_that_stand_there) rfl rfl (fun w h Y => PySem.W.kIn_of Y) ?F
  case F =>
    intro w mg fa h KX G hmg
    refine' Kf.all_mk KX G hmg ?a1 ?l1 ?c1 ?k1 ?a2 ?l2 ?c2 ?k2 ?a3 ?l3 ?c3 ?k3 ?a4 ?l4 ?c4 ?k4 ?a5 ?l5 ?c5 ?k5 ?a6 ?l6 ?c6 ?k6 ?a7 ?l7 ?c7 ?k7 ?a8 ?l8 ?c8 ?k8 ?a9 ?l9 ?c9 ?k9 ?a10 ?l10 ?c10 ?k10 ?a11 ?l11 ?c11 ?k11 ?zrange ?zmax ?zmin ?zlen ?zsorted ?zset ?zisinstance ?zlist ?zabs ?aL ?oL ?aB ?oB
    (case a1 => k_is)
    (case l1 => k_is)
    (case c1 => k_is)
    (case k1 => k_is)
    (case a2 => k_is)
    (case l2 => k_is)
    (case c2 => k_is)
    (case k2 => k_is)
    (case a3 => k_is)
    (case l3 => k_is)
    (case c3 => k_is)
    (case k3 => k_is)
    (case a4 => k_is)
    (case l4 => k_is)
    (case c4 => k_is)
    (case k4 => k_is)
    (case a5 => k_is)
    (case l5 => k_is)
    (case c5 => k_is)
    (case k5 => k_is)
    (case a6 => k_is)
    (case l6 => k_is)
    (case c6 => k_is)
    (case k6 => k_is)
    (case a7 => k_is)
    (case l7 => k_is)
    (case c7 => k_is)
    (case k7 => k_is)
    (case a8 => k_is)
    (case l8 => k_is)
    (case c8 => k_is)
    (case k8 => k_is)
    (case a9 => k_is)
    (case l9 => k_is)
    (case c9 => k_is)
    (case k9 => k_is)
    (case a10 => k_is)
    (case l10 => k_is)
    (case c10 => k_is)
    (case k10 => k_is)
    (case a11 => k_is)
    (case l11 => k_is)
    (case c11 => k_is)
    (case k11 => k_is)
    (case zrange => k_is)
    (case zmax => k_is)
    (case zmin => k_is)
    (case zlen => k_is)
    (case zsorted => k_is)
    (case zset => k_is)
    (case zisinstance => k_is)
    (case zlist => k_is)
    (case zabs => k_is)
    (case aL => k_is)
    (case oL => k_is)
    (case aB => k_is)
    (case oB => k_is)
