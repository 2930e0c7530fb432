import PyProof.Rows.All
import Wide.All
import OpenK.AllK
import Wide.FinOn
import HandS.ForMost
import HandS.SetKeys
import HandS.SetFor
import HandS.Strs
import HandS.More
import HandS.Wide
import HandS.IsInst
import HandS.TupAny
import HandS.EndBits
import HandS.WideBits
import HandS.AnyAll
import HandS.Zip
import HandS.EndOwn
import PySem.Challenge.RW_prooffruit_k03_how_great
set_option Elab.async false
set_option linter.all false
set_option maxRecDepth 100000
set_option maxHeartbeats 4000000
/-! Sets of texts, whatever the world's order of them is: set(), set(a list), add, sorted. -/
namespace Sx
open PySem PySem.Spec PyProof.Rows L2
/-- the text of an entry -/
def tx (e : Int × Value) : Str := match e.2 with
  | .str k _ => k
  | _ => Str.empty
def Ent (w : World) (e : Int × Value) : Prop := ∃ k tk, e = (hashStr w k, Value.str k tk)
/-- one text more -/
def ins (k : Str) (ks : List Str) : List Str := if k ∈ ks then ks else k :: ks
theorem ins_mem {k j : Str} {ks : List Str} : j ∈ ins k ks ↔ j = k ∨ j ∈ ks := by
  unfold ins
  split
  · rename_i h
    exact ⟨.inr, fun q => q.elim (fun e => e ▸ h) (fun q => q)⟩
  · exact List.mem_cons
theorem ins_nodup {k : Str} {ks : List Str} (h : ks.Nodup) : (ins k ks).Nodup := by
  unfold ins
  split
  · exact h
  · rename_i q
    exact List.nodup_cons.mpr ⟨q, h⟩
theorem ins_len {k : Str} {ks : List Str} : (ins k ks).length ≤ ks.length + 1 := by
  unfold ins
  split
  · omega
  · exact Nat.le_refl _
/-- the set's table: its rows are the texts ks, it can be walked -/
structure Rows (w : World) (es : Array (Int × Value)) (t : SetTable) (ks : List Str) : Prop where
  ent : ∀ e ∈ es.toList, Ent w e
  perm : (es.toList.map tx).Perm ks
  nd : ks.Nodup
  few : es.size < scanBound
  fit : t.fits es.size = true
  ris : Ris t.place.toList
  led : w.params.followText "set-order" = true ∨ t.led = true
def SetS (w : World) (h : Heap) (a : Addr) (ks : List Str) : Prop := ∃ o es ep t, h.get? a = some o ∧ o.ExactSet ∧ o.data = .set es ep t ∧ Rows w es t ks
section
variable {P : Program} {w : World} {h h' : Heap} {a : Addr} {ks : List Str} {es : Array (Int × Value)} {t : SetTable}
theorem SetS.stay (R : SetS w h a ks) (k : ∀ o, h.get? a = some o → h'.get? a = some o) : SetS w h' a ks := by
  obtain ⟨o, es, ep, t, ho, z⟩ := R
  exact ⟨o, es, ep, t, k o ho, z⟩
theorem Rows.size (r : Rows w es t ks) : es.size = ks.length := by
  have q := r.perm.length_eq
  rw [List.length_map, Array.length_toList] at q
  exact q
theorem ent_is {e : Int × Value} (g : Ent w e) (k : Str) : (PySem.strKind P w).is k e.2 = true ↔ tx e = k := by
  obtain ⟨j, tk, rfl⟩ := g
  show (j == k) = true ↔ j = k
  exact beq_iff_eq
theorem Rows.elems (r : Rows w es t ks) : ElemsOf (PySem.strKind P w) es.toList := by
  intro e he
  obtain ⟨k, tk, rfl⟩ := r.ent e he
  exact ⟨⟨k, strKind_is P w k tk, rfl⟩, rfl⟩
theorem Rows.mem (r : Rows w es t ks) (k : Str) : k ∈ ks ↔ ∃ e ∈ es.toList, (PySem.strKind P w).is k e.2 = true := by
  rw [← r.perm.mem_iff, List.mem_map]
  exact ⟨fun ⟨e, he, q⟩ => ⟨e, he, (ent_is (r.ent e he) k).2 q⟩, fun ⟨e, he, q⟩ => ⟨e, he, (ent_is (r.ent e he) k).1 q⟩⟩
theorem SetS.of (R : SetS w h a ks) : h.SetOf (PySem.strKind P w) a (fun k => decide (k ∈ ks)) ks.length := by
  obtain ⟨o, es, ep, t, ho, hx, hd, r⟩ := R
  exact ⟨o, es, ep, t, ho, hx, hd, r.elems, fun k => by rw [decide_eq_true_iff]; exact r.mem k, r.few, r.fit, r.size⟩
theorem rows_new (w : World) : Rows w #[] (.fresh 0 0 (!w.params.followText "set-order")) [] where
  ent := fun e he => by simp at he
  perm := List.Perm.refl _
  nd := List.nodup_nil
  few := by decide
  fit := rfl
  ris := List.Pairwise.nil
  led := by
    show _ ∨ (!w.params.followText "set-order") = true
    cases w.params.followText "set-order" with
    | true => exact .inl rfl
    | false => exact .inr rfl
end
section
variable {P : Program} {w : World} {A : Around} {E : Value → Shared → Prop} {s : Shared} {a : Addr} {ks : List Str}
/-- the table is stored, and laid anew where it is too full -/
theorem stored {gave : Bool → Sem Unit} (hg : ∀ (b : Bool) (z : Shared) (Y : Unit → Shared → Prop), Y () z → wpAny (model P w) A (gave b) Y E z)
    {o : Obj} {es0 es : Array (Int × Value)} {ep : Nat} {t0 t : SetTable} (ho : s.heap.get? a = some o) (hx : o.ExactSet) (hd : o.data = .set es0 ep t0) (r : Rows w es t ks) {dummy : Bool} {Z : Option Bool → Shared → Prop}
    (hZ : ∀ h', Heap.SameBut a s.heap h' → SetS w h' a ks → Z (some true) { s with heap := h' }) :
    wpAny (model P w) A (do
        storeSet a es t
        if (!dummy && t.tooFull) = true then do
            gave (relayAll t es (SetTable.grown es.size)).2.2
            storeSet a (relayAll t es (SetTable.grown es.size)).1 (relayAll t es (SetTable.grown es.size)).2.1
            pure (some true)
          else pure (some true)) Z E s := by
  have first := Heap.SameBut.update s.heap a (Obj.putSet es t)
  have o1 := store_at (es' := es) (t' := t) ho hd
  refine wpAny_bind (wpAny_storeSet_of ho hd ?_ (fits_of_scanBound r.few))
  by_cases full : (!dummy && t.tooFull) = true
  · rw [if_pos full]
    have r2 : Rows w (relayAll t es (SetTable.grown es.size)).1 (relayAll t es (SetTable.grown es.size)).2.1 ks := by
      have pm := relayAll_perm t es (SetTable.grown es.size)
      have sz : (relayAll t es (SetTable.grown es.size)).1.size = es.size := by
        have q := pm.length_eq
        rw [Array.length_toList, Array.length_toList] at q
        exact q
      exact ⟨fun e he => r.ent e (pm.mem_iff.mp he), (pm.map tx).trans r.perm, r.nd, Nat.lt_of_le_of_lt (Nat.le_of_eq sz) r.few, relayAll_fits _ _ _, relayAll_ris _ _ _, r.led.imp (fun z => z) fun z => (relayAll_led _ _ _).trans z⟩
    refine wpAny_bind (hg _ _ _ (wpAny_bind (wpAny_storeSet_of o1 rfl ?_ (fits_of_scanBound r2.few))))
    exact wpAny_pure (hZ _ (first.trans (Heap.SameBut.update _ a _)) ⟨_, _, _, _, store_at o1 rfl, hx, rfl, r2⟩)
  · rw [if_neg full]
    exact wpAny_pure (hZ _ first ⟨_, _, _, _, o1, hx, rfl, r⟩)
theorem plain_off {w : World} {es : Array (Int × Value)} {t : SetTable} {ks : List Str} (r : Rows w es t ks) : Rows w es { t with plain := false } ks :=
  ⟨r.ent, r.perm, r.nd, r.few, SetTable.fits_plain_off r.fit, r.ris, r.led⟩
/-- a text whose hash is known is added -/
theorem add_at {k : Str} {tk : Tok} {Z : Bool → Shared → Prop} (R : SetS w s.heap a ks) (room : ks.length + 1 < scanBound)
    (hZ : ∀ b h', Heap.SameBut a s.heap h' → SetS w h' a (ins k ks) → Z b { s with heap := h' }) : wpAny (model P w) A (setAddHashed a (.str k tk) (hashStr w k)) Z E s := by
  obtain ⟨o, es, ep, t, ho, hx, hd, r⟩ := R
  have hel : ElemsOf (PySem.strKind P w) es.toList := r.elems
  have hscan : byScan (Value.str k tk) es = true := byScan_of rfl r.few hel
  unfold setAddHashed setAddHashedIn
  refine wpAny_holding (wpAny_bind (wpAny_setState_of ho hd r.fit ?_))
  dsimp only
  rw [hscan]
  simp only [↓reduceIte]
  unfold setAddByScan
  refine wpAny_bind (wpAny_bind (wpAny_rule (wpAny_bind (wpAny_setScan_of (knd := PySem.strKind P w) (k := k) (strKind_is P w k tk) ho hd r.fit hel ?_))))
  cases found : List.findIdx? (fun e => (PySem.strKind P w).is k e.2) es.toList with
  | some j =>
    obtain ⟨lt, hit, _⟩ := List.findIdx?_eq_some_iff_getElem.mp found
    have there : k ∈ ks := (r.mem (P := P) k).2 ⟨_, List.getElem_mem lt, hit⟩
    refine wpAny_pure (wpAny_pure (hZ _ s.heap (Heap.SameBut.refl a s.heap) ⟨o, es, ep, t, ho, hx, hd, ?_⟩))
    unfold ins
    rw [if_pos there]
    exact r
  | none =>
    have away : k ∉ ks := fun z => by
      obtain ⟨e, he, hit⟩ := (r.mem (P := P) k).1 z
      have no := List.findIdx?_eq_none_iff.mp found e he
      rw [hit] at no
      cases no
    have pm0 := layNew_perm t es (hashStr w k) (.str k tk)
    rw [Array.toList_push] at pm0
    have pm := pm0.trans (List.perm_append_singleton (hashStr w k, Value.str k tk) es.toList)
    have r1 : Rows w (layNew t es (hashStr w k) (.str k tk)).1 (layNew t es (hashStr w k) (.str k tk)).2.1 (ins k ks) := by
      have sz : (layNew t es (hashStr w k) (.str k tk)).1.size = ks.length + 1 := by
        have q := pm.length_eq
        rw [Array.length_toList, List.length_cons, Array.length_toList, r.size] at q
        exact q
      refine ⟨fun e he => ?_, ?_, ins_nodup r.nd, Nat.lt_of_le_of_lt (Nat.le_of_eq sz) room, layNew_fits _ _ _ _, layNew_ris _ _ _ _ r.ris, r.led.imp (fun z => z) fun z => (layNew_led _ _ _ _).trans z⟩
      · rcases List.mem_cons.mp (pm.mem_iff.mp he) with z | z
        · exact ⟨k, tk, z⟩
        · exact r.ent e z
      · unfold ins
        rw [if_neg away]
        exact (pm.map tx).trans (List.Perm.cons k r.perm)
    have gw : ∀ (b : Bool) (z : Shared) (Y : Unit → Shared → Prop), Y () z → wpAny (model P w) A (match b with | true => rule "set.scan.the-table-gave-way" | false => pure ()) Y E z := by
      intro b z Y q
      cases b with
      | true => exact wpAny_rule q
      | false => exact wpAny_pure q
    have goal2 : ∀ h', Heap.SameBut a s.heap h' → SetS w h' a (ins k ks) → Z true { s with heap := h' } := fun h' sb r' => hZ true h' sb r'
    dsimp only
    change wpAny _ _ _ _ _ _
    generalize layNew t es (hashStr w k) (.str k tk) = L at r1 ⊢
    obtain ⟨es1, t1, dummy, gave⟩ := L
    dsimp only at r1 ⊢
    refine wpAny_bind (gw _ _ _ ?_)
    by_cases pl : t1.plain = true
    · rw [if_pos pl]
      refine wpAny_bind ?_
      rw [hashByValue_scannable 8 (show (Value.str k tk).scannable = true from rfl)]
      refine wpAny_pure ?_
      refine stored gw ho hx hd (ks := ins k ks) ?_ fun h' sb r' => wpAny_pure (goal2 h' sb r')
      split
      · exact r1
      · exact plain_off r1
    · rw [if_neg pl]
      refine wpAny_bind (wpAny_pure ?_)
      simp only [↓reduceIte]
      exact stored gw ho hx hd (ks := ins k ks) r1 fun h' sb r' => wpAny_pure (goal2 h' sb r')
end
/-- the texts of the first i are put in, one by one -/
def insAll (ks : List Str) : List Str → List Str
  | [] => ks
  | x :: r => insAll (ins x ks) r
theorem insAll_mem {j : Str} : ∀ (xs ks : List Str), j ∈ insAll ks xs ↔ j ∈ xs ∨ j ∈ ks
  | [], ks => by simp [insAll]
  | x :: r, ks => by
    rw [insAll, insAll_mem r, ins_mem, List.mem_cons]
    constructor
    · rintro (h | h | h)
      · exact .inl (.inr h)
      · exact .inl (.inl h)
      · exact .inr h
    · rintro ((h | h) | h)
      · exact .inr (.inl h)
      · exact .inl h
      · exact .inr (.inr h)
theorem insAll_len : ∀ (xs ks : List Str), (insAll ks xs).length ≤ ks.length + xs.length
  | [], ks => Nat.le_refl _
  | x :: r, ks => by
    have h1 := insAll_len r (ins x ks)
    have h2 := ins_len (k := x) (ks := ks)
    rw [insAll, List.length_cons]
    omega
section
variable {P : Program} {w : World} {A : Around} {E : Value → Shared → Prop} {s : Shared}
/-- set.update's own loop over a walk that yields texts -/
theorem feed_loop {I : Addr} {fp wr : List Addr} {G : Array GenState → Array GenState → Prop} {n : Nat} {Y : Nat → Value → Prop} {St : Nat → Shared → Prop} {Z : Result → Shared → Prop}
    (W : WalksS P w A.in1 I fp wr G n Y St) (S : Addr) (out : S ∉ fp) (texts : List Str) (hn : texts.length = n) (hb : n + 1 < scanBound) (hY : ∀ i v, Y i v → ∃ k tk, texts[i]? = some k ∧ v = .str k tk) :
    ∀ (left : Nat) (i : Nat) (ks : List Str) (s : Shared), i + left = n → St i s → SetS w s.heap S ks → ks.length ≤ i →
      (∀ s', Moved (S :: wr) G s s' → SetS w s'.heap S (insAll ks (texts.drop i)) → Z (.ok (.ret .none)) s') → codeAny (model P w) A (.builtin "set.update.loop" ⟨[.ref S, .ref I], []⟩) Z s := by
  have quietS : S ∉ wr := fun z => out (W.sub _ z)
  have more : ∀ b ∈ wr, b ∈ S :: wr := fun b hb => List.mem_cons_of_mem _ hb
  intro left
  induction left with
  | zero =>
    intro i ks s hi hst hS _ hZ
    have e0 : texts.drop i = [] := List.drop_eq_nil_of_le (by omega)
    rw [e0] at hZ
    have e1 : i = n := by omega
    rw [e1] at hst
    refine codeAny_builtin F.entry_set_update_loop ?_
    rw [Around.under_plainId F.plain_set_update_loop _]
    show wpAny _ A.in1 (pyNext (.ref I) >>= _) _ _ s
    refine wpAny_bind (W.done s _ _ hst fun s' mv => wpAny_pure (hZ s' (mv.mono more) (hS.stay fun o e => mv.heap S o quietS e)))
  | succ left ih =>
    intro i ks s hi hst hS hk hZ
    have lt : i < n := by omega
    refine codeAny_builtin F.entry_set_update_loop ?_
    rw [Around.under_plainId F.plain_set_update_loop _]
    show wpAny _ A.in1 (pyNext (.ref I) >>= _) _ _ s
    refine wpAny_bind (W.item i s _ _ lt hst fun v s1 hv hst1 mv => ?_)
    obtain ⟨k, tk, hk1, rfl⟩ := hY i v hv
    have hS1 : SetS w s1.heap S ks := hS.stay fun o e => mv.heap S o quietS e
    have ed : texts.drop i = k :: texts.drop (i + 1) := by
      obtain ⟨lt2, e2⟩ := List.getElem?_eq_some_iff.mp hk1
      rw [← e2]
      exact List.drop_eq_getElem_cons lt2
    rw [ed] at hZ
    show wpAny _ A.in1 (holding [Value.str k tk] (setAdd S (.str k tk)) >>= _) _ _ s1
    unfold setAdd
    refine wpAny_bind (wpAny_holding (wpAny_holding (wpAny_bind ((PySem.strKind P w).pyHash (k := k) (strKind_is P w k tk) ?_))))
    refine add_at (s := { s1 with toks := s1.toks + 1 }) hS1 (by omega) fun b h' sb hS2 => ?_
    refine wpAny_pure ⟨plainId_quiet F.plain_set_update_loop _, ih (i + 1) (ins k ks) _ (by omega) (W.frame _ s1 _ _ hst1 (Nat.le_succ _) fun c hc o e => ?_) hS2 ?_ fun s2 mv2 hS3 => ?_⟩
    · have away : c ≠ S := fun z => out (z ▸ hc)
      rw [sb.2 c away]
      exact e
    · have := ins_len (k := k) (ks := ks)
      omega
    · refine hZ s2 (Moved.trans W.gtrans ((mv.mono more).then_heap (Nat.le_succ _) fun c o hc e => ?_) mv2) hS3
      have away : c ≠ S := fun z => hc (z ▸ List.mem_cons_self)
      rw [sb.2 c away]
      exact e
/-- the empty set, as it is made -/
abbrev bare (w : World) : Obj := { cls := .type "set", dict := none, data := .set #[] 0 (.fresh 0 0 (!w.params.followText "set-order")) }
theorem bare_holds {h : Heap} {a : Addr} (ho : h.get? a = some (bare w)) : SetS w h a [] := ⟨_, _, _, _, ho, ⟨rfl, rfl, rfl⟩, rfl, rows_new w⟩
set_option maxHeartbeats 8000000 in
theorem set_of_list {l : Addr} {items : Array Value} (texts : List Str) {Z : Value → Shared → Prop} (hh : A.handled = none) (hl : s.heap.IsList l items) (ht : StrsAre items.toList texts) (hb : texts.length + 1 < scanBound)
    (hZ : ∀ (h' : Heap) (tk : Nat), SetS w h' s.heap.objs.size (insAll [] texts) → (∀ b o, s.heap.get? b = some o → h'.get? b = some o) → Z (.ref s.heap.objs.size) { s with heap := h', toks := tk }) :
    wpAny (model P w) A (call (.type "set") [.ref l]) Z E s := by
  have count : texts.length = items.size := by
    have q := StrsAre.len_eq ht
    rw [Array.length_toList] at q
    exact q.symm
  obtain ⟨c, tl, hmro⟩ := F.called_set.mro
  have made := F.called_set.made
  have sub := F.called_set.sub
  have noType := F.called_set.notType
  have can := F.called_set.canCreate
  have tcall := F.typeCall_set_1 (.ref l)
  refine wpAny_call (codeAny_of_tree ?_)
  show wpAny _ _ (callAny (.type "set") _) _ _ _
  refine wpAny_pure ⟨Code.quiet_builtin _ (by decide +kernel), codeAny_builtin F.entry_type_call ?_⟩
  rw [Around.under_plain (weight_type_call_type "set" [.ref l] []) rfl]
  repeat (any_goals (first | assumption | wp_step))
  refine codeAny_mono (code_set_led1 (.ref l) (E := E) (Q₁ := fun v z => v = .ref s.heap.objs.size ∧ z = { s with heap := s.heap.push (bare w) }) ⟨rfl, rfl⟩) fun r z hr => ?_
  match r, hr with
  | .error _, hr => exact hr
  | .ok .next, hr => exact hr.elim
  | .ok .brk, hr => exact hr.elim
  | .ok .cont, hr => exact hr.elim
  | .ok (.ret _), hr =>
    obtain ⟨rfl, rfl⟩ := hr
    have hS : (s.heap.push (bare w)).get? s.heap.objs.size = some (bare w) := Heap.get?_push_size _ rfl
    have isSet : Shared.TypeIs { s with heap := s.heap.push (bare w) } (.ref s.heap.objs.size) "set" := ⟨_, hS, rfl⟩
    have initL := F.called_set.init.lookup
    have initB := F.called_set.init.bind (.ref s.heap.objs.size)
    repeat (any_goals (first | assumption | wp_step))
    refine codeAny_mono (codeAny_call_builtin (R := wants (fun v z => v = .none ∧ ∃ h' tk, z = { s with heap := h', toks := tk } ∧ SetS w h' s.heap.objs.size (insAll [] texts) ∧ ∀ b o, s.heap.get? b = some o → h'.get? b = some o) E)
      F.called_set.init.plain F.entry_set_init (check_set_init_1 isSet ?_)) fun r z hr => ?_
    · have hl1 : (s.heap.push (bare w)).IsList l items := hl.push _
      obtain ⟨⟨_, dd, _, sl⟩, hol, rfl, nl, rfl⟩ := id hl
      have hol1 : (s.heap.push (bare w)).get? l = some ⟨.type "list", dd, .seq items nl, sl⟩ := Heap.get?_push_of_some _ hol
      have sub1 := F.sub_list_set
      have sub2 := F.sub_list_frozenset
      have unlike : (Value.type "list" == Value.type "dict") = false := by decide
      unfold Builtin.«set.__init__» noKeywords Builtin.Frozenset.updateFrom
      generalize hPI : pyIter = PI
      wp_walk
      subst hPI
      refine wpAny_pyIter_list hl1 (wpAny_bind (wpAny_runValue ?_))
      have old : l < s.heap.objs.size := Heap.lt_size hol
      have sz1 : (s.heap.push (bare w)).objs.size = s.heap.objs.size + 1 := Heap.size_push ..
      have apart : l ≠ (s.heap.push (bare w)).objs.size := by
        rw [sz1]
        exact Nat.ne_of_lt (Nat.lt_succ_of_lt old)
      have out : s.heap.objs.size ∉ [(s.heap.push (bare w)).objs.size, l] := by
        intro z
        rcases List.mem_cons.mp z with z | z
        · rw [sz1] at z
          omega
        · exact absurd old (by rw [← List.mem_singleton.mp z]; exact Nat.lt_irrefl _)
      have texty : ∀ (i : Nat) (v : Value), items[i]? = some v → ∃ k tk, texts[i]? = some k ∧ v = .str k tk := fun i v hv => by
        have hi : i < texts.length := by
          rw [count]
          exact (Array.getElem?_eq_some_iff.mp hv).1
        obtain ⟨tk, e⟩ := SS.strs_at ht i v (by rw [Array.getElem?_toList]; exact hv)
        refine ⟨texts[i], tk, List.getElem?_eq_getElem hi, ?_⟩
        rw [e, List.getD_eq_getElem?_getD, List.getElem?_eq_getElem hi]
        rfl
      have hh3 : A.in1.in1.in1.handled = none := by simp [hh]
      refine feed_loop ((Walks.list hh3 _ l apart items).toS) s.heap.objs.size out texts count (by rw [← count]; exact hb) texty items.size 0 [] _ (Nat.zero_add _) ⟨⟨_, Heap.get?_push_size _ rfl, rfl, rfl⟩, hl1.push _⟩
        (bare_holds (Heap.get?_push_of_some _ hS)) (Nat.le_refl _) fun s' mv hS' => ?_
      obtain ⟨h', g', d', tk', os'⟩ := s'
      have eg : g' = s.gens := mv.gens
      have ed : d' = s.drawn := mv.drawn
      have eo : os' = s.os := mv.os
      subst eg ed eo
      show wpAny _ _ _ _ _ _
      refine wpAny_pure ?_
      show wpAny _ _ (ret Value.none) _ _ _
      refine wpAny_pure ⟨rfl, h', tk', rfl, hS', fun b o e => ?_⟩
      have lt := Heap.lt_size e
      refine mv.heap b o (fun z => ?_) (Heap.get?_push_of_some _ (Heap.get?_push_of_some _ e))
      rcases List.mem_cons.mp z with z | z
      · rw [z] at lt
        exact Nat.lt_irrefl _ lt
      · have z2 := List.mem_singleton.mp z
        have lt2 : b < (s.heap.push (bare w)).objs.size := by
          rw [sz1]
          exact Nat.lt_succ_of_lt lt
        rw [z2] at lt2
        exact Nat.lt_irrefl _ lt2
    · match r, hr with
      | .error _, hr => exact hr
      | .ok .next, hr => exact hr.elim
      | .ok .brk, hr => exact hr.elim
      | .ok .cont, hr => exact hr.elim
      | .ok (.ret _), hr =>
        obtain ⟨rfl, h', tk, rfl, hS', keep⟩ := hr
        repeat (any_goals (first | assumption | wp_step))
        exact hZ _ _ hS' keep
/-- the texts of values that are texts -/
theorem texts_of : ∀ (vs : List Value), (∀ v ∈ vs, ∃ k tk, v = Value.str k tk) → ∃ ks, StrsAre vs ks ∧ ks = vs.map fun v => tx (0, v)
  | [], _ => ⟨[], .nil, rfl⟩
  | v :: vs, h => by
    obtain ⟨k, tk, rfl⟩ := h v List.mem_cons_self
    obtain ⟨ks, h1, h2⟩ := texts_of vs fun u hu => h u (List.mem_cons_of_mem _ hu)
    exact ⟨k :: ks, .cons k tk h1, by rw [h2]; rfl⟩
theorem sorted_of_set {a : Addr} {ks : List Str} {Z : Value → Shared → Prop} (R : SetS w s.heap a ks) (hh : A.handled = none) (few : ks.length < 64)
    (hZ : ∀ s' p (out : Array Value) (c : Nat) (ys : List Str), (∀ b o, s.heap.get? b = some o → s'.heap.get? b = some o) → s'.gens = s.gens → s'.os = s.os → s.heap.objs.size ≤ p →
      s'.heap.get? p = some (seqObj "list" out c) → StrsAre out.toList ys → ys.Perm ks → sortedS ys = true → Z (.ref p) s') :
    wpAny (model P w) A (call (.builtin "sorted") [.ref a]) Z E s := by
  obtain ⟨o, es, ep, t, ho, hx, hd, r⟩ := R
  refine Calls.call_function_entry kind_sorted plain_sorted entry_sorted (args_sorted1 _) ?_
  unfold Builtin.«sorted»
  refine wpAny_bind (m := checkCount "sorted" 1 1 _) (wpAny_pure ?_)
  refine wpAny_bind (collect_set (A := A.in1) hh ⟨o, ho, hx.1, hd⟩ r.fit r.few r.ris r.led fun s1 vs keep more g1 o1 pm => ?_)
  obtain ⟨texts, isT, eT⟩ := texts_of vs fun v hv => by
    obtain ⟨e, he, q⟩ := List.mem_map.mp (pm.mem_iff.mp hv)
    obtain ⟨k, tk, ee⟩ := r.ent e he
    exact ⟨k, tk, by rw [← q, ee]⟩
  have pT : texts.Perm ks := by
    refine List.Perm.trans ?_ r.perm
    rw [eT]
    have q := pm.map fun v => tx (0, v)
    rw [List.map_map] at q
    exact q
  have len : vs.length = ks.length := by
    rw [StrsAre.len_eq isT]
    exact pT.length_eq
  have line : vs.length ≤ sizeLine := by
    rw [len, sizeLine_eq]
    omega
  have hL : (s1.heap.push (seqObj "list" vs.toArray 0)).get? s1.heap.objs.size = some (seqObj "list" vs.toArray 0) := Heap.get?_push_size _ rfl
  refine wpAny_bind (wpAny_newList ?_ line)
  refine wpAny_bind (wpAny_holding (wpAny_call_entry slot_list_sort ⟨_, hL, rfl⟩ entry_list_sort (list_sort_treeK strKind_oneLt hL isT.keysOf (fun v₁ v₂ rest e => keyKind_strs (by rw [← e]; exact isT)) (by rw [len]; exact few) fun st hp hs => ?_) (args_list_sort _)))
  obtain ⟨ys, y1, y2, y3⟩ := sorted_out_str isT hp hs
  obtain ⟨c, hc⟩ := sortedHeap_at (vs := vs) (out := (arrOf st).map (·.2)) hL
  refine ⟨_, rfl, wpAny_pure ⟨_, rfl, hZ _ s1.heap.objs.size _ c ys (fun b u e => ?_) g1 o1 more hc y1 (y2.trans pT) y3⟩⟩
  have q := keep b u e
  have lt := Heap.lt_size q
  show (sortedHeap (s1.heap.push (seqObj "list" vs.toArray 0)) s1.heap.objs.size vs _).get? b = some u
  rw [sortedHeap_old (Nat.ne_of_lt lt) (by rw [Heap.size_push]; exact Nat.lt_succ_of_lt lt)]
  exact Heap.get?_push_of_some _ q
end
end Sx
set_option Elab.async false
set_option linter.all false
set_option maxRecDepth 100000
set_option maxHeartbeats 4000000
/-! The rules over sets of texts. -/
namespace Sx
open PySem PySem.Spec PyProof.Rows L2
/-- a set of the texts ks stands at a -/
def SetX (w : World) (a : Addr) (ks : List Str) : HO := .ext fun h => SetS w h a ks
section
variable {X : Cx}
theorem setX_new {w : World} {P : Program} {H : Hp} {h : Heap} {a : Addr} {ks : List Str} (R : SetS w h a ks) : ObjOk P w H h a (SetX w a ks) := by
  have ⟨o, _, _, _, ho, _⟩ := R
  exact ⟨R, ⟨o, ho⟩, fun _ _ r k => SetS.stay r k⟩
theorem setX_get {pins : List (Addr × Obj)} {σ : L2.St} {H : Hp} {s : Shared} {a : Addr} {ks : List Str} (I : Inv X pins σ H s) (e : H a = some (SetX X.w a ks)) : SetS X.w s.heap a ks := (I.hok a _ e).1
/-- set() -/
def rNewX (w : World) : List V → Hp → VK → Prop := fun xs H Q => xs = [] ∧ ∀ p, H p = none → Q (.ref p) (upd H p (SetX w p []))
theorem cr_newX : CallR X (.type "set") (rNewX X.w) := by
  intro pins s σ H xs us Q I r ⟨e, q⟩
  subst e
  cases r
  refine setR_new fun _ => ⟨.ref _, upd H s.heap.objs.size (SetX X.w s.heap.objs.size []), ?_, rfl, q _ (I.hok.fresh (Nat.le_refl _))⟩
  exact I.laid (t' := s.toks) (fun b u e => Heap.get?_push_of_some _ e) (Nat.le_refl _) (setX_new (bare_holds (Heap.get?_push_size _ rfl)))
/-- set(a list of texts) -/
def rOfX (K : PySem.W.Frag) (w : World) : List V → Hp → VK → Prop := fun xs H Q => ∃ (l : Addr) (texts : List Str), xs = [.ref l] ∧ SqL K H l (texts.map V.str) ∧ texts.length + 1 < scanBound ∧
  ∀ p, H p = none → Q (.ref p) (upd H p (SetX w p (insAll [] texts)))
theorem cr_ofX (hc : X.calm = true) : CallR X (.type "set") (rOfX X.K X.w) := by
  intro pins s σ H xs us Q I r ⟨l, texts, e, hq, few, q⟩
  subst e
  rw [Vals.ref1 r]
  obtain ⟨its, rv, pl, _⟩ := I.list hq
  refine set_of_list texts (I.ok.hd hc) pl.isList (by simpa using strsAre_of rv) few fun h' tk hS keep => ?_
  exact ⟨.ref _, upd H s.heap.objs.size (SetX X.w s.heap.objs.size (insAll [] texts)), I.laid (t' := tk) keep (Nat.le_refl _) (setX_new hS), rfl, q _ (I.hok.fresh (Nat.le_refl _))⟩
/-- found.add(text) -/
def rAddX (w : World) : V → List V → Hp → VK → Prop := fun x xs H Q => ∃ (a : Addr) (k : Str) (ks : List Str), x = V.ref a ∧ xs = [V.str k] ∧ H a = some (SetX w a ks) ∧ ks.length + 1 < scanBound ∧ Q .non (upd H a (SetX w a (ins k ks)))
theorem mt_addX : MtR X "set.add" (rAddX X.w) := by
  intro pins s σ H x xs v us Q I rx rxs ⟨a, k, ks, e1, e2, ha, room, q⟩
  subst e1 e2
  cases rx
  obtain ⟨u, rfl, tk, rfl⟩ := vals1 rxs
  have R := setX_get I ha
  refine wpAny_call_entry F.slot_set_add (R.of (P := X.prog)).typeIs F.entry_set_add ?_ (F.args_set_add_2 _ _)
  unfold Builtin.«set.add» Builtin.Frozenset.oneOther
  simp only [List.isEmpty_nil, bind_assoc]
  unfold Builtin.Frozenset.addrOf setAdd
  refine wpAny_bind (wpAny_pure ?_)
  try dsimp only
  refine wpAny_bind (wpAny_pure ?_)
  try dsimp only
  refine wpAny_bind (wpAny_holding (wpAny_bind ((PySem.strKind X.prog X.w).pyHash (strKind_is X.prog X.w k tk) ?_)))
  refine add_at (s := { s with toks := s.toks + 1 }) R room fun b h' sb new => ?_
  show wpAny _ _ (ret Value.none) _ _ _
  have there : ∃ u, h'.get? a = some u := by
    obtain ⟨o, _, _, _, ho, _⟩ := new
    exact ⟨o, ho⟩
  exact wpAny_pure ⟨_, rfl, .non, upd H a (SetX X.w a (ins k ks)), I.write (e := a) (t' := s.toks + 1) (by rw [ha]; trivial) (.inl rfl) (fun c u hc hu => (sb.2 c hc).trans hu) there (setX_new new), rfl, q⟩
def tAddX (w : World) (to : TE) (t : TA) : TE := fun σ H Q => to σ H fun x H1 => (∃ a ks, x = V.ref a ∧ H1 a = some (SetX w a ks)) ∧ t σ H1 fun xs H2 => rAddX w x xs H2 Q
theorem pe_addX {o e : Expr} {to : TE} {t : TA} {apos cpos : Pos} (ho : PE X o to) (ha : PA X [e] t)
    (h1 : attributeBase o "add" X.env (eval o X.env) = eval o X.env := by rfl)
    (h2 : ((backTo cpos (starEach [e] X.env)).all (fun x => !x.1) && (backToKw cpos (keywordEach [] X.env)).all (fun x => x.1.isSome) && decide ([e].length + ([] : List Keyword).length + (if ([] : List Keyword).isEmpty then 0 else 1) < 30)) = true := by rfl)
    (h3 : (apos.endLine == cpos.line) = true := by rfl) (h4 : starEach [e] X.env = (false, eval e X.env) :: starEach [] X.env := by rfl) (h5 : (backTo cpos (starEach [] X.env)).any (·.1) = false := by rfl) :
    PE X (.Call (.Attribute o "add" apos) [e] [] cpos) (tAddX X.w to t) := by
  refine ⟨fun pins s σ H Q I h => wpAny_Call_method_late h1 h2 h3 rfl (thn (ho.run pins s σ H _ I h) fun v s1 ⟨x, H1, I1, r1, ⟨a, ks, ex, hka⟩, q1⟩ => ?_)⟩
  subst ex
  cases r1
  have R := (setX_get I1 hka).of (P := X.prog)
  have run := ha.run cpos pins s1 σ H1 _ I1 q1
  refine ⟨"set", "set.add", F.plainAttrs_set, F.slot_set_add, F.type_set_add, R.typeIs, R.noDict, ?_⟩
  rw [h4] at run ⊢
  refine Calls.callWith_builtin (by show (false || (backTo cpos (starEach [] X.env)).any (·.1)) = false; rw [h5]; rfl) (Calls.evalArgs_plain (thn run fun us s2 ⟨vs, H2, I2, r2, q2⟩ => ?_))
  exact mt_addX pins s2 σ H2 (.ref a) vs (.ref a) us Q I2 rfl r2 q2
/-- sorted(a set of texts) -/
def rSortX (w : World) : List V → Hp → VK → Prop := fun vs H Q => ∃ (a : Addr) (ks : List Str), vs = [V.ref a] ∧ H a = some (SetX w a ks) ∧ ks.length < 64 ∧
  ∀ (ys : List Str) (p : Addr), ys.Perm ks → ys.Nodup → sortedS ys = true → H p = none → Q (.ref p) (upd H p (.lst (ys.map V.str)))
theorem cr_sortX (hc : X.calm = true) : CallR X (.builtin "sorted") (rSortX X.w) := by
  intro pins s σ H vs us Q I r ⟨a, ks, e, ha, few, q⟩
  subst e
  rw [Vals.ref1 r]
  have R := setX_get I ha
  have nd : ks.Nodup := by
    obtain ⟨_, _, _, _, _, _, _, rows⟩ := R
    exact rows.nd
  refine sorted_of_set R (I.ok.hd hc) few fun s' p out c ys keep g1 o1 old hp y1 y2 y3 => ?_
  have line : (ys.map V.str).length ≤ sizeLine := by
    rw [List.length_map, y2.length_eq]
    exact small64 few
  have free : H p = none := I.hok.fresh old
  have J : Inv X pins σ (upd H p (.lst (ys.map V.str))) { s with heap := s'.heap, gens := s'.gens, drawn := s'.drawn, toks := s'.toks } :=
    I.call (ch := []) (Un.laid keep old free) (I.hok.laid keep old ⟨line, out.toList, c, vals_of_strs y1, hp⟩) (by rw [g1]; exact I.bare) (fun _ z => nomatch z)
  have back : s' = { s with heap := s'.heap, gens := s'.gens, drawn := s'.drawn, toks := s'.toks } := by
    cases s'
    cases s
    cases o1
    rfl
  rw [back]
  exact ⟨.ref p, _, J, rfl, q ys p y2 (y2.nodup_iff.mpr nd) y3 free⟩
end
end Sx
set_option Elab.async false
set_option linter.all false
set_option maxRecDepth 100000
set_option maxHeartbeats 4000000
/-! Trees, heaps: what the defs of these laws share. -/
namespace Kf
open PySem PySem.Spec PyProof.Rows L2 Sx
/-! ### lists, pair by pair -/
inductive All2 {α β : Type} (F : α → β → Prop) : List α → List β → Prop
  | nil : All2 F [] []
  | cons {a : α} {b : β} {l : List α} {m : List β} : F a b → All2 F l m → All2 F (a :: l) (b :: m)
section
variable {α β : Type} {F G : α → β → Prop}
theorem All2.len : ∀ {l : List α} {m : List β}, All2 F l m → l.length = m.length
  | _, _, .nil => rfl
  | _, _, .cons _ t => congrArg Nat.succ t.len
theorem All2.app : ∀ {l l2 : List α} {m m2 : List β}, All2 F l m → All2 F l2 m2 → All2 F (l ++ l2) (m ++ m2)
  | _, _, _, _, .nil, h => h
  | _, _, _, _, .cons r t, h => .cons r (t.app h)
theorem All2.mono (f : ∀ a b, F a b → G a b) : ∀ {l : List α} {m : List β}, All2 F l m → All2 G l m
  | _, _, .nil => .nil
  | _, _, .cons r t => .cons (f _ _ r) (t.mono f)
theorem All2.one {a : α} {b : β} (h : F a b) : All2 F [a] [b] := .cons h .nil
theorem All2.rev : ∀ {l : List α} {m : List β}, All2 F l m → All2 F l.reverse m.reverse
  | _, _, .nil => .nil
  | _, _, .cons r t => by
    rw [List.reverse_cons, List.reverse_cons]
    exact t.rev.app (.one r)
theorem All2.last {l : List α} {m : List β} {y : β} (h : All2 F l (m ++ [y])) : ∃ k x, l = k ++ [x] ∧ All2 F k m ∧ F x y := by
  have q := h.rev
  rw [List.reverse_append, List.reverse_singleton, List.singleton_append] at q
  generalize hr : l.reverse = r at q
  cases q with
  | @cons x _ k _ r t =>
    have t2 := t.rev
    rw [List.reverse_reverse] at t2
    refine ⟨k.reverse, x, ?_, t2, r⟩
    have e := congrArg List.reverse hr
    rw [List.reverse_reverse, List.reverse_cons] at e
    exact e
theorem All2.get : ∀ {l : List α} {m : List β} {i : Nat} {y : β}, All2 F l m → m[i]? = some y → ∃ x, l[i]? = some x ∧ F x y
  | _, _, _, _, .nil, h => by simp at h
  | _, _, 0, _, .cons r _, h => ⟨_, rfl, (Option.some.inj h) ▸ r⟩
  | _, _, i + 1, _, .cons _ t, h => t.get (i := i) (by simpa using h)
end
/-! ### heaps -/
/-- all but what stands at f is as it was -/
def But (f : Addr) (H H' : Hp) : Prop := ∀ b o, b ≠ f → H b = some o → H' b = some o
/-- all tuples stand -/
def Tups (H H' : Hp) : Prop := ∀ b xs, H b = some (.tup xs) → H' b = some (.tup xs)
section
variable {f : Addr} {H H1 H2 : Hp} {p : Addr} {o : HO}
theorem But.refl (f : Addr) (H : Hp) : But f H H := fun _ _ _ e => e
theorem But.trans (a : But f H H1) (b : But f H1 H2) : But f H H2 := fun c u n e => b c u n (a c u n e)
theorem but_same (a : Same H H1) : But f H H1 := fun c u _ e => a c u e
theorem But.new (a : But f H H1) (h : H1 p = none) : But f H (upd H1 p o) := fun c u n e => by
  have q := a c u n e
  rw [upd_ne (ne_of_none q h)]
  exact q
theorem But.own (a : But f H H1) : But f H (upd H1 f o) := fun c u n e => by
  rw [upd_ne n]
  exact a c u n e
theorem same_new (h : H p = none) : Same H (upd H p o) := fun b u q => by
  rw [upd_ne (ne_of_none q h)]
  exact q
theorem same_put (s : Same H H1) (h : H1 p = none) : Same H (upd H1 p o) := fun b u q => by
  rw [upd_ne (ne_of_none (s b u q) h)]
  exact s b u q
theorem Tups.refl (H : Hp) : Tups H H := fun _ _ e => e
theorem Tups.trans (a : Tups H H1) (b : Tups H1 H2) : Tups H H2 := fun c u e => b c u (a c u e)
theorem tups_same (a : Same H H1) : Tups H H1 := fun c u e => a c _ e
theorem But.tups {xs : List V} (a : But f H H1) (h : H f = some (.lst xs)) : Tups H H1 := fun c u e => a c _ (fun z => by
  rw [z, h] at e
  cases e) e
theorem tups_put (h : ∀ xs, H p ≠ some (.tup xs)) : Tups H (upd H p o) := fun c u e => by
  rw [upd_ne (fun z => h u (by rw [← z]; exact e))]
  exact e
end
/-! ### trees -/
inductive Tr where
  | leaf (w : Str) (x : V)
  | n0 (w : Str)
  | n1 (w : Str) (a : Tr)
  | n2 (w : Str) (a b : Tr)
abbrev leafVs : List V := [.str "num", .str "name", .str "bound"]
abbrev bindVs : List V := [.str "all", .str "some"]
def leafy (w : Str) : Bool := inV (.str w) leafVs
def binds (w : Str) : Bool := inV (.str w) bindVs
/-- how many stand around the parts -/
def inner (w : Str) (r : Nat) : Nat := if binds w = true then r + 1 else r
def Tr.word : Tr → Str
  | .leaf w _ => w
  | .n0 w => w
  | .n1 w _ => w
  | .n2 w _ _ => w
def Tr.kids : Tr → List Tr
  | .leaf _ _ => []
  | .n0 _ => []
  | .n1 _ a => [a]
  | .n2 _ a b => [a, b]
/-- the tree t is the value v -/
def At (H : Hp) : Tr → V → Prop
  | .leaf w x, v => ∃ p, v = .ref p ∧ H p = some (.tup [.str w, x])
  | .n0 w, v => ∃ p, v = .ref p ∧ H p = some (.tup [.str w])
  | .n1 w a, v => ∃ p y, v = .ref p ∧ H p = some (.tup [.str w, y]) ∧ At H a y
  | .n2 w a b, v => ∃ p y z, v = .ref p ∧ H p = some (.tup [.str w, y, z]) ∧ At H a y ∧ At H b z
theorem At.keep {H H' : Hp} (k : Tups H H') : ∀ {t : Tr} {v : V}, At H t v → At H' t v
  | .leaf _ _, _, ⟨p, e, h⟩ => ⟨p, e, k _ _ h⟩
  | .n0 _, _, ⟨p, e, h⟩ => ⟨p, e, k _ _ h⟩
  | .n1 _ _, _, ⟨p, y, e, h, a⟩ => ⟨p, y, e, k _ _ h, a.keep k⟩
  | .n2 _ _ _, _, ⟨p, y, z, e, h, a, b⟩ => ⟨p, y, z, e, k _ _ h, a.keep k, b.keep k⟩
/-- leaves by their words -/
def Tr.Ok : Tr → Prop
  | .leaf w x => leafy w = true ∧ ((∃ i, x = .int i) ∧ w ≠ "name" ∨ (∃ z, x = .str z) ∧ w = "name")
  | .n0 w => leafy w = false
  | .n1 w a => leafy w = false ∧ a.Ok
  | .n2 w a b => leafy w = false ∧ a.Ok ∧ b.Ok
/-- how far within one another -/
def Tr.deep : Tr → Nat
  | .leaf _ _ => 1
  | .n0 _ => 1
  | .n1 _ a => a.deep + 1
  | .n2 _ a b => max a.deep b.deep + 1
def Tr.size : Tr → Nat
  | .leaf _ _ => 1
  | .n0 _ => 1
  | .n1 _ a => a.size + 1
  | .n2 _ a b => a.size + b.size + 1
theorem size_deep : ∀ t : Tr, t.size + 1 ≤ 2 ^ t.deep
  | .leaf _ _ => Nat.le_refl _
  | .n0 _ => Nat.le_refl _
  | .n1 _ a => by
    have h := size_deep a
    have p : 2 ^ (a.deep + 1) = 2 ^ a.deep * 2 := Nat.pow_succ _ _
    show a.size + 1 + 1 ≤ 2 ^ (a.deep + 1)
    omega
  | .n2 _ a b => by
    have h := size_deep a
    have h2 := size_deep b
    have p : 2 ^ (max a.deep b.deep + 1) = 2 ^ (max a.deep b.deep) * 2 := Nat.pow_succ _ _
    have q1 : 2 ^ a.deep ≤ 2 ^ (max a.deep b.deep) := Nat.pow_le_pow_right (by decide) (Nat.le_max_left _ _)
    have q2 : 2 ^ b.deep ≤ 2 ^ (max a.deep b.deep) := Nat.pow_le_pow_right (by decide) (Nat.le_max_right _ _)
    show a.size + b.size + 1 + 1 ≤ 2 ^ (max a.deep b.deep + 1)
    omega
def Tr.names : Tr → List Str
  | .leaf w x => if w = "name" then (match x with | .str z => [z] | _ => []) else []
  | .n0 _ => []
  | .n1 _ a => a.names
  | .n2 _ a b => a.names ++ b.names
theorem names_size : ∀ t : Tr, t.names.length ≤ t.size
  | .leaf w x => by
    show (if w = "name" then (match x with | .str z => [z] | _ => []) else ([] : List Str)).length ≤ 1
    split
    · cases x <;> simp
    · simp
  | .n0 _ => Nat.zero_le _
  | .n1 _ a => Nat.le_succ_of_le (names_size a)
  | .n2 _ a b => by
    have h1 := names_size a
    have h2 := names_size b
    show (a.names ++ b.names).length ≤ a.size + b.size + 1
    rw [List.length_append]
    omega
/-! ### the pieces, parts ahead of the whole, from the left; each with how many all and some stand around it -/
def Tr.post : Tr → Nat → List (Tr × Nat)
  | .leaf w x, r => [(.leaf w x, r)]
  | .n0 w, r => [(.n0 w, r)]
  | .n1 w a, r => a.post (inner w r) ++ [(.n1 w a, r)]
  | .n2 w a b, r => a.post (inner w r) ++ b.post (inner w r) ++ [(.n2 w a b, r)]
theorem post_len : ∀ (t : Tr) (r : Nat), (t.post r).length = t.size
  | .leaf _ _, _ => rfl
  | .n0 _, _ => rfl
  | .n1 w a, r => by
    show (a.post _ ++ [_]).length = a.size + 1
    rw [List.length_append, post_len a]
    rfl
  | .n2 w a b, r => by
    show (a.post _ ++ b.post _ ++ [_]).length = a.size + b.size + 1
    rw [List.length_append, List.length_append, post_len a, post_len b]
    rfl
theorem post_kids (t : Tr) (r : Nat) : t.post r = (t.kids.flatMap fun a => a.post (inner t.word r)) ++ [(t, r)] := by
  cases t with
  | leaf w x => rfl
  | n0 w => rfl
  | n1 w a => simp [Tr.post, Tr.kids, Tr.word]
  | n2 w a b => simp [Tr.post, Tr.kids, Tr.word]
/-- what a whole list of pieces has for names -/
def leafName : Tr → List Str
  | .leaf w x => Tr.names (.leaf w x)
  | _ => []
theorem post_names : ∀ (t : Tr) (r : Nat), ((t.post r).flatMap fun (e : Tr × Nat) => leafName e.1) = t.names
  | .leaf w x, r => by simp [Tr.post, leafName]
  | .n0 w, r => by simp [Tr.post, leafName, Tr.names]
  | .n1 w a, r => by
    show ((a.post _ ++ [_]).flatMap fun (e : Tr × Nat) => leafName e.1) = a.names
    rw [List.flatMap_append, post_names a]
    simp [leafName]
  | .n2 w a b, r => by
    show ((a.post _ ++ b.post _ ++ [_]).flatMap fun (e : Tr × Nat) => leafName e.1) = a.names ++ b.names
    rw [List.flatMap_append, List.flatMap_append, post_names a, post_names b]
    simp [leafName]
theorem post_ok : ∀ (t : Tr) (r : Nat), t.Ok → ∀ e ∈ t.post r, e.1.Ok
  | .leaf w x, r, h, e, he => by
    rw [List.mem_singleton.mp he]
    exact h
  | .n0 w, r, h, e, he => by
    rw [List.mem_singleton.mp he]
    exact h
  | .n1 w a, r, h, e, he => by
    rcases List.mem_append.mp he with z | z
    · exact post_ok a _ h.2 e z
    · rw [List.mem_singleton.mp z]
      exact h
  | .n2 w a b, r, h, e, he => by
    rcases List.mem_append.mp he with z | z
    · rcases List.mem_append.mp z with z | z
      · exact post_ok a _ h.2.1 e z
      · exact post_ok b _ h.2.2 e z
    · rw [List.mem_singleton.mp z]
      exact h
theorem no_leaf {w : Str} (h : leafy w = false) (z : leafy w = true) : False := by
  rw [h] at z
  cases z
/-- a tree's own tuple -/
theorem At.view {H : Hp} {t : Tr} {v : V} (h : At H t v) (ok : t.Ok) : ∃ p vs, v = .ref p ∧ H p = some (.tup (.str t.word :: vs)) ∧ vs.length ≤ 2 ∧ (leafy t.word = false → All2 (At H) t.kids vs) ∧ (leafy t.word = true → ∃ x, t = .leaf t.word x ∧ vs = [x]) := by
  cases t with
  | leaf w x =>
    obtain ⟨p, e, h⟩ := h
    exact ⟨p, [x], e, h, Nat.le_succ 1, fun z => (no_leaf z ok.1).elim, fun _ => ⟨x, rfl, rfl⟩⟩
  | n0 w =>
    obtain ⟨p, e, h⟩ := h
    exact ⟨p, [], e, h, Nat.zero_le 2, fun _ => .nil, fun z => (no_leaf ok z).elim⟩
  | n1 w a =>
    obtain ⟨p, y, e, h, ha⟩ := h
    exact ⟨p, [y], e, h, Nat.le_succ 1, fun _ => .one ha, fun z => (no_leaf ok.1 z).elim⟩
  | n2 w a b =>
    obtain ⟨p, y, z, e, h, ha, hb⟩ := h
    exact ⟨p, [y, z], e, h, Nat.le_refl 2, fun _ => .cons ha (.one hb), fun q => (no_leaf ok.1 q).elim⟩
theorem kids_ok {t : Tr} (ok : t.Ok) : ∀ a ∈ t.kids, a.Ok := by
  cases t with
  | leaf w x => intro a h; cases h
  | n0 w => intro a h; cases h
  | n1 w a =>
    intro c h
    rw [List.mem_singleton.mp h]
    exact ok.2
  | n2 w a b =>
    intro c h
    rcases List.mem_cons.mp h with z | z
    · rw [z]
      exact ok.2.1
    · rw [List.mem_singleton.mp z]
      exact ok.2.2
/-! ### sorted lists of texts -/
theorem nodup_le : ∀ (ks ms : List Str), ks.Nodup → (∀ k ∈ ks, k ∈ ms) → ks.length ≤ ms.length
  | [], _, _, _ => Nat.zero_le _
  | k :: r, ms, nd, h => by
    obtain ⟨n1, n2⟩ := List.nodup_cons.mp nd
    have hk : k ∈ ms := h k List.mem_cons_self
    have q := nodup_le r (ms.erase k) n2 fun j hj => (List.mem_erase_of_ne (fun z : j = k => n1 (z ▸ hj))).mpr (h j (List.mem_cons_of_mem _ hj))
    rw [List.length_erase_of_mem hk] at q
    have pos : 0 < ms.length := List.length_pos_of_mem hk
    rw [List.length_cons]
    omega
def Le (a b : Str) : Prop := ltCps b.cps.toList a.cps.toList = false
theorem rising_pairs : ∀ (p : Str) (l : List Str), risingS p l = true → (∀ (a b c : Str), Le a b → Le b c → Le a c) → (p :: l).Pairwise Le
  | p, [], _, _ => List.pairwise_singleton _ _
  | p, x :: r, h, tr => by
    have h' : (!ltCps x.cps.toList p.cps.toList && risingS x r) = true := h
    rw [Bool.and_eq_true] at h'
    have q := rising_pairs x r h'.2 tr
    have px : Le p x := by
      unfold Le
      simpa using h'.1
    refine List.pairwise_cons.mpr ⟨fun y hy => ?_, q⟩
    rcases List.mem_cons.mp hy with z | z
    · rw [z]
      exact px
    · exact tr _ _ _ px (List.rel_of_pairwise_cons q z)
theorem le_iff (a b : Str) : Le a b ↔ a.cps.toList ≤ b.cps.toList := by
  unfold Le
  rw [ltCps_eq]
  simp
theorem le_trans3 (a b c : Str) (h1 : Le a b) (h2 : Le b c) : Le a c := by
  rw [le_iff] at *
  exact List.le_trans h1 h2
theorem le_anti (a b : Str) (h1 : Le a b) (h2 : Le b a) : a = b := by
  rw [le_iff] at *
  have q := List.le_antisymm h1 h2
  cases a with
  | mk x =>
    cases b with
    | mk y =>
      have q' : x.toList = y.toList := q
      rw [Array.toList_inj.mp q']
theorem one_order : ∀ (l m : List Str), l.Pairwise Le → m.Pairwise Le → l.Nodup → m.Nodup → (∀ x, x ∈ l ↔ x ∈ m) → l = m
  | [], [], _, _, _, _, _ => rfl
  | [], y :: m, _, _, _, _, h => by
    have := (h y).2 List.mem_cons_self
    cases this
  | x :: l, [], _, _, _, _, h => by
    have := (h x).1 List.mem_cons_self
    cases this
  | x :: l, y :: m, pl, pm, nl, nm, h => by
    obtain ⟨l1, l2⟩ := List.pairwise_cons.mp pl
    obtain ⟨m1, m2⟩ := List.pairwise_cons.mp pm
    obtain ⟨k1, k2⟩ := List.nodup_cons.mp nl
    obtain ⟨j1, j2⟩ := List.nodup_cons.mp nm
    have exy : x = y := by
      rcases List.mem_cons.mp ((h x).1 List.mem_cons_self) with z | z
      · exact z
      · rcases List.mem_cons.mp ((h y).2 List.mem_cons_self) with q | q
        · exact q.symm
        · exact le_anti _ _ (l1 y q) (m1 x z)
    subst exy
    rw [one_order l m l2 m2 k2 j2 fun z => ?_]
    constructor
    · intro hz
      rcases List.mem_cons.mp ((h z).1 (List.mem_cons_of_mem _ hz)) with e | e
      · exact absurd (e ▸ hz) k1
      · exact e
    · intro hz
      rcases List.mem_cons.mp ((h z).2 (List.mem_cons_of_mem _ hz)) with e | e
      · exact absurd (e ▸ hz) j1
      · exact e
theorem sorted_pairs : ∀ l : List Str, sortedS l = true → l.Pairwise Le
  | [], _ => List.Pairwise.nil
  | x :: r, h => rising_pairs x r h le_trans3
end Kf
set_option Elab.async false
set_option linter.all false
set_option maxRecDepth 100000
set_option maxHeartbeats 4000000
/-! The defs by which the law makes its inputs. -/
namespace Kf
open PySem PySem.Spec PyProof.Rows L2 Sx
def top (i : Nat) : Stmt := PySem.Challenge.pw_prooffruit_k03_how_great.main.body.getD i (.Pass ⟨0, 0, 0, 0⟩)
abbrev sFeed : Stmt := top 21
abbrev sTake : Stmt := top 22
abbrev sPick : Stmt := top 23
theorem scFeed : FnScope ["script", "k", "seed", "digits"] ["script", "k"] (defScope sFeed) := ⟨rfl, rfl, rfl, by decide +kernel, rfl, by decide +kernel, by decide +kernel⟩
theorem scTake : FnScope ["feed", "many", "found"] ["feed", "many"] (defScope sTake) := ⟨rfl, rfl, rfl, by decide +kernel, rfl, by decide +kernel, by decide +kernel⟩
theorem scPick : FnScope ["feed", "some"] ["feed", "some"] (defScope sPick) := ⟨rfl, rfl, rfl, by decide +kernel, rfl, by decide +kernel, by decide +kernel⟩
/-- the feed at f: two numbers, the second below 2 ^ 61 - 1 -/
def FeedAt (H : Hp) (f : Addr) : Prop := ∃ a b : Int, H f = some (.lst [.int a, .int b]) ∧ 0 ≤ b ∧ b < 2305843009213693951
theorem FeedAt.keep {H H' : Hp} {f g : Addr} (h : FeedAt H f) (n : f ≠ g) (b : But g H H') : FeedAt H' f := by
  obtain ⟨x, y, e, q⟩ := h
  exact ⟨x, y, b _ _ n e, q⟩
theorem FeedAt.same {H H' : Hp} {f : Addr} (h : FeedAt H f) (b : Same H H') : FeedAt H' f := by
  obtain ⟨x, y, e, q⟩ := h
  exact ⟨x, y, b _ _ e, q⟩
theorem FeedAt.tups {H H' : Hp} {f : Addr} (h : FeedAt H f) (b : But f H H') : Tups H H' := by
  obtain ⟨x, y, e, q⟩ := h
  exact b.tups e
/-- a list of the call's own -/
theorem FeedAt.ne {H : Hp} {f p : Addr} (h : FeedAt H f) (e : H p = none) : p ≠ f := fun z => by
  obtain ⟨x, y, e2, q⟩ := h
  rw [z, e2] at e
  cases e
section
variable {P : Program} {w : World} {K : PySem.W.Frag} {mg : Str → Option Value} {base : Heap}
/-! ### _law_feed -/
def spFeed (K : PySem.W.Frag) : Sp := fun vs H Q _ => ∃ (a : Addr) (ns : List Int) (k : Nat), vs = [.ref a, .int (k : Int)] ∧ SqL K H a (ns.map V.int) ∧ (∀ z ∈ ns, Builtin.Int.intBits z ≤ 1048576) ∧ k ≤ 100 ∧
  ∀ p H', Same H H' → H p = none → FeedAt H' p → Q (.ref p) H'
theorem notM : (2305843009213693951 : Int) ≠ 0 := by decide
theorem modM (i : Int) : 0 ≤ i.fmod 2305843009213693951 ∧ i.fmod 2305843009213693951 < 2305843009213693951 := by
  rw [Int.fmod_eq_emod_of_nonneg _ (by decide)]
  exact ⟨Int.emod_nonneg _ (by decide), Int.emod_lt_of_pos _ (by decide)⟩
theorem seed_ok {z : Int} (h : Builtin.Int.intBits z ≤ 1048576) : CMulX z 6364136223846793005 := by
  unfold CMulX
  have e : Builtin.Int.intBits 6364136223846793005 = 63 := by decide +kernel
  rw [e]
  omega
theorem ok_feed {f : Addr} {fd : FuncData} {j : Nat} (F : Fun K "_law_feed" "_law_feed" sFeed f fd) (ml : mg "len" = none) (ma : mg "abs" = none) : FnOk P w K mg base CX0 (j + 1) f fd ["script", "k"] (spFeed K) := by
  refine F.ok scFeed (fun vs H Q E h => ?_) (fun cdv A outer s H vs Q E hr h => ?_)
  · obtain ⟨a, ns, k, rfl, _⟩ := h
    rfl
  obtain ⟨a, ns, k, rfl, hS, hb, hk, q⟩ := h
  refine ⟨_, pss_cons (ps_set (i := 2) scFeed.nd rfl (.inl rfl) (pe_op op_add (pe_op op_mul pe_int (pv 1)) pe_int))
    (pss_cons (ps_if (pt_cmpR op_lt (pv 1) (pe_callB call_len_seq (by rfl) ml PySem.boot_len (pa_cons (pv 0) pa_nil)) (nomark _)) (pss_one (ps_set (i := 2) scFeed.nd rfl (.inl rfl) (pe_ix ix_list (pv 0) (pv 1) (fun _ _ => rfl)))) pss_nil)
    (pss_cons (ps_set (i := 3) scFeed.nd rfl (.inl rfl) pe_int)
    (pss_cons (ps_if (pt_cmpR op_ge (pe_callB call_abs (by rfl) ma (by decide +kernel) (pa_cons (pv 2) pa_nil)) (pe_op op_pow pe_int pe_int) (nomark _)) (pss_one (ps_set (i := 3) scFeed.nd rfl (.inl rfl) (pe_op op_sub (pe_callB call_abs (by rfl) ma (by decide +kernel) (pa_cons (pv 2) pa_nil)) (pe_op op_pow pe_int pe_int)))) pss_nil)
    (pss_one (ps_ret (pe_lst (pa_cons (pv 3) (pa_cons (pe_op op_modN (pe_op op_add (pe_op op_add (pe_op op_mulX (pv 2) pe_int) (pe_op op_mul pe_int (pv 1))) pe_int) pe_int) pa_nil)))))))), ?_⟩
  refine ⟨_, rfl, _, _, rfl, rfl, .inl ⟨by decide, by decide⟩, _, _, rfl, rfl, ?_⟩
  refine ⟨_, rfl, _, rfl, a, _, rfl, .inl hS, _, _, rfl, rfl, _, rfl, ?_⟩
  have fin : ∀ (z d : Int), Builtin.Int.intBits z ≤ 1048576 → ∀ p, H p = none → Q (.ref p) (upd H p (.lst [.int d, .int ((z * 6364136223846793005 + 7919 * (k : Int) + 1442695040888963407).fmod 2305843009213693951)])) := fun z d _ p hp => by
    refine q p _ (same_new hp) hp ⟨_, _, upd_same, (modM _).1, (modM _).2⟩
  have two : ∀ (z : Int), Builtin.Int.intBits z ≤ 1048576 → CMulX z 6364136223846793005 ∧ CMul 7919 (k : Int) := fun z hz => ⟨seed_ok hz, .inl ⟨by decide, by decide⟩⟩
  refine ite2 (fun c => ?_) (fun c => ?_)
  · have c' : (k : Int) < (((ns.map V.int).length : Nat) : Int) := of_decide_eq_true c
    have lt : k < ns.length := by
      rw [List.length_map] at c'
      omega
    have item : atI (ns.map V.int) (k : Int) = some (.int ns[k]) := atI_nat (by rw [List.getElem?_map, List.getElem?_eq_getElem lt]; rfl)
    have hz := hb ns[k] (List.getElem_mem lt)
    refine ⟨_, rfl, _, rfl, a, _, _, _, rfl, rfl, hS, item, ?_⟩
    refine ⟨_, rfl, _, rfl, _, _, rfl, rfl, ⟨by decide, by decide, by decide⟩, _, _, rfl, rfl, _, rfl, ?_⟩
    refine ite2 (fun _ => ?_) (fun _ => ?_)
    · refine ⟨_, rfl, _, rfl, _, _, rfl, rfl, ⟨by decide, by decide, by decide⟩, _, _, rfl, rfl, ?_⟩
      exact ⟨_, rfl, _, rfl, _, _, rfl, rfl, (two _ hz).1, _, rfl, _, _, rfl, rfl, (two _ hz).2, _, _, rfl, rfl, _, _, rfl, rfl, _, _, rfl, rfl, notM, (by show 2 ≤ sizeLine; decide), fin _ _ hz⟩
    · exact ⟨_, rfl, _, rfl, _, _, rfl, rfl, (two _ hz).1, _, rfl, _, _, rfl, rfl, (two _ hz).2, _, _, rfl, rfl, _, _, rfl, rfl, _, _, rfl, rfl, notM, (by show 2 ≤ sizeLine; decide), fin _ _ hz⟩
  · have hz : Builtin.Int.intBits (67 * (k : Int) + 19) ≤ 1048576 := by
      refine Nat.le_trans (PyProof.Rows.intBits_le (k := 20) ?_) (by decide)
      have : (67 * (k : Int) + 19).natAbs ≤ 6719 := by omega
      exact Nat.lt_of_le_of_lt this (by decide)
    refine ⟨_, rfl, _, rfl, _, _, rfl, rfl, ⟨by decide, by decide, by decide⟩, _, _, rfl, rfl, _, rfl, ?_⟩
    refine ite2 (fun _ => ?_) (fun _ => ?_)
    · refine ⟨_, rfl, _, rfl, _, _, rfl, rfl, ⟨by decide, by decide, by decide⟩, _, _, rfl, rfl, ?_⟩
      exact ⟨_, rfl, _, rfl, _, _, rfl, rfl, (two _ hz).1, _, rfl, _, _, rfl, rfl, (two _ hz).2, _, _, rfl, rfl, _, _, rfl, rfl, _, _, rfl, rfl, notM, (by show 2 ≤ sizeLine; decide), fin _ _ hz⟩
    · exact ⟨_, rfl, _, rfl, _, _, rfl, rfl, (two _ hz).1, _, rfl, _, _, rfl, rfl, (two _ hz).2, _, _, rfl, rfl, _, _, rfl, rfl, _, _, rfl, rfl, notM, (by show 2 ≤ sizeLine; decide), fin _ _ hz⟩
/-! ### _law_take -/
def spTake : Sp := fun vs H Q _ => ∃ (f : Addr) (many : Int), vs = [.ref f, .int many] ∧ 0 < many ∧ many.natAbs < 2 ^ 200 ∧ FeedAt H f ∧
  ∀ (r : Int) H', 0 ≤ r → r < many → But f H H' → FeedAt H' f → Q (.int r) H'
theorem mod_in {i m : Int} (h : 0 < m) : 0 ≤ i.fmod m ∧ i.fmod m < m := by
  rw [Int.fmod_eq_emod_of_nonneg _ (Int.le_of_lt h)]
  exact ⟨Int.emod_nonneg _ (Int.ne_of_gt h), Int.emod_lt_of_pos _ h⟩
theorem ok_take {f : Addr} {fd : FuncData} {j : Nat} (F : Fun K "_law_take" "_law_take" sTake f fd) : FnOk P w K mg base CX0 (j + 1) f fd ["feed", "many"] spTake := by
  refine F.ok scTake (fun vs H Q E h => ?_) (fun cdv A outer s H vs Q E hr h => ?_)
  · obtain ⟨a, m, rfl, _⟩ := h
    rfl
  obtain ⟨f, m, rfl, pos, small, ⟨x, y, hf, y0, y1⟩, q⟩ := h
  refine ⟨_, pss_cons (ps_if (pt_cmpR op_gt (pe_ix ix_list (pv 0) pe_int (fun _ _ => rfl)) pe_int (nomark _))
      (pss_cons (ps_set (i := 2) scTake.nd rfl (.inl rfl) (pe_op op_modN (pe_ix ix_list (pv 0) pe_int (fun _ _ => rfl)) (pv 1)))
      (pss_cons (ps_asg (pe_op op_fdivW (pe_ix ix_list (pv 0) pe_int (fun _ _ => rfl)) (pv 1)) (pg_sub (pv 0) pe_int set_list)) (pss_one (ps_ret (pv 2))))) pss_nil)
    (pss_cons (ps_asg (pe_op op_modN (pe_op op_add (pe_op op_mul (pe_ix ix_list (pv 0) pe_int (fun _ _ => rfl)) pe_int) pe_int) pe_int) (pg_sub (pv 0) pe_int set_list))
    (pss_one (ps_ret (pe_op op_modN (pe_op op_fdiv (pe_ix ix_list (pv 0) pe_int (fun _ _ => rfl)) pe_int) (pv 1))))), ?_⟩
  have s0 : SqL K H f [.int x, .int y] := .inl (.inl hf)
  refine ⟨_, rfl, f, _, 0, .int x, rfl, rfl, s0, rfl, _, _, rfl, rfl, _, rfl, ?_⟩
  refine ite2 (fun c => ?_) (fun c => ?_)
  · refine ⟨_, rfl, f, _, 0, .int x, rfl, rfl, s0, rfl, _, rfl, _, _, rfl, rfl, Int.ne_of_gt pos, ?_⟩
    refine ⟨_, rfl, f, _, 0, .int x, rfl, rfl, s0, rfl, _, rfl, _, _, rfl, rfl, wide_div pos small (by decide) (by decide), ?_⟩
    refine ⟨_, rfl, f, _, 0, 0, rfl, rfl, hf, rfl, _, rfl, ?_⟩
    exact q _ _ (mod_in pos).1 (mod_in pos).2 ((But.refl f H).own) ⟨_, _, upd_same, y0, y1⟩
  · refine ⟨_, rfl, f, _, 1, .int y, rfl, rfl, s0, rfl, _, _, rfl, rfl, .inr ⟨by decide, by decide⟩, _, _, rfl, rfl, _, _, rfl, rfl, notM, ?_⟩
    refine ⟨_, rfl, f, _, 1, 1, rfl, rfl, hf, rfl, ?_⟩
    refine ⟨_, rfl, f, _, 1, _, rfl, rfl, .inl (.inl upd_same), rfl, _, _, rfl, rfl, ⟨by decide, by decide⟩, _, rfl, _, _, rfl, rfl, Int.ne_of_gt pos, ?_⟩
    exact q _ _ (mod_in pos).1 (mod_in pos).2 ((But.refl f H).own) ⟨_, _, upd_same, (modM _).1, (modM _).2⟩
/-! ### _law_pick -/
theorem atI_in {α : Type} {xs : List α} {r : Int} (h0 : 0 ≤ r) (h1 : r < (xs.length : Int)) : ∃ x ∈ xs, atI xs r = some x := by
  have lt : r.toNat < xs.length := by omega
  have er : ((r.toNat : Nat) : Int) = r := by omega
  have q : atI xs ((r.toNat : Nat) : Int) = some xs[r.toNat] := atI_nat (List.getElem?_eq_getElem lt)
  rw [er] at q
  exact ⟨_, List.getElem_mem lt, q⟩
/-- from a list -/
def spPick (K : PySem.W.Frag) : Sp := fun vs H Q _ => ∃ (f l : Addr) (xs : List V), vs = [.ref f, .ref l] ∧ l ≠ f ∧ SqL K H l xs ∧ 0 < xs.length ∧ xs.length ≤ 1000 ∧ FeedAt H f ∧
  ∀ x ∈ xs, ∀ H', But f H H' → FeedAt H' f → Q x H'
theorem seq_but {K : PySem.W.Frag} {f l : Addr} {H H' : Hp} {xs : List V} (n : l ≠ f) (b : But f H H') (h : SqL K H l xs) : SqL K H' l xs := by
  rcases h with (h | ⟨o, h⟩) | h
  · exact .inl (.inl (b _ _ n h))
  · exact .inl (.inr ⟨o, b _ _ n h⟩)
  · exact .inr h
theorem len200 {n : Nat} (h : n ≤ 1000) : ((n : Nat) : Int).natAbs < 2 ^ 200 := Nat.lt_of_le_of_lt (by rw [Int.natAbs_natCast]; exact h) (by decide)
theorem ok_pick {f g : Addr} {fd gd : FuncData} {j : Nat} (F : Fun K "_law_pick" "_law_pick" sPick f fd) (G : FnOk P w K mg base CX0 (j + 1) g gd ["feed", "many"] spTake) (bG : Binds K gd ["feed", "many"] []) (kG : PySem.W.keepIn K (.ref g) = true) (mG : mg "_law_take" = some (.ref g)) (ml : mg "len" = none) :
    FnOk P w K mg base CX0 (j + 2) f fd ["feed", "some"] (spPick K) := by
  refine F.ok scPick (fun vs H Q E h => ?_) (fun cdv A outer s H vs Q E hr h => ?_)
  · obtain ⟨a, l, xs, rfl, _⟩ := h
    rfl
  obtain ⟨f, l, xs, rfl, apart, hS, pos, few, hF, q⟩ := h
  refine ⟨_, pss_one (ps_ret (pe_ix ix_list (pv 1) (pe_call G hr (by rfl) mG kG bG .nil pass0 (pa_cons (pv 0) (pa_cons (pe_callB call_len_seq (by rfl) ml PySem.boot_len (pa_cons (pv 1) pa_nil)) pa_nil))) (fun _ _ => rfl))), ?_⟩
  refine ⟨_, rfl, _, rfl, _, rfl, l, xs, rfl, .inl hS, f, _, rfl, (by omega), len200 few, hF, fun r H' r0 r1 b hF' => ?_⟩
  obtain ⟨x, hx, item⟩ := atI_in r0 r1
  exact ⟨l, xs, r, _, rfl, rfl, seq_but apart b hS, item, q _ hx H' b hF'⟩
/-- from a text -/
def spPickS : Sp := fun vs H Q _ => ∃ (f : Addr) (z : Str), vs = [.ref f, .str z] ∧ 0 < z.length ∧ z.length ≤ 1000 ∧ FeedAt H f ∧ ∀ c ∈ z.cps.toList, ∀ H', But f H H' → FeedAt H' f → Q (.str ⟨#[c]⟩) H'
theorem ok_pickS {f g : Addr} {fd gd : FuncData} {j : Nat} (F : Fun K "_law_pick" "_law_pick" sPick f fd) (G : FnOk P w K mg base CX0 (j + 1) g gd ["feed", "many"] spTake) (bG : Binds K gd ["feed", "many"] []) (kG : PySem.W.keepIn K (.ref g) = true) (mG : mg "_law_take" = some (.ref g)) (ml : mg "len" = none) :
    FnOk P w K mg base CX0 (j + 2) f fd ["feed", "some"] spPickS := by
  refine F.ok scPick (fun vs H Q E h => ?_) (fun cdv A outer s H vs Q E hr h => ?_)
  · obtain ⟨a, z, rfl, _⟩ := h
    rfl
  obtain ⟨f, z, rfl, pos, few, hF, q⟩ := h
  refine ⟨_, pss_one (ps_ret (pe_ix ix_str (pv 1) (pe_call G hr (by rfl) mG kG bG .nil pass0 (pa_cons (pv 0) (pa_cons (pe_callB call_len_str (by rfl) ml PySem.boot_len (pa_cons (pv 1) pa_nil)) pa_nil))) (fun _ _ => rfl))), ?_⟩
  have line : z.length ≤ sizeLine := Nat.le_trans few (by decide)
  refine ⟨_, rfl, _, rfl, _, rfl, z, rfl, line, f, _, rfl, (by omega), len200 few, hF, fun r H' r0 r1 b hF' => ?_⟩
  have ln : z.cps.toList.length = z.length := Array.length_toList
  obtain ⟨x, hx, item⟩ := atI_in (xs := z.cps.toList) r0 (by omega)
  exact ⟨z, r, _, rfl, rfl, line, item, q _ hx H' b hF'⟩
end
end Kf
set_option Elab.async false
set_option linter.all false
set_option maxRecDepth 100000
set_option maxHeartbeats 4000000
/-! all(a test that reads a name of the module, for each sign of a text). -/
namespace Gx
open PySem PySem.Spec PyProof.Rows L2 GxR
/-- the test of a sign, where the module's names stand as mg says -/
def Test (prog : Program) (w : World) (mg : Str → Option Value) (scope : Scope) (x : Str) (elt : Expr) (pb : Nat → Bool) : Prop :=
  ∀ (ce : Env) (B : Around) (EE : Value → Shared → Prop) (n : Nat) (tk : Tok) (z : Shared) (m : Str → Option Value), ce.scope = scope → ce.globals = mainGlobals → z.heap.Ns mainGlobals mg → z.heap.Ns ce.locals m → m x = some (.str ⟨#[n]⟩ tk) →
    wpAny (model prog w) B (eval elt ce) (fun y z2 => y = .bool (pb n) ∧ Keeps z z2) EE z
/-- sign in LETTERS -/
def among (letters : Str) (n : Nat) : Bool := !(Builtin.Str.occurrences letters ⟨#[n]⟩ 0 letters.length 1).isEmpty
theorem test_in {prog : Program} {w : World} {mg : Str → Option Value} {scope : Scope} {x g letters : Str} {tl : Tok} {p1 p2 p3 : Pos} (hk : scope.kind = .function) (hx : scope.names.lookup x = some .local) (hg : scope.names.lookup g = some .globalImplicit)
    (hv : mg g = some (.str letters tl)) (d1 : (x == ("__debug__" : Str)) = false := by decide) (d2 : (g == ("__debug__" : Str)) = false := by decide) : Test prog w mg scope x (.Compare (.Name x p1) [.In] [.Name g p2] p3) (among letters) := by
  intro ce B EE n tk z m es eg ng nl hm
  have kf : ce.scope.kind = .function := by
    rw [es]
    exact hk
  refine wpAny_Compare1 (wpAny_Name (wpAny_loadName_local kf (show ce.scope.names.lookup x = some .local by rw [es]; exact hx) nl hm ?_) d1)
  refine Calls.Name_function_global kf (show ce.scope.names.lookup g = some .globalImplicit by rw [es]; exact hg) (Calls.loadGlobal_global (by rw [eg]; exact ng) hv ?_) d2
  exact PyProof.Rows.in_str ⟨rfl, keeps_refl z⟩
theorem join3 {C G : Value → Heap → Nat → Prop} {M : Prop} (main : (∀ v h t, C v h t → G v h t) → M) (rest : ∀ v h t, C v h t → G v h t) : M := main rest
section
variable {X : Cx} {pins : List (Addr × Obj)} {σ : L2.St} {H : Hp} {s : Shared}
/-- the module's names stand in every heap that keeps what the base had -/
theorem mod_ns {P : Addr} {h : Heap} (I : Inv X pins σ H s) (far : mainGlobals ≠ P) (k : ∀ b u, b ≠ P → s.heap.get? b = some u → h.get? b = some u) : h.Ns mainGlobals X.mg := by
  obtain ⟨o, es, ep, ho, rest⟩ := I.mod.glob.keeps I.bk
  exact ⟨o, es, ep, k _ _ far ho, rest⟩
theorem gen_ready {c P : Addr} {elt iter : Expr} {x : Str} {px gp : Pos} {scope : Scope} {pb : Nat → Bool} {te : TE} {k : Nat} {Z : Value → Shared → Prop} {R : Str → Hp → Prop} (room : Room k X.A) (tab : TabB X.base X.mg c P) (code : X.env.code = .ref c)
    (own : GenS X.env scope x) (src : PE X iter te) (test : Test X.prog X.w X.mg scope x elt pb) (plain : ∀ v, genFold iter X.env v = pure v) (I : Inv X pins σ H s)
    (h : te σ H fun v H1 => ∃ a : Str, v = .str a ∧ TabG H1 P ∧ R a H1) (done : ∀ a H1 g z, R a H1 → Ready X pins σ H1 P a pb g z → Z (.ref g) z) :
    wpAny (model X.prog X.w) X.A (eval (.GeneratorExp elt [⟨.Name x px, iter, [], 0⟩] scope gp) X.env) Z X.xe s := by
  have deep : X.A.depth < recursionLimit := by
    have := room.dp
    omega
  refine wpAny_GeneratorExp_walksQ room.hd own.co (closure_ok own.free) own.cell own.dot own.loc own.kind deep (thn (src.run pins s σ H _ I h) fun xv s1 ⟨v, H1, I1, r1, a, ev, ⟨ps, hP, trip⟩, r⟩ => ?_) plain
  subst ev
  obtain ⟨ta, rfl⟩ := _root_.id r1
  refine wpAny_pyIter_str fun it St W start => ?_
  have tabAt : s1.heap.get? P = some { cls := .none, data := .fields ps } := I1.hok P _ hP
  have ltP := Heap.lt_size tabAt
  have up : ∀ b u, s1.heap.get? b = some u → (s1.heap.push it).get? b = some u := fun b u e => Heap.get?_push_of_some _ e
  have sz : (s1.heap.push it).objs.size = s1.heap.objs.size + 1 := Heap.size_push ..
  have cod : PySem.W.CodeHd (s1.heap.push it) c P := tab.code.keeps fun b u e => up b u (I1.bk b u e)
  have free := I1.nolimit.push it
  obtain ⟨mcs, nsCs, _⟩ := _root_.id I1.nolimit
  have ltCs : cStatics < s1.heap.objs.size := nsCs.lt
  have farCs : cStatics ≠ P := fun e => by
    obtain ⟨o1, es, ep, ho, hd, _⟩ := nsCs
    rw [e, tabAt] at ho
    cases ho
    cases hd
  refine ⟨free, ?_⟩
  -- whatever code object is taken: the table has grown by some, or not
  apply join3 (C := fun _ h3 _ => ∃ qs : Array Value, Heap.ExtBut P (s1.heap.push it) h3 ∧ (s1.heap.push it).objs.size ≤ h3.objs.size ∧ h3.get? P = some { cls := .none, data := .fields (ps ++ qs) } ∧ TriplesOk (ps ++ qs).toList)
  · intro rest
    have at2 := up P _ tabAt
    cases among : codeAmong gp ps.toList with
    | none =>
      refine wpAny_genexprCodeX code (cod.code at2 trip) (cod.tab at2) among fun c2 h3 t3 ext ge lt isc _ tabs _ => ?_
      have trip3 : TriplesOk (ps ++ #[rawInt gp.line, rawInt gp.col, .ref c2]).toList := by
        obtain ⟨_, _, _, _, _, _, _, _, _, _, _, _, _, _, _, _, _, _, _, tr, _⟩ := isc
        exact tr
      generalize Value.ref c2 = cv at *
      exact rest cv h3 t3 ⟨_, ext, Nat.le_trans ge (Nat.le_of_lt lt), tabs.2, trip3⟩
    | some cv =>
      exact wpAny_genexprCode_hit code (cod.code at2 trip) among (rest cv (s1.heap.push it) s1.toks ⟨#[], Heap.ExtBut.refl _ _, Nat.le_refl _, by rw [Array.append_empty]; exact at2, by rw [Array.append_empty]; exact trip⟩)
  · intro cv h3 t3 ⟨qs, ext, big, at3, trip3⟩
    have keep : ∀ b u, b ≠ P → s1.heap.get? b = some u → h3.get? b = some u := fun b u n e => ext b u n (up b u e)
    obtain ⟨bm, ob, b1, b2, b3, b4, b5, b6, b7, b8⟩ := tab.bm
    refine wpAny_builtinsFor (m := X.mg) (by rw [I1.ok.glob]; exact mod_ns I1 tab.gP keep) b1 b2 (keep _ _ b4 (I1.bk _ _ b5)) b6 b7 b8 ?_
    rw [sz] at big
    refine ⟨s1.heap.objs.size, [s1.heap.objs.size], [s1.heap.objs.size], a.cps.size, SignAt a, St, (fun _ => true), (fun i y => ∃ n, a.cps[i]? = some n ∧ y = .bool (pb n)), rfl, W, ?_, ?_, free.extBut ext farCs, ?_, ?_, ?_⟩
    · refine (W X.A room.hd).frame _ _ _ start fun b hb u e => ext b u ?_ e
      rw [List.mem_singleton.mp hb]
      exact Nat.ne_of_gt ltP
    · intro b hb
      rw [List.mem_singleton.mp hb]
      exact big
    · intro hb
      exact absurd (List.mem_singleton.mp hb) (Nat.ne_of_lt ltCs)
    · intro href old
      refine ⟨fun B EE i v z m _ _ nl hm kz => ?_, fun B EE i v z m _ hv _ nl hm kz => ?_⟩
      · simp only [List.forIn_nil]
        exact wpAny_pure ⟨rfl, keeps_refl z⟩
      · obtain ⟨n, tn, hn, rfl⟩ := hv
        have names : z.heap.Ns mainGlobals X.mg := by
          obtain ⟨o, es, ep, ho, others⟩ := mod_ns I1 tab.gP keep
          have lt := Heap.lt_size ho
          refine ⟨o, es, ep, kz _ (List.mem_range.mpr lt) (fun hb => ?_) o (old _ _ ho), others⟩
          obtain ⟨o1, _, _, ho1, _⟩ := I1.mod.glob.keeps I1.bk
          exact absurd (Heap.lt_size ho1) (by rw [List.mem_singleton.mp hb]; exact Nat.lt_irrefl _)
        exact wpAny_mono (test _ B EE n tn z m rfl I1.ok.glob names nl hm) (fun y z2 q => ⟨⟨n, hn, q.1⟩, q.2⟩) fun _ _ e => e
    · intro g h5 t5 gs bare gt sz5 keep5 walk at5
      simp only [GxR.passing_true, List.length_range] at walk
      refine done a H1 g _ r ⟨_, _, _, _, _, walk.in4_1, at5, fun j y z Y EE hy q => ?_, fun z mv => ?_⟩
      · obtain ⟨i, hij, n, hn, rfl⟩ := hy
        obtain ⟨lt, eij⟩ := List.getElem?_eq_some_iff.mp hij
        rw [List.getElem_range] at eij
        subst eij
        have at1 : a.cps.toList[j]? = some n := by
          rw [Array.getElem?_toList]
          exact hn
        have q2 : Y (trF pb a.cps.toList j) z := q
        rw [trF_some at1] at q2
        exact wpAny_truthy_bool q2
      · have away : ∀ b u, s1.heap.get? b = some u → b ∉ [h3.objs.size, s1.heap.objs.size] := fun b u e hb => by
          have lt := Heap.lt_size e
          rcases List.mem_cons.mp hb with z | z
          · rw [z] at lt
            exact absurd (Nat.lt_of_lt_of_le lt (Nat.le_succ _)) (Nat.not_lt_of_le big)
          · rw [List.mem_singleton.mp z] at lt
            exact Nat.lt_irrefl _ lt
        have J := inv_tab (more := qs) (h' := z.heap) (g' := z.gens) (d' := z.drawn) (t' := z.toks) I1 hP (fun b u n e => mv.heap b u (away b u e) (keep5 b u (keep b u n e)))
          (mv.heap P _ (away P _ tabAt) (keep5 P _ at3)) (AllBare.movedS (I1.bare.push bare) mv)
        rw [sh_eta s1 z mv.os] at J
        exact ⟨upd H1 P (.tbl (ps ++ qs)), ⟨⟨ps ++ qs, upd_same, trip3⟩, fun b hb => upd_ne hb⟩, J⟩
theorem pe_allG {c P : Addr} {elt iter : Expr} {x : Str} {px p pos gp : Pos} {scope : Scope} {pb : Nat → Bool} {te : TE} {k : Nat} (room : Room k X.A) (hg : Gl X "all") (hm : X.mg "all" = none) (hb : bootBuiltins "all" = some (.builtin "all"))
    (tab : TabB X.base X.mg c P) (code : X.env.code = .ref c) (own : GenS X.env scope x) (src : PE X iter te) (test : Test X.prog X.w X.mg scope x elt pb) (plain : ∀ v, genFold iter X.env v = pure v)
    (one : starEach [.GeneratorExp elt [⟨.Name x px, iter, [], 0⟩] scope gp] X.env = (false, eval (.GeneratorExp elt [⟨.Name x px, iter, [], 0⟩] scope gp) X.env) :: starEach [] X.env := by rfl) :
    PE X (.Call (.Name "all" p) [.GeneratorExp elt [⟨.Name x px, iter, [], 0⟩] scope gp] [] pos) (tAllS P pb te) := by
  refine ⟨fun pins s σ H Q I h => wpAny_Call_Name_kw (ld_blt I hg hm hb (PyProof.Rows.callWith_builtin1 ?_ one (by rfl)))⟩
  rw [one]
  show wpAny _ _ (spliced ((false, eval (.GeneratorExp elt [⟨.Name x px, iter, [], 0⟩] scope gp) X.env) :: backTo pos (starEach [] X.env))) _ _ s
  refine Calls.spliced_cons (gen_ready (R := fun a H1 => ∀ H2, Tabbed P H1 H2 → Q (.bl (a.cps.toList.all pb)) H2) room tab code own src test plain I h fun a H1 g z r ⟨fp, wr, G, F, Sg, W, begun, truth, inv⟩ => Calls.spliced_nil ?_)
  refine call_all_walkS (W.self 0 _ _ _ begun ⟨g, fp, wr, G, _, F, Sg, _, rfl, W, begun, truth, fun z2 mv => ?_⟩)
  obtain ⟨H2, tb, J⟩ := inv z2 mv
  exact ⟨.bl _, H2, J, rfl, by rw [all_signs a pb]; exact r H2 tb⟩
end
end Gx
set_option Elab.async false
set_option linter.all false
set_option maxRecDepth 100000
set_option maxHeartbeats 4000000
/-! The program's defs: is_word, is_leaf, has_form, is_made. -/
namespace Kf
open PySem PySem.Spec PyProof.Rows L2 Sx
abbrev sBeneath : Stmt := top 4
abbrev sWhole : Stmt := top 11
abbrev sWord : Stmt := top 12
abbrev sIsLeaf : Stmt := top 13
abbrev sForm : Stmt := top 14
abbrev sMade : Stmt := top 15
abbrev sTermQ : Stmt := top 16
abbrev sSayingQ : Stmt := top 18
abbrev sBodyQ : Stmt := top 19
theorem scBeneath : FnScope ["piece", "around"] ["piece", "around"] (defScope sBeneath) := ⟨rfl, rfl, rfl, by decide +kernel, rfl, by decide +kernel, by decide +kernel⟩
theorem scWhole : FnScope ["thing"] ["thing"] (defScope sWhole) := ⟨rfl, rfl, rfl, by decide +kernel, rfl, by decide +kernel, by decide +kernel⟩
theorem scWord : FnScope ["thing"] ["thing"] (defScope sWord) := ⟨rfl, rfl, rfl, by decide +kernel, rfl, by decide +kernel, by decide +kernel⟩
theorem scIsLeaf : FnScope ["piece", "bounds", "word", "part"] ["piece", "bounds"] (defScope sIsLeaf) := ⟨rfl, rfl, rfl, by decide +kernel, rfl, by decide +kernel, by decide +kernel⟩
theorem scForm : FnScope ["piece", "kind", "bounds", "made", "parts"] ["piece", "kind", "bounds"] (defScope sForm) := ⟨rfl, rfl, rfl, by decide +kernel, rfl, by decide +kernel, by decide +kernel⟩
theorem scMade : FnScope ["thing", "kind", "slack", "pieces", "todo", "piece", "due", "around", "within", "inner", "part", "part_due"] ["thing", "kind", "slack"] (defScope sMade) := ⟨rfl, rfl, rfl, by decide +kernel, rfl, by decide +kernel, by decide +kernel⟩
theorem scTermQ : FnScope ["thing"] ["thing"] (defScope sTermQ) := ⟨rfl, rfl, rfl, by decide +kernel, rfl, by decide +kernel, by decide +kernel⟩
theorem scSayingQ : FnScope ["thing"] ["thing"] (defScope sSayingQ) := ⟨rfl, rfl, rfl, by decide +kernel, rfl, by decide +kernel, by decide +kernel⟩
theorem scBodyQ : FnScope ["thing"] ["thing"] (defScope sBodyQ) := ⟨rfl, rfl, rfl, by decide +kernel, rfl, by decide +kernel, by decide +kernel⟩
abbrev abc : Str := "abcdefghijklmnopqrstuvwxyz"
abbrev kT : Str := "term"
abbrev kS : Str := "saying"
/-! ### well-made trees -/
def table : List (Str × Str × List Str) := [("next", kT, [kT]), ("plus", kT, [kT, kT]), ("times", kT, [kT, kT]), ("same", kS, [kT, kT]), ("no", kS, []), ("and", kS, [kS, kS]), ("or", kS, [kS, kS]), ("if", kS, [kS, kS]), ("all", kS, [kS]), ("some", kS, [kS])]
theorem table_leafy : ∀ e ∈ table, leafy e.1 = false := by decide +kernel
def Tr.Wf : Str → Tr → Prop
  | k, .leaf w x => k = kT ∧ ((w = "num" ∧ ∃ n : Int, x = .int n ∧ 0 ≤ n ∧ n < 10 ^ 60) ∨ (w = "name" ∧ x = .str "x"))
  | k, .n0 w => (w, k, []) ∈ table
  | k, .n1 w a => ∃ k1, (w, k, [k1]) ∈ table ∧ a.Wf k1
  | k, .n2 w a b => ∃ k1 k2, (w, k, [k1, k2]) ∈ table ∧ a.Wf k1 ∧ b.Wf k2
theorem wf_ok : ∀ {t : Tr} {k : Str}, t.Wf k → t.Ok
  | .leaf w x, k, h => by
    rcases h.2 with ⟨e, n, ex, _⟩ | ⟨e, ex⟩
    · subst e ex
      exact ⟨by decide +kernel, .inl ⟨⟨n, rfl⟩, by decide +kernel⟩⟩
    · subst e ex
      exact ⟨by decide +kernel, .inr ⟨⟨_, rfl⟩, rfl⟩⟩
  | .n0 w, k, h => table_leafy _ h
  | .n1 w a, k, ⟨k1, h, ha⟩ => ⟨table_leafy _ h, wf_ok ha⟩
  | .n2 w a b, k, ⟨k1, k2, h, ha, hb⟩ => ⟨table_leafy _ h, wf_ok ha, wf_ok hb⟩
/-- an inner piece's row in the table, its parts by their kinds -/
theorem wf_row {t : Tr} {k : Str} (h : t.Wf k) (nl : leafy t.word = false) : ∃ ks, (t.word, k, ks) ∈ table ∧ All2 (fun a k1 => Tr.Wf k1 a) t.kids ks := by
  cases t with
  | leaf w x => exact (no_leaf nl (wf_ok (t := .leaf w x) h).1).elim
  | n0 w => exact ⟨[], h, .nil⟩
  | n1 w a =>
    obtain ⟨k1, h1, ha⟩ := h
    exact ⟨[k1], h1, .one ha⟩
  | n2 w a b =>
    obtain ⟨k1, k2, h1, ha, hb⟩ := h
    exact ⟨[k1, k2], h1, .cons ha (.one hb)⟩
/-! ### what the top has -/
structure Txt (K : PySem.W.Frag) (w : World) (mg : Str → Option Value) (L B F : Addr) : Prop where
  mL : mg "LEAVES" = some (.ref L)
  mB : mg "BINDERS" = some (.ref B)
  mF : mg "FORMS" = some (.ref F)
  leaf : ∀ H, SqT K H L leafVs
  bind : ∀ H, SqT K H B bindVs
  dict : ∃ es n, KDict K w F es n
  form : ∀ wd k ks, (wd, k, ks) ∈ table → ∃ fa fb, PySem.W.nsIn K F wd = some (some (.ref fa)) ∧ (∀ H, SqT K H fa [.str k, .ref fb]) ∧ ∀ H, SqT K H fb (ks.map V.str)
  great : ∃ t, mg "TOO_GREAT" = some (.int (10 ^ 60) t)
  letters : ∃ t, mg "LETTERS" = some (.str abc t)
  most : ∃ t, mg "MOST_LETTERS" = some (.int 8 t)
  pieces : ∃ t, mg "MOST_PIECES" = some (.int 400 t)
  within : ∃ t, mg "MOST_WITHIN" = some (.int 60 t)
  zIs : mg "isinstance" = none
  zInt : mg "int" = none
  zBool : mg "bool" = none
  zStr : mg "str" = none
  zTuple : mg "tuple" = none
  zLen : mg "len" = none
  zAll : mg "all" = none
  zZip : mg "zip" = none
section
variable {P : Program} {w : World} {K : PySem.W.Frag} {mg : Str → Option Value} {base : Heap} {L B FV : Addr}
def spBeneath : Sp := fun vs H Q _ => ∃ (p : Addr) (wd : Str) (us : List V) (r : Nat), vs = [.ref p, .int (r : Int)] ∧ H p = some (.tup (.str wd :: us)) ∧ Q (.int (inner wd r : Nat)) H
theorem head_at (x : V) (us : List V) : atI (x :: us) 0 = some x := atI_nat (j := 0) rfl
theorem ok_beneath {f : Addr} {fd : FuncData} {j : Nat} (F : Fun K "beneath" "beneath" sBeneath f fd) (T : Txt K w mg L B FV) : FnOk P w K mg base CX0 (j + 1) f fd ["piece", "around"] spBeneath := by
  refine F.ok scBeneath (fun vs H Q E h => ?_) (fun cdv A outer s H vs Q E hr h => ?_)
  · obtain ⟨p, wd, us, r, rfl, _⟩ := h
    rfl
  obtain ⟨p, wd, us, r, rfl, hp, q⟩ := h
  refine ⟨_, pss_one (ps_ret (pe_ifExp (pt_cmpR op_in_seq (pe_ix ix_tup (pv 0) pe_int (fun _ _ => rfl)) (pe_glob (v := .ref B) (by rfl) T.mB rfl) (by rfl)) (pe_op op_add (pv 1) pe_int) (pv 1))), ?_⟩
  refine ⟨_, rfl, p, _, 0, _, rfl, rfl, .inl (.inl hp), head_at _ _, B, bindVs, rfl, .inr (T.bind H), rfl, rfl, _, rfl, ?_⟩
  show if binds wd = true then _ else _
  unfold inner at q
  by_cases c : binds wd = true
  · rw [if_pos c] at q ⊢
    exact ⟨_, rfl, _, _, rfl, rfl, q⟩
  · rw [if_neg c] at q ⊢
    exact ⟨_, rfl, q⟩
/-! ### is_whole, of numbers -/
def spWhole : Sp := fun vs H Q _ => ∃ n : Int, vs = [.int n] ∧ Q (.bl true) H
theorem ok_whole {f : Addr} {fd : FuncData} {j : Nat} (F : Fun K "is_whole" "is_whole" sWhole f fd) (T : Txt K w mg L B FV) : FnOk P w K mg base CX0 (j + 1) f fd ["thing"] spWhole := by
  refine F.ok scWhole (fun vs H Q E h => ?_) (fun cdv A outer s H vs Q E hr h => ?_)
  · obtain ⟨n, rfl, _⟩ := h
    rfl
  obtain ⟨n, rfl, q⟩ := h
  refine ⟨_, pss_one (ps_ret (pe_and (pe_callB call_isi (by rfl) T.zIs (by decide +kernel) (pa_cons (pv 0) (pa_cons (pe_bltn (v := .ty "int") (by rfl) T.zInt (by decide +kernel) rfl) pa_nil)))
    (pe_one (pe_not (pe_callB call_isi (by rfl) T.zIs (by decide +kernel) (pa_cons (pv 0) (pa_cons (pe_bltn (v := .ty "bool") (by rfl) T.zBool (by decide +kernel) rfl) pa_nil))))))), ?_⟩
  refine ⟨_, rfl, _, _, _, _, true, rfl, .ty "int", .base (.int n), kit_ty (by decide +kernel), _, rfl, ?_⟩
  refine iteT ⟨_, rfl, _, _, _, _, false, rfl, .ty "bool", .base (.int n), kit_ty (by decide +kernel), _, rfl, ?_⟩
  exact q
/-! ### is_word, of "x" -/
def spWord (PT : Addr) : Sp := fun vs H Q _ => vs = [.str "x"] ∧ GxR.TabG H PT ∧ ∀ H', GxR.Tabbed PT H H' → Q (.bl true) H'
theorem genS {env : Env} {sc : Scope} {x : Str} (h1 : sc.kind = .function) (h2 : sc.isCoroutine = false) (h3 : sc.names.all (fun y => decide (y.2 ≠ .cell) && decide (y.2 ≠ .free)) = true) (h4 : sc.names.lookup (".0" : Str) = some NameKind.local) (h5 : sc.names.lookup x = some .local) : GxR.GenS env sc x := by
  have all := List.all_eq_true.mp h3
  refine ⟨h1, h2, fun y hy => ?_, h4, h5, fun y hy e => ?_⟩
  · have q := all y hy
    rw [Bool.and_eq_true, decide_eq_true_eq, decide_eq_true_eq] at q
    exact q.1
  · have q := all y hy
    rw [Bool.and_eq_true, decide_eq_true_eq, decide_eq_true_eq] at q
    exact absurd e q.2
theorem ok_word {f c PT : Addr} {oc kV dc pm ct : Value} {od an : Option Addr} {osl : Array (Option Value)} {j : Nat}
    (lk : K.lookup f = some ⟨oc, od, .func (PySem.W.fnOf "is_word" "is_word" (defArgs sWord) (defBody sWord) (defScope sWord) .none kV dc pm an (.ref c) ct), osl⟩) (hcd : PySem.W.codeIn K (.ref c) "is_word" = true) (T : Txt K w mg L B FV) (tab : GxR.TabB base mg c PT) :
    FnOk P w K mg base CX0 (j + 2) f (PySem.W.fnOf "is_word" "is_word" (defArgs sWord) (defBody sWord) (defScope sWord) .none kV dc pm an (.ref c) ct) ["thing"] (spWord PT) := by
  obtain ⟨tl, mLt⟩ := T.letters
  obtain ⟨tm, mM⟩ := T.most
  refine fn_of lk hcd scWord (fun vs H Q E h => ?_) fun A outer s H vs Q E hr h => ?_
  · obtain ⟨rfl, _⟩ := h
    rfl
  obtain ⟨rfl, hT, q⟩ := h
  refine ⟨_, pss_cons (ps_if (PW.pt (pw_or (pt_not (pt_val (pe_callB call_isi (by rfl) T.zIs (by decide +kernel) (pa_cons (pv 0) (pa_cons (pe_bltn (v := .ty "str") (by rfl) T.zStr (by decide +kernel) rfl) pa_nil)))))
      (pw_or1 (pt_not (pt_chain op_le op_le pe_int (pe_callB call_len_str (by rfl) T.zLen PySem.boot_len (pa_cons (pv 0) pa_nil)) (pe_glob (v := .int 8) (by rfl) mM ⟨_, rfl⟩)))))) (pss_one (ps_ret pe_bl)) pss_nil)
    (pss_one (ps_ret (Gx.pe_allG hr (by rfl) T.zAll (by decide +kernel) tab rfl (genS rfl rfl (by decide +kernel) (by decide +kernel) (by decide +kernel)) (pv 0) (Gx.test_in rfl (by decide +kernel) (by decide +kernel) mLt) (fun _ => rfl)))), ?_⟩
  have l1 : decide ((1 : Int) ≤ (((Str.ofString "x").length : Nat) : Int)) = true := by decide +kernel
  have l2 : decide ((((Str.ofString "x").length : Nat) : Int) ≤ 8) = true := by decide +kernel
  have l3 : (Str.ofString "x").cps.toList.all (Gx.among abc) = true := by decide +kernel
  refine ⟨_, rfl, _, _, _, _, true, rfl, .ty "str", .base (.str _), kit_ty (by decide +kernel), _, rfl, ?_⟩
  refine iteF ?_
  refine ⟨_, rfl, _, rfl, (by decide +kernel), _, _, rfl, rfl, _, rfl, ?_⟩
  rw [l1]
  refine iteT ⟨_, _, rfl, rfl, _, rfl, ?_⟩
  rw [l2]
  refine iteF ?_
  refine ⟨_, rfl, _, rfl, hT, fun H2 tb => ?_⟩
  rw [l3]
  exact q H2 tb
/-! ### is_leaf -/
/-- what stands in a leaf of ours -/
def LeafP (wd : Str) (x : V) : Prop := (wd = "num" ∧ ∃ n : Int, x = .int n ∧ 0 ≤ n ∧ n < 10 ^ 60) ∨ (wd = "name" ∧ x = .str "x")
def spIsLeaf (PT : Addr) : Sp := fun vs H Q _ => ∃ (p : Addr) (wd : Str) (x : V) (r : Int), vs = [.ref p, .int r] ∧ H p = some (.tup [.str wd, x]) ∧ LeafP wd x ∧ GxR.TabG H PT ∧ ∀ H', GxR.Tabbed PT H H' → Q (.bl true) H'
theorem tabbed_refl {PT : Addr} {H : Hp} (h : GxR.TabG H PT) : GxR.Tabbed PT H H := ⟨h, fun _ _ => rfl⟩
theorem ok_isleaf {f fw fq : Addr} {fd dw dq : FuncData} {PT : Addr} (F : Fun K "is_leaf" "is_leaf" sIsLeaf f fd) (T : Txt K w mg L B FV)
    (W : FnOk P w K mg base CX0 2 fw dw ["thing"] (spWord PT)) (bW : Binds K dw ["thing"] []) (kW : PySem.W.keepIn K (.ref fw) = true) (mW : mg "is_word" = some (.ref fw))
    (I : FnOk P w K mg base CX0 1 fq dq ["thing"] spWhole) (bI : Binds K dq ["thing"] []) (kI : PySem.W.keepIn K (.ref fq) = true) (mI : mg "is_whole" = some (.ref fq)) : FnOk P w K mg base CX0 3 f fd ["piece", "bounds"] (spIsLeaf PT) := by
  obtain ⟨tg, mG⟩ := T.great
  refine F.ok scIsLeaf (fun vs H Q E h => ?_) (fun cdv A outer s H vs Q E hr h => ?_)
  · obtain ⟨p, wd, x, r, rfl, _⟩ := h
    rfl
  obtain ⟨p, wd, x, r, rfl, hp, hl, hT, q⟩ := h
  have h1 : Room 1 _ := hr.mono (by decide)
  refine ⟨_, pss_cons (ps_if (pt_cmpR op_ne (pe_callB call_len_seq (by rfl) T.zLen PySem.boot_len (pa_cons (pv 0) pa_nil)) pe_int (nomark _)) (pss_one (ps_ret pe_bl)) pss_nil)
    (pss_cons (ps_asg (pv 0) (pg_tup (by rfl) (pgs_cons (pg_name (i := 2) scIsLeaf.nd rfl (.inl rfl)) (pgs_cons (pg_name (i := 3) scIsLeaf.nd rfl (.inl rfl)) pgs_nil))))
    (pss_cons (ps_if (pt_cmpR op_eq (pv 2) pe_str (nomark _)) (pss_one (ps_ret (pe_call W hr (by rfl) mW kW bW .nil pass0 (pa_cons (pv 3) pa_nil)))) pss_nil)
    (pss_cons (ps_if (PW.pt (pw_or (pt_not (pt_val (pe_call I h1 (by rfl) mI kI bI .nil pass0 (pa_cons (pv 3) pa_nil)))) (pw_or1 (pt_cmpR op_lt (pv 3) pe_int (nomark _))))) (pss_one (ps_ret pe_bl)) pss_nil)
    (pss_one (ps_ret (pe_cmpR op_lt (pv 3) (pe_ifExp (pt_cmpR op_eq (pv 2) pe_str (nomark _)) (pe_glob (v := .int (10 ^ 60)) (by rfl) mG ⟨_, rfl⟩) (pv 1)) (nomark _))))))), ?_⟩
  refine ⟨_, rfl, p, _, rfl, .inr (.inl (.inl hp)), rfl, _, rfl, ?_⟩
  refine iteF ?_
  refine ⟨_, rfl, p, [.str wd, x], rfl, .inl (.inl hp), rfl, .str wd, [x], rfl, x, [], rfl, rfl, ?_⟩
  refine ⟨_, rfl, rfl, _, rfl, ?_⟩
  rcases hl with ⟨rfl, n, rfl, n0, n1⟩ | ⟨rfl, rfl⟩
  · rw [show decide (V.str "num" = V.str "name") = false by decide +kernel]
    refine iteF ?_
    refine ⟨_, rfl, n, rfl, _, rfl, ?_⟩
    refine iteF ?_
    refine ⟨_, rfl, _, _, rfl, rfl, _, rfl, ?_⟩
    rw [show decide (n < 0) = false from decide_eq_false (by omega)]
    refine iteF ?_
    refine ⟨_, rfl, _, rfl, rfl, _, rfl, ?_⟩
    rw [show decide (V.str "num" = V.str "num") = true from decide_eq_true rfl]
    refine iteT ⟨_, _, rfl, rfl, ?_⟩
    show Q (.bl (decide (n < 10 ^ 60))) H
    rw [decide_eq_true n1]
    exact q H (tabbed_refl hT)
  · rw [show decide (V.str "name" = V.str "name") = true from decide_eq_true rfl]
    exact iteT ⟨_, rfl, rfl, hT, q⟩
/-! ### has_form -/
def spForm (PT : Addr) : Sp := fun vs H Q _ => ∃ (v : V) (k : Str) (r : Int) (t : Tr), vs = [v, .str k, .int r] ∧ At H t v ∧ t.Wf k ∧ GxR.TabG H PT ∧ ∀ H', GxR.Tabbed PT H H' → Q (.bl true) H'
theorem ok_form {f g : Addr} {fd gd : FuncData} {PT : Addr} (F : Fun K "has_form" "has_form" sForm f fd) (T : Txt K w mg L B FV) (G : FnOk P w K mg base CX0 3 g gd ["piece", "bounds"] (spIsLeaf PT)) (bG : Binds K gd ["piece", "bounds"] []) (kG : PySem.W.keepIn K (.ref g) = true) (mG : mg "is_leaf" = some (.ref g)) :
    FnOk P w K mg base CX0 4 f fd ["piece", "kind", "bounds"] (spForm PT) := by
  obtain ⟨es, n, D⟩ := T.dict
  refine F.ok scForm (fun vs H Q E h => ?_) (fun cdv A outer s H vs Q E hr h => ?_)
  · obtain ⟨v, k, r, t, rfl, _⟩ := h
    rfl
  obtain ⟨v, k, r, t, rfl, hA, hW, hT, q⟩ := h
  have ok := wf_ok hW
  refine ⟨_, pss_cons (ps_if (PW.pt (pw_or (pt_not (pt_val (pe_callB call_isi (by rfl) T.zIs (by decide +kernel) (pa_cons (pv 0) (pa_cons (pe_bltn (v := .ty "tuple") (by rfl) T.zTuple (by decide +kernel) rfl) pa_nil)))))
      (pw_or (pt_cmpR op_eq (pe_callB call_len_seq (by rfl) T.zLen PySem.boot_len (pa_cons (pv 0) pa_nil)) pe_int (nomark _))
      (pw_or1 (pt_not (pt_val (pe_callB call_isi (by rfl) T.zIs (by decide +kernel) (pa_cons (pe_ix ix_tup (pv 0) pe_int (fun _ _ => rfl)) (pa_cons (pe_bltn (v := .ty "str") (by rfl) T.zStr (by decide +kernel) rfl) pa_nil)))))))))
      (pss_one (ps_ret pe_bl)) pss_nil)
    (pss_cons (ps_if (pt_cmpR op_in_seq (pe_ix ix_tup (pv 0) pe_int (fun _ _ => rfl)) (pe_glob (v := .ref L) (by rfl) T.mL rfl) (by rfl))
      (pss_one (ps_ret (pe_and (pe_cmpR op_eq (pv 1) pe_str (nomark _)) (pe_one (pe_call G hr (by rfl) mG kG bG .nil pass0 (pa_cons (pv 0) (pa_cons (pv 2) pa_nil))))))) pss_nil)
    (pss_cons (ps_if (pt_cmpR (op_notIn_kd D) (pe_ix ix_tup (pv 0) pe_int (fun _ _ => rfl)) (pe_glob (v := .ref FV) (by rfl) T.mF rfl) (by rfl)) (pss_one (ps_ret pe_bl)) pss_nil)
    (pss_cons (ps_asg (pe_ix ix_kdict (pe_glob (v := .ref FV) (by rfl) T.mF rfl) (pe_ix ix_tup (pv 0) pe_int (fun _ _ => rfl)) (fun _ _ => rfl)) (pg_tup (by rfl) (pgs_cons (pg_name (i := 3) scForm.nd rfl (.inl rfl)) (pgs_cons (pg_name (i := 4) scForm.nd rfl (.inl rfl)) pgs_nil))))
    (pss_one (ps_ret (pe_and (pe_cmpR op_eq (pv 3) (pv 1) (nomark _)) (pe_one (pe_cmpR op_eq (pe_callB call_len_seq (by rfl) T.zLen PySem.boot_len (pa_cons (pv 0) pa_nil))
      (pe_op op_add (pe_callB call_len_seq (by rfl) T.zLen PySem.boot_len (pa_cons (pv 4) pa_nil)) pe_int) (nomark _))))))))), ?_⟩
  obtain ⟨p, us, rfl, hp, _, kids, leafs⟩ := hA.view ok
  have hq : SqT K H p (.str t.word :: us) := .inl (.inl hp)
  refine ⟨_, rfl, _, _, _, _, true, rfl, .ty "tuple", .base (.tup hp), kit_ty (by decide +kernel), _, rfl, ?_⟩
  refine iteF ?_
  refine ⟨_, rfl, p, _, rfl, .inr hq, rfl, _, rfl, ?_⟩
  rw [show decide (V.int (((V.str t.word :: us).length : Nat) : Int) = V.int 0) = false from decide_eq_false (fun z => by injection z with z; rw [List.length_cons] at z; omega)]
  refine iteF ?_
  refine ⟨_, rfl, p, _, 0, _, rfl, rfl, hq, head_at _ _, _, _, _, _, true, rfl, .ty "str", .base (.str _), kit_ty (by decide +kernel), _, rfl, ?_⟩
  refine iteF ?_
  refine ⟨_, rfl, p, _, 0, _, rfl, rfl, hq, head_at _ _, L, leafVs, rfl, .inr (T.leaf H), rfl, rfl, _, rfl, ?_⟩
  show if leafy t.word = true then _ else _
  by_cases hl : leafy t.word = true
  · rw [if_pos hl]
    obtain ⟨x, et, eu⟩ := leafs hl
    rw [et] at hW
    obtain ⟨ek, lp⟩ := hW
    subst ek
    refine ⟨_, rfl, rfl, _, rfl, ?_⟩
    rw [show decide (V.str kT = V.str "term") = true from decide_eq_true rfl]
    exact iteT ⟨_, rfl, _, rfl, p, t.word, x, r, rfl, by rw [← eu]; exact hp, lp, hT, q⟩
  · rw [if_neg hl]
    have nl : leafy t.word = false := Bool.eq_false_iff.mpr hl
    obtain ⟨ks, row, pr⟩ := wf_row hW nl
    obtain ⟨fa, fb, e1, e2, e3⟩ := T.form _ _ _ row
    have len : us.length = ks.length := (kids nl).len.symm.trans pr.len
    refine ⟨_, rfl, p, _, 0, _, rfl, rfl, hq, head_at _ _, _, _, rfl, rfl, e1, _, rfl, ?_⟩
    refine iteF ?_
    refine ⟨_, rfl, p, _, 0, _, rfl, rfl, hq, head_at _ _, FV, _, .ref fa, rfl, rfl, ⟨es, n, _, D.at_, D.lit, e1, rfl⟩, ?_⟩
    refine ⟨fa, _, rfl, e2 H, rfl, .str k, [.ref fb], rfl, .ref fb, [], rfl, rfl, ?_⟩
    refine ⟨_, rfl, _, rfl, rfl, _, rfl, ?_⟩
    rw [show decide (V.str k = V.str k) = true from decide_eq_true rfl]
    refine iteT ?_
    refine ⟨_, rfl, p, _, rfl, .inr hq, _, rfl, fb, _, rfl, .inr (e3 H), _, _, rfl, rfl, rfl, ?_⟩
    have e : decide (V.int (((V.str t.word :: us).length : Nat) : Int) = V.int (((ks.map V.str).length : Nat) + 1)) = true := decide_eq_true (by rw [List.length_cons, List.length_map, len]; rfl)
    show Q (.bl (decide (V.int (((V.str t.word :: us).length : Nat) : Int) = V.int (((ks.map V.str).length : Nat) + 1)))) H
    rw [e]
    exact q H (tabbed_refl hT)
end
end Kf
set_option Elab.async false
set_option linter.all false
set_option maxRecDepth 100000
set_option maxHeartbeats 4000000
/-! is_made. -/
namespace Kf
open PySem PySem.Spec PyProof.Rows L2 Sx RZ
structure Ent where
  t : Tr
  k : Str
  r : Nat
  d : Nat
def EntAt (H : Hp) (e : Ent) (v : V) : Prop := ∃ q x, v = .ref q ∧ H q = some (.tup [x, .str e.k, .int (e.r : Int), .int (e.d : Int)]) ∧ At H e.t x
theorem EntAt.keep {H H' : Hp} (k : Tups H H') (e : Ent) (v : V) (h : EntAt H e v) : EntAt H' e v := by
  obtain ⟨q, x, e1, e2, a⟩ := h
  exact ⟨q, x, e1, k _ _ e2, a.keep k⟩
def sum (es : List Ent) : Nat := (es.map fun e => e.t.size).sum
theorem sum_app (a b : List Ent) : sum (a ++ b) = sum a + sum b := by
  unfold sum
  rw [List.map_append, List.sum_append]
theorem size_pos : ∀ t : Tr, 1 ≤ t.size
  | .leaf _ _ => Nat.le_refl 1
  | .n0 _ => Nat.le_refl 1
  | .n1 _ _ => Nat.le_add_left 1 _
  | .n2 _ _ _ => Nat.le_add_left 1 _
theorem deep_pos : ∀ t : Tr, 1 ≤ t.deep
  | .leaf _ _ => Nat.le_refl 1
  | .n0 _ => Nat.le_refl 1
  | .n1 _ _ => Nat.le_add_left 1 _
  | .n2 _ _ _ => Nat.le_add_left 1 _
theorem sum_len (es : List Ent) : es.length ≤ sum es := by
  induction es with
  | nil => exact Nat.zero_le _
  | cons e es ih =>
    have h := size_pos e.t
    have e1 : sum (e :: es) = e.t.size + sum es := by
      unfold sum
      rw [List.map_cons, List.sum_cons]
    rw [e1, List.length_cons]
    omega
/-- still to be let by -/
def Good (c : Nat) (es : List Ent) : Prop := c + sum es ≤ 400 ∧ ∀ e ∈ es, e.d + e.t.deep ≤ 61
def ents (ts : List Tr) (ks : List Str) (r d : Nat) : List Ent := (ts.zip ks).map fun p => ⟨p.1, p.2, r, d⟩
theorem ents_sum (r d : Nat) : ∀ (ts : List Tr) (ks : List Str), ts.length = ks.length → sum (ents ts ks r d) = (ts.map Tr.size).sum
  | [], [], _ => rfl
  | t :: ts, k :: ks, h => by
    have e1 : sum (ents (t :: ts) (k :: ks) r d) = t.size + sum (ents ts ks r d) := rfl
    rw [e1, ents_sum r d ts ks (by simpa using h), List.map_cons, List.sum_cons]
  | [], _ :: _, h => by simp at h
  | _ :: _, [], h => by simp at h
theorem size_kids (t : Tr) : t.size = 1 + (t.kids.map Tr.size).sum := by
  cases t with
  | leaf w x => rfl
  | n0 w => rfl
  | n1 w a => simp [Tr.size, Tr.kids, Nat.add_comm]
  | n2 w a b => simp [Tr.size, Tr.kids, Nat.add_comm]
theorem deep_kids (t : Tr) (n : Nat) : t.deep ≤ n + 1 ↔ ∀ a ∈ t.kids, a.deep ≤ n := by
  cases t with
  | leaf w x => exact ⟨fun _ a h => (List.not_mem_nil h).elim, fun _ => Nat.le_add_left 1 n⟩
  | n0 w => exact ⟨fun _ a h => (List.not_mem_nil h).elim, fun _ => Nat.le_add_left 1 n⟩
  | n1 w a =>
    refine ⟨fun h c hc => ?_, fun h => Nat.succ_le_succ (h a (List.mem_singleton.mpr rfl))⟩
    rw [List.mem_singleton.mp hc]
    exact Nat.le_of_succ_le_succ h
  | n2 w a b =>
    refine ⟨fun h c hc => ?_, fun h => Nat.succ_le_succ (Nat.max_le.mpr ⟨h a List.mem_cons_self, h b (List.mem_cons_of_mem _ (List.mem_singleton.mpr rfl))⟩)⟩
    have h2 := Nat.max_le.mp (Nat.le_of_succ_le_succ h)
    rcases List.mem_cons.mp hc with z | z
    · rw [z]
      exact h2.1
    · rw [List.mem_singleton.mp z]
      exact h2.2
theorem good_step {c d r : Nat} {es : List Ent} {t : Tr} {k : Str} {ks : List Str} {r2 : Nat} (hd : d ≤ 60) (hl : t.kids.length = ks.length) : Good c (es ++ [⟨t, k, r, d⟩]) ↔ Good (c + 1) (es ++ ents t.kids ks r2 (d + 1)) := by
  have s1 : sum [(⟨t, k, r, d⟩ : Ent)] = t.size := by
    unfold sum
    simp
  unfold Good
  rw [sum_app, sum_app, s1, ents_sum r2 (d + 1) _ _ hl, size_kids t]
  have dd : d + t.deep ≤ 61 ↔ ∀ a ∈ t.kids, d + 1 + a.deep ≤ 61 := by
    have q := deep_kids t (60 - d)
    constructor
    · intro h a ha
      have := q.1 (by omega) a ha
      omega
    · intro h
      have := q.2 (fun a ha => by have := h a ha; omega)
      omega
  constructor
  · rintro ⟨h1, h2⟩
    refine ⟨by omega, fun e he => ?_⟩
    rcases List.mem_append.mp he with z | z
    · exact h2 e (List.mem_append.mpr (.inl z))
    · obtain ⟨p, hp, rfl⟩ := List.mem_map.mp z
      exact dd.1 (h2 ⟨t, k, r, d⟩ (List.mem_append.mpr (.inr (List.mem_singleton.mpr rfl)))) p.1 (List.of_mem_zip hp).1
  · rintro ⟨h1, h2⟩
    refine ⟨by omega, fun e he => ?_⟩
    rcases List.mem_append.mp he with z | z
    · exact h2 e (List.mem_append.mpr (.inl z))
    · rw [List.mem_singleton.mp z]
      refine dd.2 fun a ha => ?_
      obtain ⟨i, hi, ea⟩ := List.getElem_of_mem ha
      have hk : i < ks.length := by omega
      have mz : (a, ks[i]) ∈ t.kids.zip ks := by
        rw [← ea]
        have : (t.kids.zip ks)[i]? = some (t.kids[i], ks[i]) := by
          rw [List.getElem?_eq_getElem (by rw [List.length_zip]; omega), List.getElem_zip]
        exact List.mem_of_getElem? this
      exact h2 ⟨a, ks[i], r2, d + 1⟩ (List.mem_append.mpr (.inr (List.mem_map.mpr ⟨_, mz, rfl⟩)))
theorem good_out {c d r : Nat} {es : List Ent} {t : Tr} {k : Str} (h : Good c (es ++ [⟨t, k, r, d⟩])) : c + 1 ≤ 400 ∧ d ≤ 60 := by
  obtain ⟨h1, h2⟩ := h
  have s1 : sum [(⟨t, k, r, d⟩ : Ent)] = t.size := by
    unfold sum
    simp
  rw [sum_app, s1] at h1
  have p1 := size_pos t
  have p2 := deep_pos t
  have h3 := h2 ⟨t, k, r, d⟩ (List.mem_append.mpr (.inr (List.mem_singleton.mpr rfl)))
  have h4 : d + t.deep ≤ 61 := h3
  omega
theorem cut_one (x : V) (r : List V) : cutV (x :: r) (some 1) none = r := by
  unfold cutV
  have e1 : HT.sIx (x :: r).length 0 (some 1) = 1 := by
    rw [show HT.sIx (x :: r).length 0 (some 1) = min 1 (x :: r).length from HT.sIx_nat _ 0 1, List.length_cons]
    omega
  rw [e1, HT.sIx_none]
  show List.take ((x :: r).length - 1) r = r
  rw [List.length_cons, Nat.add_sub_cancel]
  exact List.take_length
theorem cut_not (x : V) (r : List V) : ¬ (HT.sIx (x :: r).length 0 (some 1) = 0 ∧ HT.sIx (x :: r).length (x :: r).length none = (x :: r).length) := by
  intro h
  have e1 : HT.sIx (x :: r).length 0 (some 1) = 1 := by
    rw [show HT.sIx (x :: r).length 0 (some 1) = min 1 (x :: r).length from HT.sIx_nat _ 0 1, List.length_cons]
    omega
  rw [e1] at h
  exact absurd h.1 (by decide)
theorem line_of {n : Nat} (h : n ≤ 8192) : n < sizeLine := Nat.lt_of_le_of_lt h (by decide)
theorem tbl_tups {PT : Addr} {H H' : Hp} (h : GxR.TabG H PT) (b : But PT H H') : Tups H H' := fun c xs e => b c _ (fun z => by
  obtain ⟨ps, h1, _⟩ := h
  rw [z, h1] at e
  cases e) e
theorem but_tabbed {PT : Addr} {H H' : Hp} (t : GxR.Tabbed PT H H') : But PT H H' := fun c o n e => by
  rw [t.2 c n]
  exact e
theorem TabG.ne {PT p : Addr} {H : Hp} {o : HO} (h : GxR.TabG H PT) (e : H p = some o) (n : ∀ ps, o ≠ .tbl ps) : p ≠ PT := fun z => by
  obtain ⟨ps, h1, _⟩ := h
  rw [← z, e] at h1
  exact n ps (Option.some.inj h1)
theorem TabG.new {PT p : Addr} {H : Hp} (h : GxR.TabG H PT) (e : H p = none) : PT ≠ p := fun z => by
  obtain ⟨ps, h1, _⟩ := h
  rw [z, e] at h1
  cases h1
theorem TabG.keep {PT p : Addr} {H : Hp} {o : HO} (h : GxR.TabG H PT) (n : PT ≠ p) : GxR.TabG (upd H p o) PT := by
  obtain ⟨ps, h1, h2⟩ := h
  exact ⟨ps, by rw [upd_ne n]; exact h1, h2⟩
section
variable {P : Program} {w : World} {K : PySem.W.Frag} {mg : Str → Option Value} {base : Heap} {L B FV : Addr}
def spMade (PT : Addr) : Sp := fun vs H Q _ => ∃ (v : V) (k : Str) (s : Int) (t : Tr), vs = [v, .str k, .int s] ∧ At H t v ∧ t.Wf k ∧ t.size ≤ 4000 ∧ GxR.TabG H PT ∧
  ∀ H', But PT H H' → GxR.TabG H' PT → Q (.bl (decide (t.size ≤ 400 ∧ t.deep ≤ 60))) H'
structure Turn (PT : Addr) (H H' : Hp) (pt : Addr) (t : Tr) (c m : Nat) (es : List Ent) (vt : List V) : Prop where
  but : But PT H H'
  tab : GxR.TabG H' PT
  lt : H' pt = some (.lst vt)
  rt : All2 (EntAt H') es vt
  wf : ∀ e ∈ es, e.t.Wf e.k
  good : Good c es ↔ (t.size ≤ 400 ∧ t.deep ≤ 60)
  tot : c + sum es = t.size
  few : c ≤ 400
  m : m = sum es
theorem ok_made {f g b : Addr} {fd gd bd : FuncData} {PT : Addr} (F : Fun K "is_made" "is_made" sMade f fd) (T : Txt K w mg L B FV)
    (G : FnOk P w K mg base CX0 4 g gd ["piece", "kind", "bounds"] (spForm PT)) (bG : Binds K gd ["piece", "kind", "bounds"] []) (kG : PySem.W.keepIn K (.ref g) = true) (mG : mg "has_form" = some (.ref g))
    (N : FnOk P w K mg base CX0 1 b bd ["piece", "around"] spBeneath) (bN : Binds K bd ["piece", "around"] []) (kN : PySem.W.keepIn K (.ref b) = true) (mN : mg "beneath" = some (.ref b)) : FnOk P w K mg base CX0 5 f fd ["thing", "kind", "slack"] (spMade PT) := by
  obtain ⟨es0, n0, D⟩ := T.dict
  obtain ⟨tp, mP⟩ := T.pieces
  obtain ⟨tw, mW⟩ := T.within
  refine F.ok scMade (fun vs H Q E h => ?_) (fun cdv A outer s H vs Q E hr h => ?_)
  · obtain ⟨v, k, s, t, rfl, _⟩ := h
    rfl
  obtain ⟨v, k, sl, t, rfl, hA, hW, hsz, hT, q⟩ := h
  have h1 : Room 1 _ := hr.mono (by decide)
  refine ⟨_, pss_cons (ps_set (i := 3) scMade.nd rfl (.inl rfl) pe_int)
    (pss_cons (ps_set (i := 4) scMade.nd rfl (.inl rfl) (pe_lst (pa_cons (pe_tup (pa_cons (pv 0) (pa_cons (pv 1) (pa_cons pe_int (pa_cons pe_int pa_nil))))) pa_nil)))
    (pss_cons (ps_while PassesOwn.never (pt_truth (pv 4) (by intro _; rfl))
      (pss_cons (ps_asg (pe_bm0 PySem.F.plainAttrs_list PySem.F.slot_list_pop PySem.F.type_list_pop mt_pop (pv 4)) (pg_tup (by rfl) (pgs_cons (pg_name (i := 5) scMade.nd rfl (.inl rfl)) (pgs_cons (pg_name (i := 6) scMade.nd rfl (.inl rfl)) (pgs_cons (pg_name (i := 7) scMade.nd rfl (.inl rfl)) (pgs_cons (pg_name (i := 8) scMade.nd rfl (.inl rfl)) pgs_nil))))))
      (pss_cons (ps_aug (i := 3) scMade.nd rfl (.inl rfl) pe_int ip_add)
      (pss_cons (ps_if (PW.pt (pw_or (pt_cmpR op_gt (pv 3) (pe_glob (v := .int 400) (by rfl) mP ⟨_, rfl⟩) (nomark _)) (pw_or1 (pt_cmpR op_gt (pv 8) (pe_glob (v := .int 60) (by rfl) mW ⟨_, rfl⟩) (nomark _))))) (pss_one (ps_ret pe_bl)) pss_nil)
      (pss_cons (ps_if (pt_not (pt_val (pe_call G hr (by rfl) mG kG bG .nil pass0 (pa_cons (pv 5) (pa_cons (pv 6) (pa_cons (pe_op op_add (pv 7) (pv 2)) pa_nil)))))) (pss_one (ps_ret pe_bl)) pss_nil)
      (pss_one (ps_if (pt_cmpR op_notIn_seq (pe_ix ix_tup (pv 5) pe_int (fun _ _ => rfl)) (pe_glob (v := .ref L) (by rfl) T.mL rfl) (by rfl))
        (pss_cons (ps_set (i := 9) scMade.nd rfl (.inl rfl) (pe_call N h1 (by rfl) mN kN bN .nil pass0 (pa_cons (pv 5) (pa_cons (pv 7) pa_nil))))
        (pss_one (ps_for PassesOwn.never rfl (pi_zipA (by rfl) T.zZip (pa_cons (pe_slice sl_tup (pv 5) (po_some pe_int) po_none) (pa_cons (pe_ix ix_tup (pe_ix ix_kdict (pe_glob (v := .ref FV) (by rfl) T.mF rfl) (pe_ix ix_tup (pv 5) pe_int (fun _ _ => rfl)) (fun _ _ => rfl)) pe_int (fun _ _ => rfl)) pa_nil)))
          (pg_tup (by rfl) (pgs_cons (pg_name (i := 10) scMade.nd rfl (.inl rfl)) (pgs_cons (pg_name (i := 11) scMade.nd rfl (.inl rfl)) pgs_nil)))
          (pss_one (ps_expr (pe_bm PySem.F.plainAttrs_list PySem.F.slot_list_append PySem.F.type_list_append mt_append (pv 4) (pa_cons (pe_tup (pa_cons (pv 10) (pa_cons (pv 11) (pa_cons (pv 9) (pa_cons (pe_op op_add (pv 8) pe_int) pa_nil))))) pa_nil)))))))
        pss_nil)))))))
    (pss_one (ps_ret pe_bl)))), ?_⟩
  refine ⟨_, rfl, _, rfl, (by show 4 ≤ sizeLine; decide), fun q0 nq => ?_⟩
  refine ⟨(by show 1 ≤ sizeLine; decide), fun pt nt => ?_⟩
  have s1 : Same H (upd H q0 (.tup [v, .str k, .int 0, .int 1])) := same_new nq
  have s2 := same_put (o := .lst [.ref q0]) s1 nt
  have fresh : H pt = none := s1.free nt
  have nqt : q0 ≠ pt := fun z => by
    rw [← z, upd_same] at nt
    cases nt
  have tab0 : GxR.TabG (upd (upd H q0 (.tup [v, .str k, .int 0, .int 1])) pt (.lst [.ref q0])) PT := by
    obtain ⟨ps, e1, e2⟩ := hT
    exact ⟨ps, s2 _ _ e1, e2⟩
  refine ⟨fun m σ H' => ∃ (c : Nat) (es : List Ent) (vt : List V) (y5 y6 y7 y8 y9 y10 y11 : Option V), σ = [some v, some (.str k), some (.int sl), some (.int (c : Int)), some (.ref pt), y5, y6, y7, y8, y9, y10, y11] ∧ Turn PT H H' pt t c m es vt,
    ⟨_, 0, [⟨t, k, 0, 1⟩], [.ref q0], none, none, none, none, none, none, none, rfl, ⟨but_same s2, tab0, upd_same, .one ⟨q0, v, rfl, ?_, hA.keep (tups_same s2)⟩, fun e he => by rw [List.mem_singleton.mp he]; exact hW, ?_, ?_, by decide, rfl⟩⟩, fun m σ H1 hI => ?_⟩
  · rw [upd_ne nqt, upd_same]
    rfl
  · unfold Good
    rw [show sum [(⟨t, k, 0, 1⟩ : Ent)] = t.size by unfold sum; simp]
    constructor
    · rintro ⟨g1, g2⟩
      have g3 : 1 + t.deep ≤ 61 := g2 ⟨t, k, 0, 1⟩ (List.mem_singleton.mpr rfl)
      omega
    · rintro ⟨g1, g2⟩
      refine ⟨by omega, fun e he => ?_⟩
      rw [List.mem_singleton.mp he]
      show 1 + t.deep ≤ 61
      omega
  · rw [show sum [(⟨t, k, 0, 1⟩ : Ent)] = t.size by unfold sum; simp]
    omega
  obtain ⟨c, es, vt, y5, y6, y7, y8, y9, y10, y11, rfl, W⟩ := hI
  refine ⟨_, rfl, !vt.isEmpty, .inl ⟨vt, .inl (.inl W.lt), rfl⟩, ?_⟩
  rcases List.eq_nil_or_concat vt with en | ⟨vt0, y, en⟩
  · subst en
    refine iteF ?_
    have ee : es = [] := List.length_eq_zero_iff.mp W.rt.len
    subst ee
    have yes : t.size ≤ 400 ∧ t.deep ≤ 60 := W.good.1 ⟨by rw [show sum [] = 0 from rfl]; exact W.few, fun e he => (List.not_mem_nil he).elim⟩
    have r := q H1 W.but W.tab
    rw [decide_eq_true yes] at r
    exact r
  · rw [List.concat_eq_append] at en
    subst en
    rw [show (!(vt0 ++ [y]).isEmpty) = true by simp]
    refine iteT ?_
    obtain ⟨es1, ⟨t1, k1, r1, d1⟩, rfl, rt0, ⟨q1, x1, rfl, hq1, a1⟩⟩ := W.rt.last
    have hq1' : H1 q1 = some (.tup [x1, .str k1, .int (r1 : Int), .int (d1 : Int)]) := hq1
    have wf1 : t1.Wf k1 := W.wf ⟨t1, k1, r1, d1⟩ (List.mem_append.mpr (.inr (List.mem_singleton.mpr rfl)))
    have no : ¬ (c + 1 ≤ 400 ∧ d1 ≤ 60) → decide (t.size ≤ 400 ∧ t.deep ≤ 60) = false := fun z => decide_eq_false fun g => z (good_out (W.good.2 g))
    have tot := W.tot
    rw [sum_app, show sum [(⟨t1, k1, r1, d1⟩ : Ent)] = t1.size by unfold sum; simp] at tot
    have em := W.m
    rw [sum_app, show sum [(⟨t1, k1, r1, d1⟩ : Ent)] = t1.size by unfold sum; simp] at em
    refine ⟨fun σ' H' => ∃ m', m' < m ∧ ∃ (c : Nat) (es : List Ent) (vt : List V) (y5 y6 y7 y8 y9 y10 y11 : Option V), σ' = [some v, some (.str k), some (.int sl), some (.int (c : Int)), some (.ref pt), y5, y6, y7, y8, y9, y10, y11] ∧ Turn PT H H' pt t c m' es vt,
      fun σ' H' h => h, ?_⟩
    refine ⟨_, rfl, .inl ⟨rfl, _, .inl (.inl W.lt)⟩, pt, _, .ref q1, rfl, rfl, W.lt, by simp, ?_⟩
    rw [List.dropLast_concat]
    have k2 : Tups H1 (upd H1 pt (.lst vt0)) := tups_put fun xs z => by
      rw [W.lt] at z
      cases z
    have nPt : PT ≠ pt := fun z => TabG.ne W.tab W.lt (fun ps z => by cases z) z.symm
    have b2 : But PT H (upd H1 pt (.lst vt0)) := fun a o n e => by
      rw [upd_ne (ne_of_none e fresh)]
      exact W.but _ _ n e
    have tab2 : GxR.TabG (upd H1 pt (.lst vt0)) PT := TabG.keep W.tab nPt
    have lt2 : (upd H1 pt (.lst vt0)) pt = some (.lst vt0) := upd_same
    generalize upd H1 pt (.lst vt0) = H2 at k2 b2 tab2 lt2
    refine ⟨q1, [x1, .str k1, .int (r1 : Int), .int (d1 : Int)], rfl, .inl (.inl (k2 _ _ hq1')), rfl, x1, _, rfl, .str k1, _, rfl, .int (r1 : Int), _, rfl, .int (d1 : Int), [], rfl, rfl, ?_⟩
    -- pieces += 1
    refine ⟨_, rfl, _, _, rfl, rfl, ?_⟩
    -- too many, too far within
    refine ⟨_, rfl, _, _, rfl, rfl, _, rfl, ?_⟩
    refine ite2 (fun c1 => ?_) (fun c1 => ?_)
    · have z : (c : Int) + 1 > 400 := of_decide_eq_true c1
      have r := q H2 b2 tab2
      rw [no (by omega)] at r
      exact iteT r
    have c1' : ¬ (c : Int) + 1 > 400 := fun z => c1 (decide_eq_true z)
    refine ⟨_, rfl, _, _, rfl, rfl, _, rfl, ?_⟩
    refine ite2 (fun c2 => ?_) (fun c2 => ?_)
    · have z : (d1 : Int) > 60 := of_decide_eq_true c2
      have r := q H2 b2 tab2
      rw [no (by omega)] at r
      exact r
    have c2' : ¬ (d1 : Int) > 60 := fun z => c2 (decide_eq_true z)
    -- has_form
    have a2 : At H2 t1 x1 := At.keep k2 a1
    refine ⟨_, rfl, _, rfl, _, rfl, _, rfl, _, _, rfl, rfl, x1, k1, _, t1, rfl, a2, wf1, tab2, fun H3 tb => ⟨_, rfl, ?_⟩⟩
    refine iteF ?_
    have b3 := but_tabbed tb
    have k3 := tbl_tups tab2 b3
    have lt3 : H3 pt = some (.lst vt0) := b3 _ _ (Ne.symm nPt) lt2
    have bb3 := b2.trans b3
    have a3 : At H3 t1 x1 := At.keep k3 a2
    have rt3 : All2 (EntAt H3) es1 vt0 := rt0.mono (EntAt.keep (k2.trans k3))
    obtain ⟨p1, us, rfl, hp1, _, kids, leafs⟩ := a3.view (wf_ok wf1)
    have wfs : ∀ e ∈ es1, e.t.Wf e.k := fun e he => W.wf e (List.mem_append.mpr (.inl he))
    refine ⟨_, rfl, p1, _, 0, _, rfl, rfl, .inl (.inl hp1), head_at _ _, L, leafVs, rfl, .inr (T.leaf H3), rfl, rfl, _, rfl, ?_⟩
    show if (!leafy t1.word) = true then _ else _
    have ec : ((c : Nat) : Int) + 1 = ((c + 1 : Nat) : Int) := rfl
    have sz1 := size_kids t1
    cases hl : leafy t1.word with
    | true =>
      refine iteF ?_
      obtain ⟨x, et, _⟩ := leafs hl
      have noK : t1.kids = [] := by
        rw [et]
        rfl
      have gs := good_step (c := c) (d := d1) (r := r1) (es := es1) (t := t1) (k := k1) (ks := []) (r2 := 0) (by omega) (by rw [noK]; rfl)
      rw [noK] at gs sz1
      have s1 : t1.size = 1 := sz1
      rw [show ents [] [] 0 (d1 + 1) = [] from rfl, List.append_nil] at gs
      exact ⟨sum es1, by omega, c + 1, es1, vt0, _, _, _, _, y9, y10, y11, rfl, ⟨bb3, tb.1, lt3, rt3, wfs, gs.symm.trans W.good, by omega, by omega, rfl⟩⟩
    | false =>
      refine iteT ?_
      have kd := kids hl
      obtain ⟨ks, row, pr⟩ := wf_row wf1 hl
      obtain ⟨fa, fb, e1, e2, e3⟩ := T.form _ _ _ row
      have len1 := kd.len
      have len2 := pr.len
      refine ⟨_, rfl, _, rfl, p1, t1.word, us, r1, rfl, hp1, ?_⟩
      refine ⟨_, rfl, 1, rfl, p1, _, rfl, .inl (.inl hp1), cut_not _ _, fun z nz => ?_⟩
      rw [cut_one]
      have k4 : Tups H3 (upd H3 z (.tup us)) := tups_same (same_new nz)
      have hp4 := k4 _ _ hp1
      refine ⟨_, rfl, p1, _, 0, _, rfl, rfl, .inl (.inl hp4), head_at _ _, FV, _, .ref fa, rfl, rfl, ⟨es0, n0, _, D.at_, D.lit, e1, rfl⟩, fa, _, 1, .ref fb, rfl, rfl, e2 _, atI_nat (j := 1) rfl, ?_⟩
      have nzt : z ≠ pt := fun e => by
        rw [e, lt3] at nz
        cases nz
      have gs := good_step (c := c) (d := d1) (r := r1) (es := es1) (t := t1) (k := k1) (ks := ks) (r2 := inner t1.word r1) (by omega) len2
      have sumK := ents_sum (inner t1.word r1) (d1 + 1) t1.kids ks len2
      refine ⟨z, fb, us, ks.map V.str, rfl, .inr ⟨.inl (.inl upd_same), e3 _, ?_⟩⟩
      refine for_zipT (K := K) (xs := us) (ys := ks.map V.str) (by rw [List.length_map]; omega) (fun i σ' H' => ∃ (vt : List V) (y10 y11 : Option V), σ' = [some v, some (.str k), some (.int sl), some (.int ((c + 1 : Nat) : Int)), some (.ref pt), some (.ref p1), some (.str k1), some (.int (r1 : Int)), some (.int (d1 : Int)), some (.int (inner t1.word r1 : Nat)), y10, y11] ∧
          But PT H H' ∧ GxR.TabG H' PT ∧ Tups (upd H3 z (.tup us)) H' ∧ H' pt = some (.lst vt) ∧ All2 (EntAt H') (es1 ++ (ents t1.kids ks (inner t1.word r1) (d1 + 1)).take i) vt)
        ⟨vt0, y10, y11, rfl, bb3.new nz, TabG.keep tb.1 (TabG.new tb.1 nz), Tups.refl _, (by rw [upd_ne nzt.symm]; exact lt3), ?_⟩ (fun i σ' H' ⟨_, _, _, _, _, _, kt, _⟩ => ⟨.inl (.inl (kt _ _ upd_same)), e3 _⟩) ?_ ?_
      · rw [List.take_zero, List.append_nil]
        exact rt3.mono (EntAt.keep k4)
      · rintro i x yv T0 σ' H' hx hy ⟨vt, y10, y11, rfl, bt, tg, kt, gt, rr⟩ nT
        obtain ⟨tk, htk, hax⟩ := kd.get hx
        have hax' : At H' tk x := hax.keep (k4.trans kt)
        obtain ⟨kk, hkk, rfl⟩ : ∃ kk, ks[i]? = some kk ∧ yv = V.str kk := by
          rw [List.getElem?_map] at hy
          cases e : ks[i]? with
          | none =>
            rw [e] at hy
            cases hy
          | some kk =>
            rw [e] at hy
            exact ⟨kk, rfl, (Option.some.inj hy).symm⟩
        have hent : (ents t1.kids ks (inner t1.word r1) (d1 + 1))[i]? = some ⟨tk, kk, inner t1.word r1, d1 + 1⟩ := by
          unfold ents
          have hz : (t1.kids.zip ks)[i]? = some (tk, kk) := List.getElem?_zip_eq_some.mpr ⟨htk, hkk⟩
          rw [List.getElem?_map, hz]
          rfl
        have nTt : pt ≠ T0 := ne_of_none gt nT
        have bnd : vt.length ≤ 8192 := by
          have l1 := rr.len
          have l2 := sum_len es1
          have l3 := sum_len (ents t1.kids ks (inner t1.word r1) (d1 + 1))
          rw [List.length_append, List.length_take] at l1
          omega
        refine ⟨T0, [x, .str kk], rfl, .inl (.inl upd_same), rfl, x, _, rfl, .str kk, [], rfl, rfl, ?_⟩
        have gt2 : (upd H' T0 (.tup [x, .str kk])) pt = some (.lst vt) := by
          rw [upd_ne nTt]
          exact gt
        refine ⟨_, rfl, .inl ⟨rfl, _, .inl (.inl gt2)⟩, _, rfl, _, rfl, _, rfl, _, rfl, _, _, rfl, rfl, (by show 4 ≤ sizeLine; decide), fun q3 nq3 => ?_⟩
        have ntq3 : pt ≠ q3 := ne_of_none gt2 nq3
        refine ⟨pt, vt, .ref q3, rfl, rfl, (by rw [upd_ne ntq3]; exact gt2), line_of bnd, ?_⟩
        have k5 : Tups H' (upd (upd (upd H' T0 (.tup [x, .str kk])) q3 (.tup [x, .str kk, .int (inner t1.word r1 : Nat), .int ((d1 : Int) + 1)])) pt (.lst (vt ++ [.ref q3]))) := (tups_same (same_new nT)).trans ((tups_same (same_new nq3)).trans (tups_put fun xs z => by
          rw [upd_ne ntq3, gt2] at z
          cases z))
        refine ⟨vt ++ [.ref q3], some x, some (.str kk), rfl, fun b o n e => ?_, ?_, kt.trans k5, upd_same, ?_⟩
        · have nbt : b ≠ pt := ne_of_none e fresh
          have e5 := (But.new (o := .tup [x, .str kk]) bt nT) _ _ n e
          rw [upd_ne nbt, upd_ne (ne_of_none e5 nq3)]
          exact e5
        · have tg1 := TabG.keep (o := .tup [x, .str kk]) tg (TabG.new tg nT)
          exact TabG.keep (TabG.keep tg1 (TabG.new tg1 nq3)) nPt
        · rw [List.take_add_one, hent, ← List.append_assoc]
          refine (rr.mono (EntAt.keep k5)).app (.one ⟨q3, x, rfl, ?_, hax'.keep k5⟩)
          rw [upd_ne ntq3.symm, upd_same]
          rfl
      · rintro σ' H' ⟨vt, y10, y11, rfl, bt, tg, kt, gt, rr⟩
        have full : (ents t1.kids ks (inner t1.word r1) (d1 + 1)).length = us.length := by
          unfold ents
          rw [List.length_map, List.length_zip]
          omega
        rw [← full, List.take_length] at rr
        refine ⟨_, ?_, c + 1, es1 ++ ents t1.kids ks (inner t1.word r1) (d1 + 1), vt, _, _, _, _, _, y10, y11, rfl, ⟨bt, tg, gt, rr, fun e he => ?_, gs.symm.trans W.good, ?_, by omega, rfl⟩⟩
        · rw [sum_app, sumK]
          omega
        · rcases List.mem_append.mp he with z | z
          · exact wfs e z
          · obtain ⟨pq, hp, rfl⟩ := List.mem_map.mp z
            obtain ⟨i, hi, ez⟩ := List.getElem_of_mem hp
            have hz : (t1.kids.zip ks)[i]? = some pq := by
              rw [List.getElem?_eq_getElem hi, ez]
            obtain ⟨z1, z2⟩ := List.getElem?_zip_eq_some.mp hz
            obtain ⟨a, ha, wfa⟩ := pr.get z2
            rw [z1] at ha
            cases ha
            exact wfa
        · rw [sum_app, sumK]
          omega
end
end Kf
set_option Elab.async false
set_option linter.all false
set_option maxRecDepth 100000
set_option maxHeartbeats 4000000
/-! What this law makes: wide and deep terms and sayings. -/
namespace Kf
open PySem PySem.Spec PyProof.Rows L2 Sx
abbrev sLeaf : Stmt := top 24
abbrev sWT : Stmt := top 25
abbrev sWS : Stmt := top 26
abbrev sDT : Stmt := top 27
abbrev sDS : Stmt := top 28
theorem scLeaf : FnScope ["feed"] ["feed"] (defScope sLeaf) := ⟨rfl, rfl, rfl, by decide +kernel, rfl, by decide +kernel, by decide +kernel⟩
theorem scWT : FnScope ["feed", "pieces", "cut", "word"] ["feed", "pieces"] (defScope sWT) := ⟨rfl, rfl, rfl, by decide +kernel, rfl, by decide +kernel, by decide +kernel⟩
theorem scWS : FnScope ["feed", "pieces", "cut", "word"] ["feed", "pieces"] (defScope sWS) := ⟨rfl, rfl, rfl, by decide +kernel, rfl, by decide +kernel, by decide +kernel⟩
theorem scDT : FnScope ["feed", "deep", "found", "turn", "way", "other"] ["feed", "deep"] (defScope sDT) := ⟨rfl, rfl, rfl, by decide +kernel, rfl, by decide +kernel, by decide +kernel⟩
theorem scDS : FnScope ["feed", "deep", "low", "term", "found", "turn", "way", "no"] ["feed", "deep"] (defScope sDS) := ⟨rfl, rfl, rfl, by decide +kernel, rfl, by decide +kernel, by decide +kernel⟩
/-- what is promised of a made tree of the kind k: its pieces and how far within one another by R -/
def Out (f : Addr) (H : Hp) (k : Str) (R : Nat → Nat → Prop) (Q : VK) : Prop := ∀ t v H', t.Wf k → R t.size t.deep → At H' t v → But f H H' → FeedAt H' f → Q v H'
theorem wf_x : (Tr.leaf "name" (.str "x")).Wf kT := ⟨rfl, .inr ⟨rfl, rfl⟩⟩
theorem wf_num {n : Int} (h0 : 0 ≤ n) (h1 : n < 10 ^ 60) : (Tr.leaf "num" (.int n)).Wf kT := ⟨rfl, .inl ⟨rfl, n, rfl, h0, h1⟩⟩
theorem wf_no : (Tr.n0 "no").Wf kS := by
  show (("no" : Str), kS, ([] : List Str)) ∈ table
  decide +kernel
theorem wf_1 {w k k1 : Str} {a : Tr} (h : (w, k, [k1]) ∈ table) (ha : a.Wf k1) : (Tr.n1 w a).Wf k := ⟨k1, h, ha⟩
theorem wf_2 {w k k1 k2 : Str} {a b : Tr} (h : (w, k, [k1, k2]) ∈ table) (ha : a.Wf k1) (hb : b.Wf k2) : (Tr.n2 w a b).Wf k := ⟨k1, k2, h, ha, hb⟩
theorem join {C G : Hp → Prop} {M : Prop} (main : (∀ H, C H → G H) → M) (rest : ∀ H, C H → G H) : M := main rest
section
variable {P : Program} {w : World} {K : PySem.W.Frag} {mg : Str → Option Value} {base : Heap}
theorem no_calls {f : Addr} {fd : FuncData} {k : Nat} {ps : List Str} {sp : Sp} (no : ∀ vs H Q E, ¬ sp vs H Q E) : FnOk P w K mg base CX0 k f fd ps sp :=
  ⟨fun vs H Q E h => absurd h (no vs H Q E), fun A outer s H args us vs Q E _ _ _ _ h => absurd h (no vs H Q E)⟩
/-- the defs that draw -/
structure Draw (P : Program) (w : World) (K : PySem.W.Frag) (mg : Str → Option Value) (base : Heap) (ft fp : Addr) (dt dp : FuncData) : Prop where
  T : FnOk P w K mg base CX0 1 ft dt ["feed", "many"] spTake
  bT : Binds K dt ["feed", "many"] []
  kT : PySem.W.keepIn K (.ref ft) = true
  mT : mg "_law_take" = some (.ref ft)
  Pk : FnOk P w K mg base CX0 2 fp dp ["feed", "some"] (spPick K)
  bP : Binds K dp ["feed", "some"] []
  kP : PySem.W.keepIn K (.ref fp) = true
  mP : mg "_law_pick" = some (.ref fp)
theorem few1000 {n : Int} (h0 : 0 < n) (h : n ≤ 1000) : n.natAbs < 2 ^ 200 := Nat.lt_of_le_of_lt (show n.natAbs ≤ 1000 by omega) (by decide)
def spLeaf : Sp := fun vs H Q _ => ∃ f : Addr, vs = [.ref f] ∧ FeedAt H f ∧ Out f H kT (fun s d => s = 1 ∧ d = 1) Q
theorem ok_leaf {f ft fp : Addr} {fd dt dp : FuncData} (F : Fun K "_law_leaf" "_law_leaf" sLeaf f fd) (D : Draw P w K mg base ft fp dt dp) : FnOk P w K mg base CX0 3 f fd ["feed"] spLeaf := by
  refine F.ok scLeaf (fun vs H Q E h => ?_) (fun cdv A outer s H vs Q E hr h => ?_)
  · obtain ⟨a, rfl, _⟩ := h
    rfl
  obtain ⟨f, rfl, hF, q⟩ := h
  refine ⟨_, pss_one (ps_ret (pe_call D.Pk hr (by rfl) D.mP D.kP D.bP .nil pass0 (pa_cons (pv 0) (pa_cons (pe_lst (pa_cons (pe_tup (pa_cons pe_str (pa_cons pe_int pa_nil))) (pa_cons (pe_tup (pa_cons pe_str (pa_cons pe_str pa_nil)))
    (pa_cons (pe_tup (pa_cons pe_str (pa_cons (pe_op op_pow pe_int pe_int) pa_nil))) pa_nil)))) pa_nil)))), ?_⟩
  refine ⟨_, rfl, (by show 2 ≤ sizeLine; decide), fun p1 n1 => ⟨(by show 2 ≤ sizeLine; decide), fun p2 n2 => ⟨_, _, rfl, rfl, ⟨by decide, by decide, by decide⟩, (by show 2 ≤ sizeLine; decide), fun p3 n3 => ⟨(by show 3 ≤ sizeLine; decide), fun l nl => ?_⟩⟩⟩⟩
  have s1 := same_new (o := .tup [.str "num", .int 0]) n1
  have s2 := same_new (o := .tup [.str "name", .str "x"]) n2
  have s3 := same_new (o := .tup [.str "num", .int (10 ^ (59 : Int).toNat)]) n3
  have s4 := same_new (o := .lst [.ref p1, .ref p2, .ref p3]) nl
  have sa := ((s1.trans s2).trans s3).trans s4
  have hF4 := hF.same sa
  have a1 := s4 _ _ (s3 _ _ (s2 _ _ (upd_same (H := H) (a := p1) (o := .tup [.str "num", .int 0]))))
  have a2 := s4 _ _ (s3 _ _ (upd_same (a := p2) (o := .tup [.str "name", .str "x"])))
  have a3 := s4 _ _ (upd_same (a := p3) (o := .tup [.str "num", .int (10 ^ (59 : Int).toNat)]))
  refine ⟨f, l, _, rfl, (hF.same ((s1.trans s2).trans s3)).ne nl, .inl (.inl upd_same), by show 0 < 3; decide, by show 3 ≤ 1000; decide, hF4, fun x hx H' b hF' => ?_⟩
  have k := hF4.tups b
  have bb := (but_same (f := f) sa).trans b
  rcases List.mem_cons.mp hx with e | hx
  · exact q _ x H' (wf_num (n := 0) (by decide) (by decide)) ⟨rfl, rfl⟩ ⟨p1, e, k _ _ a1⟩ bb hF'
  rcases List.mem_cons.mp hx with e | hx
  · exact q _ x H' wf_x ⟨rfl, rfl⟩ ⟨p2, e, k _ _ a2⟩ bb hF'
  · exact q _ x H' (wf_num (n := 10 ^ (59 : Int).toNat) (by decide) (by decide)) ⟨rfl, rfl⟩ ⟨p3, List.mem_singleton.mp hx, k _ _ a3⟩ bb hF'
/-! ### wide ones -/
def gr : Nat → Nat
  | 0 => 0
  | n + 1 => gr n + max 1 (gr n / 2)
/-- the cut falls so that both parts have a call fewer -/
theorem cuts {p q : Nat} {r : Int} (h3 : 3 ≤ p) (hp : p ≤ q + max 1 (q / 2)) (r0 : 0 ≤ r) (r1 : r < 1 + ((p : Int) - 1) / 8) :
    ∃ c : Nat, (if ((p : Int) - 1) / 2 - r > 1 then ((p : Int) - 1) / 2 - r else 1) = (c : Int) ∧ 1 ≤ c ∧ c ≤ q ∧ 1 ≤ p - 1 - c ∧ p - 1 - c ≤ q ∧ c ≤ p - 1 := by
  have q2 : 2 ≤ q := by omega
  by_cases big : ((p : Int) - 1) / 2 - r > 1
  · rw [if_pos big]
    refine ⟨(((p : Int) - 1) / 2 - r).toNat, ?_, ?_, ?_, ?_, ?_, ?_⟩ <;> omega
  · rw [if_neg big]
    refine ⟨1, rfl, ?_, ?_, ?_, ?_, ?_⟩ <;> omega
theorem gr_pos {n p : Nat} (h2 : 2 ≤ p) (h : p ≤ gr (n + 1)) : 1 ≤ n := by
  cases n with
  | zero =>
    have e : gr (0 + 1) = 1 := by decide
    omega
  | succ n => omega
def spWT (n : Nat) : Sp := fun vs H Q _ => ∃ (f : Addr) (p : Nat), vs = [.ref f, .int (p : Int)] ∧ 1 ≤ p ∧ p ≤ gr n ∧ p ≤ 1000 ∧ FeedAt H f ∧ Out f H kT (fun s d => s = p ∧ d ≤ n) Q
theorem ok_WT {f ft fp fl : Addr} {fd dt dp dl : FuncData} {n : Nat} (F : Fun K "_law_wide_term" "_law_wide_term" sWT f fd) (D : Draw P w K mg base ft fp dt dp)
    (L : FnOk P w K mg base CX0 3 fl dl ["feed"] spLeaf) (bL : Binds K dl ["feed"] []) (kL : PySem.W.keepIn K (.ref fl) = true) (mL : mg "_law_leaf" = some (.ref fl)) (zM : mg "max" = none)
    (S : FnOk P w K mg base CX0 (3 + n) f fd ["feed", "pieces"] (spWT n)) (bS : Binds K fd ["feed", "pieces"] []) (mS : mg "_law_wide_term" = some (.ref f)) : FnOk P w K mg base CX0 (3 + n + 1) f fd ["feed", "pieces"] (spWT (n + 1)) := by
  refine F.ok scWT (fun vs H Q E h => ?_) (fun cdv A outer s H vs Q E hr h => ?_)
  · obtain ⟨f, p, rfl, _⟩ := h
    rfl
  obtain ⟨f, p, rfl, p1, pg, pm, hF, q⟩ := h
  have h1 : Room 1 _ := hr.mono (by omega)
  have h2 : Room 2 _ := hr.mono (by omega)
  have h3 : Room 3 _ := hr.mono (by omega)
  refine ⟨_, pss_cons (ps_if (pt_cmpR op_eq (pv 1) pe_int (nomark _)) (pss_one (ps_ret (pe_call L h3 (by rfl) mL kL bL .nil pass0 (pa_cons (pv 0) pa_nil)))) pss_nil)
    (pss_cons (ps_if (pt_cmpR op_eq (pv 1) pe_int (nomark _)) (pss_one (ps_ret (pe_tup (pa_cons pe_str (pa_cons (pe_call L h3 (by rfl) mL kL bL .nil pass0 (pa_cons (pv 0) pa_nil)) pa_nil))))) pss_nil)
    (pss_cons (ps_set (i := 2) scWT.nd rfl (.inl rfl) (pe_op op_sub (pe_op op_fdiv (pe_op op_sub (pv 1) pe_int) pe_int) (pe_call D.T h1 (by rfl) D.mT D.kT D.bT .nil pass0 (pa_cons (pv 0) (pa_cons (pe_op op_add pe_int (pe_op op_fdiv (pe_op op_sub (pv 1) pe_int) pe_int)) pa_nil)))))
    (pss_cons (ps_set (i := 2) scWT.nd rfl (.inl rfl) (pe_callB (call_max2 rfl) (by rfl) zM (by decide +kernel) (pa_cons pe_int (pa_cons (pv 2) pa_nil))))
    (pss_cons (ps_set (i := 3) scWT.nd rfl (.inl rfl) (pe_call D.Pk h2 (by rfl) D.mP D.kP D.bP .nil pass0 (pa_cons (pv 0) (pa_cons (pe_lst (pa_cons pe_str (pa_cons pe_str pa_nil))) pa_nil))))
    (pss_one (ps_ret (pe_tup (pa_cons (pv 3) (pa_cons (pe_call S hr (by rfl) mS F.kp bS .nil pass0 (pa_cons (pv 0) (pa_cons (pv 2) pa_nil)))
      (pa_cons (pe_call S hr (by rfl) mS F.kp bS .nil pass0 (pa_cons (pv 0) (pa_cons (pe_op op_sub (pe_op op_sub (pv 1) pe_int) (pv 2)) pa_nil))) pa_nil)))))))))), ?_⟩
  have eqN : ∀ m : Nat, decide (V.int (p : Int) = V.int (m : Int)) = decide (p = m) := fun m => by
    by_cases e : p = m
    · rw [decide_eq_true e, decide_eq_true (by rw [e])]
    · rw [decide_eq_false e, decide_eq_false fun z => e (by injection z with z; omega)]
  refine ⟨_, rfl, rfl, _, rfl, ?_⟩
  refine ite2 (fun c => ?_) (fun c => ?_)
  · have e : p = 1 := of_decide_eq_true ((eqN 1).symm.trans c)
    exact ⟨_, rfl, f, rfl, hF, fun t v H' wf r a b hF' => q t v H' wf ⟨by omega, by omega⟩ a b hF'⟩
  have ne1 : p ≠ 1 := fun e => c ((eqN 1).trans (decide_eq_true e))
  refine ⟨_, rfl, rfl, _, rfl, ?_⟩
  refine ite2 (fun c2 => ?_) (fun c2 => ?_)
  · have e : p = 2 := of_decide_eq_true ((eqN 2).symm.trans c2)
    have n1 := gr_pos (by omega) pg
    refine ⟨_, rfl, f, rfl, hF, fun t v H' wf r a b hF' => ⟨(by show 2 ≤ sizeLine; decide), fun z nz => ?_⟩⟩
    refine q (.n1 "next" t) _ _ (wf_1 (k1 := kT) (by decide +kernel) wf) ⟨?_, ?_⟩ ⟨z, v, rfl, upd_same, a.keep (tups_same (same_new nz))⟩ (b.new nz) (hF'.same (same_new nz))
    · show t.size + 1 = p
      omega
    · show t.deep + 1 ≤ n + 1
      omega
  have ne2 : p ≠ 2 := fun e => c2 ((eqN 2).trans (decide_eq_true e))
  have fd8 : (0 : Int) < 8 ∧ (8 : Int).natAbs < 1073741824 := ⟨by decide, by decide⟩
  refine ⟨_, rfl, _, _, rfl, rfl, _, _, rfl, rfl, ⟨by decide, by decide⟩, _, rfl, _, rfl, _, _, rfl, rfl, _, _, rfl, rfl, ⟨by decide, by decide⟩, _, _, rfl, rfl, ?_⟩
  refine ⟨f, _, rfl, (by show (0 : Int) < 1 + ((p : Int) - 1) / 8; omega), few1000 (by show (0 : Int) < 1 + ((p : Int) - 1) / 8; omega) (by show 1 + ((p : Int) - 1) / 8 ≤ 1000; omega), hF, fun r H1 r0 r1 b1 hF1 => ?_⟩
  obtain ⟨cut, ecut, c1, c2, c3, c4, c5⟩ := cuts (q := gr n) (by omega) pg r0 r1
  refine ⟨_, _, rfl, rfl, ?_⟩
  refine ⟨_, rfl, _, _, rfl, ?_⟩
  rw [ecut]
  refine ⟨_, rfl, (by show 2 ≤ sizeLine; decide), fun l nl => ?_⟩
  refine ⟨f, l, _, rfl, hF1.ne nl, .inl (.inl upd_same), by decide, by decide, hF1.same (same_new nl), fun x hx H2 b2 hF2 => ?_⟩
  obtain ⟨wd, rfl, row⟩ : ∃ wd : Str, x = .str wd ∧ (wd, kT, [kT, kT]) ∈ table := by
    rcases List.mem_cons.mp hx with e | hx
    · exact ⟨_, e, by decide +kernel⟩
    · exact ⟨_, List.mem_singleton.mp hx, by decide +kernel⟩
  have bb2 := (b1.new (o := .lst [.str "plus", .str "times"]) nl).trans b2
  refine ⟨_, rfl, _, rfl, _, rfl, f, cut, rfl, c1, c2, by omega, hF2, fun t1 v1 H3 wf1 ⟨z1, z2⟩ a1 b3 hF3 => ?_⟩
  refine ⟨_, rfl, _, rfl, _, _, rfl, rfl, _, rfl, _, _, rfl, rfl, f, p - 1 - cut, (by show [V.ref f, V.int ((p : Int) - 1 - (cut : Int))] = _; rw [show (p : Int) - 1 - (cut : Int) = ((p - 1 - cut : Nat) : Int) by omega]), c3, c4, by omega, hF3, fun t2 v2 H4 wf2 ⟨z3, z4⟩ a2 b4 hF4 => ?_⟩
  refine ⟨(by show 3 ≤ sizeLine; decide), fun z nz => ?_⟩
  have k1 : At H4 t1 v1 := a1.keep (hF3.tups b4)
  refine q (.n2 wd t1 t2) _ _ (wf_2 row wf1 wf2) ⟨?_, ?_⟩ ⟨z, v1, v2, rfl, upd_same, k1.keep (tups_same (same_new nz)), a2.keep (tups_same (same_new nz))⟩ (((bb2.trans b3).trans b4).new nz) (hF4.same (same_new nz))
  · show t1.size + t2.size + 1 = p
    omega
  · show max t1.deep t2.deep + 1 ≤ n + 1
    omega
end
end Kf
set_option Elab.async false
set_option linter.all false
set_option maxRecDepth 100000
set_option maxHeartbeats 4000000
/-! Wide sayings, deep terms and sayings; is_term, is_saying, is_body. -/
namespace Kf
open PySem PySem.Spec PyProof.Rows L2 Sx
section
variable {P : Program} {w : World} {K : PySem.W.Frag} {mg : Str → Option Value} {base : Heap} {L B FV : Addr}
def spWS (n : Nat) : Sp := fun vs H Q _ => ∃ (f : Addr) (p : Nat), vs = [.ref f, .int (p : Int)] ∧ 1 ≤ p ∧ p ≤ gr n ∧ p ≤ 1000 ∧ FeedAt H f ∧ Out f H kS (fun s d => s = p ∧ d ≤ n) Q
theorem ok_WS {f ft fp fl : Addr} {fd dt dp dl : FuncData} {n : Nat} (F : Fun K "_law_wide_saying" "_law_wide_saying" sWS f fd) (D : Draw P w K mg base ft fp dt dp)
    (L : FnOk P w K mg base CX0 (3 + n) fl dl ["feed", "pieces"] (spWT n)) (bL : Binds K dl ["feed", "pieces"] []) (kL : PySem.W.keepIn K (.ref fl) = true) (mL : mg "_law_wide_term" = some (.ref fl)) (zM : mg "max" = none)
    (S : FnOk P w K mg base CX0 (3 + n) f fd ["feed", "pieces"] (spWS n)) (bS : Binds K fd ["feed", "pieces"] []) (mS : mg "_law_wide_saying" = some (.ref f)) : FnOk P w K mg base CX0 (3 + n + 1) f fd ["feed", "pieces"] (spWS (n + 1)) := by
  refine F.ok scWS (fun vs H Q E h => ?_) (fun cdv A outer s H vs Q E hr h => ?_)
  · obtain ⟨f, p, rfl, _⟩ := h
    rfl
  obtain ⟨f, p, rfl, p1, pg, pm, hF, q⟩ := h
  have h1 : Room 1 _ := hr.mono (by omega)
  have h2 : Room 2 _ := hr.mono (by omega)
  refine ⟨_, pss_cons (ps_if (pt_cmpR op_eq (pv 1) pe_int (nomark _)) (pss_one (ps_ret (pe_tup (pa_cons pe_str pa_nil)))) pss_nil)
    (pss_cons (ps_if (pt_cmpR op_eq (pv 1) pe_int (nomark _)) (pss_one (ps_ret (pe_tup (pa_cons (pe_call D.Pk h2 (by rfl) D.mP D.kP D.bP .nil pass0 (pa_cons (pv 0) (pa_cons (pe_lst (pa_cons pe_str (pa_cons pe_str pa_nil))) pa_nil))) (pa_cons (pe_tup (pa_cons pe_str pa_nil)) pa_nil))))) pss_nil)
    (pss_cons (ps_set (i := 2) scWS.nd rfl (.inl rfl) (pe_callB (call_max2 rfl) (by rfl) zM (by decide +kernel) (pa_cons pe_int (pa_cons (pe_op op_sub (pe_op op_fdiv (pe_op op_sub (pv 1) pe_int) pe_int)
      (pe_call D.T h1 (by rfl) D.mT D.kT D.bT .nil pass0 (pa_cons (pv 0) (pa_cons (pe_op op_add pe_int (pe_op op_fdiv (pe_op op_sub (pv 1) pe_int) pe_int)) pa_nil)))) pa_nil))))
    (pss_cons (ps_if (pt_cmpR op_eq (pe_call D.T h1 (by rfl) D.mT D.kT D.bT .nil pass0 (pa_cons (pv 0) (pa_cons pe_int pa_nil))) pe_int (nomark _))
      (pss_one (ps_ret (pe_tup (pa_cons pe_str (pa_cons (pe_call L hr (by rfl) mL kL bL .nil pass0 (pa_cons (pv 0) (pa_cons (pv 2) pa_nil)))
        (pa_cons (pe_call L hr (by rfl) mL kL bL .nil pass0 (pa_cons (pv 0) (pa_cons (pe_op op_sub (pe_op op_sub (pv 1) pe_int) (pv 2)) pa_nil))) pa_nil)))))) pss_nil)
    (pss_cons (ps_set (i := 3) scWS.nd rfl (.inl rfl) (pe_call D.Pk h2 (by rfl) D.mP D.kP D.bP .nil pass0 (pa_cons (pv 0) (pa_cons (pe_lst (pa_cons pe_str (pa_cons pe_str (pa_cons pe_str pa_nil)))) pa_nil))))
    (pss_one (ps_ret (pe_tup (pa_cons (pv 3) (pa_cons (pe_call S hr (by rfl) mS F.kp bS .nil pass0 (pa_cons (pv 0) (pa_cons (pv 2) pa_nil)))
      (pa_cons (pe_call S hr (by rfl) mS F.kp bS .nil pass0 (pa_cons (pv 0) (pa_cons (pe_op op_sub (pe_op op_sub (pv 1) pe_int) (pv 2)) pa_nil))) pa_nil)))))))))), ?_⟩
  have eqN : ∀ m : Nat, decide (V.int (p : Int) = V.int (m : Int)) = decide (p = m) := fun m => by
    by_cases e : p = m
    · rw [decide_eq_true e, decide_eq_true (by rw [e])]
    · rw [decide_eq_false e, decide_eq_false fun z => e (by injection z with z; omega)]
  refine ⟨_, rfl, rfl, _, rfl, ?_⟩
  refine ite2 (fun c => ?_) (fun c => ?_)
  · have e : p = 1 := of_decide_eq_true ((eqN 1).symm.trans c)
    refine ⟨(by show 1 ≤ sizeLine; decide), fun z nz => ?_⟩
    refine q (.n0 "no") _ _ wf_no ⟨?_, ?_⟩ ⟨z, rfl, upd_same⟩ ((But.refl f H).new nz) (hF.same (same_new nz))
    · show 1 = p
      omega
    · show 1 ≤ n + 1
      omega
  have ne1 : p ≠ 1 := fun e => c ((eqN 1).trans (decide_eq_true e))
  refine ⟨_, rfl, rfl, _, rfl, ?_⟩
  refine ite2 (fun c2 => ?_) (fun c2 => ?_)
  · have e : p = 2 := of_decide_eq_true ((eqN 2).symm.trans c2)
    have n1 := gr_pos (by omega) pg
    refine ⟨_, rfl, (by show 2 ≤ sizeLine; decide), fun l nl => ?_⟩
    refine ⟨f, l, _, rfl, hF.ne nl, .inl (.inl upd_same), by decide, by decide, hF.same (same_new nl), fun x hx H2 b2 hF2 => ?_⟩
    obtain ⟨wd, rfl, row⟩ : ∃ wd : Str, x = .str wd ∧ (wd, kS, [kS]) ∈ table := by
      rcases List.mem_cons.mp hx with e | hx
      · exact ⟨_, e, by decide +kernel⟩
      · exact ⟨_, List.mem_singleton.mp hx, by decide +kernel⟩
    refine ⟨(by show 1 ≤ sizeLine; decide), fun z nz => ⟨(by show 2 ≤ sizeLine; decide), fun z2 nz2 => ?_⟩⟩
    have bb := ((((But.refl f H).new (o := .lst [.str "all", .str "some"]) nl).trans b2).new (o := .tup [.str "no"]) nz).new (o := .tup [.str wd, .ref z]) nz2
    refine q (.n1 wd (.n0 "no")) _ _ (wf_1 row wf_no) ⟨?_, ?_⟩ ⟨z2, .ref z, rfl, upd_same, z, rfl, ?_⟩ bb ((hF2.same (same_new nz)).same (same_new nz2))
    · show 1 + 1 = p
      omega
    · show 1 + 1 ≤ n + 1
      omega
    · exact same_new nz2 _ _ upd_same
  have ne2 : p ≠ 2 := fun e => c2 ((eqN 2).trans (decide_eq_true e))
  refine ⟨_, rfl, _, _, rfl, rfl, _, _, rfl, rfl, ⟨by decide, by decide⟩, _, rfl, _, rfl, _, _, rfl, rfl, _, _, rfl, rfl, ⟨by decide, by decide⟩, _, _, rfl, rfl, ?_⟩
  refine ⟨f, _, rfl, (by show (0 : Int) < 1 + ((p : Int) - 1) / 8; omega), few1000 (by show (0 : Int) < 1 + ((p : Int) - 1) / 8; omega) (by show 1 + ((p : Int) - 1) / 8 ≤ 1000; omega), hF, fun r H1 r0 r1 b1 hF1 => ?_⟩
  obtain ⟨cut, ecut, c1, c2, c3, c4, c5⟩ := cuts (q := gr n) (by omega) pg r0 r1
  refine ⟨_, _, rfl, rfl, _, _, rfl, ?_⟩
  rw [ecut]
  have esub : (p : Int) - 1 - (cut : Int) = ((p - 1 - cut : Nat) : Int) := by omega
  refine ⟨_, rfl, f, 5, rfl, by decide, by decide, hF1, fun way H2 _ _ b2 hF2 => ?_⟩
  have bb2 := b1.trans b2
  refine ⟨rfl, _, rfl, ?_⟩
  refine ite2 (fun _ => ?_) (fun _ => ?_)
  · refine ⟨_, rfl, _, rfl, f, cut, rfl, c1, c2, by omega, hF2, fun t1 v1 H3 wf1 ⟨z1, z2⟩ a1 b3 hF3 => ?_⟩
    refine ⟨_, rfl, _, rfl, _, _, rfl, rfl, _, rfl, _, _, rfl, rfl, f, p - 1 - cut, (by show [V.ref f, V.int ((p : Int) - 1 - (cut : Int))] = _; rw [esub]), c3, c4, by omega, hF3, fun t2 v2 H4 wf2 ⟨z3, z4⟩ a2 b4 hF4 => ?_⟩
    refine ⟨(by show 3 ≤ sizeLine; decide), fun z nz => ?_⟩
    have k1 : At H4 t1 v1 := a1.keep (hF3.tups b4)
    refine q (.n2 "same" t1 t2) _ _ (wf_2 (k1 := kT) (k2 := kT) (by decide +kernel) wf1 wf2) ⟨?_, ?_⟩ ⟨z, v1, v2, rfl, upd_same, k1.keep (tups_same (same_new nz)), a2.keep (tups_same (same_new nz))⟩ (((bb2.trans b3).trans b4).new nz) (hF4.same (same_new nz))
    · show t1.size + t2.size + 1 = p
      omega
    · show max t1.deep t2.deep + 1 ≤ n + 1
      omega
  · refine ⟨_, rfl, (by show 3 ≤ sizeLine; decide), fun l nl => ?_⟩
    refine ⟨f, l, _, rfl, hF2.ne nl, .inl (.inl upd_same), by decide, by decide, hF2.same (same_new nl), fun x hx H3 b3 hF3 => ?_⟩
    obtain ⟨wd, rfl, row⟩ : ∃ wd : Str, x = .str wd ∧ (wd, kS, [kS, kS]) ∈ table := by
      rcases List.mem_cons.mp hx with e | hx
      · exact ⟨_, e, by decide +kernel⟩
      rcases List.mem_cons.mp hx with e | hx
      · exact ⟨_, e, by decide +kernel⟩
      · exact ⟨_, List.mem_singleton.mp hx, by decide +kernel⟩
    have bb3 := (bb2.new (o := .lst [.str "and", .str "or", .str "if"]) nl).trans b3
    refine ⟨_, rfl, _, rfl, _, rfl, f, cut, rfl, c1, c2, by omega, hF3, fun t1 v1 H4 wf1 ⟨z1, z2⟩ a1 b4 hF4 => ?_⟩
    refine ⟨_, rfl, _, rfl, _, _, rfl, rfl, _, rfl, _, _, rfl, rfl, f, p - 1 - cut, (by show [V.ref f, V.int ((p : Int) - 1 - (cut : Int))] = _; rw [esub]), c3, c4, by omega, hF4, fun t2 v2 H5 wf2 ⟨z3, z4⟩ a2 b5 hF5 => ?_⟩
    refine ⟨(by show 3 ≤ sizeLine; decide), fun z nz => ?_⟩
    have k1 : At H5 t1 v1 := a1.keep (hF4.tups b5)
    refine q (.n2 wd t1 t2) _ _ (wf_2 row wf1 wf2) ⟨?_, ?_⟩ ⟨z, v1, v2, rfl, upd_same, k1.keep (tups_same (same_new nz)), a2.keep (tups_same (same_new nz))⟩ (((bb3.trans b4).trans b5).new nz) (hF5.same (same_new nz))
    · show t1.size + t2.size + 1 = p
      omega
    · show max t1.deep t2.deep + 1 ≤ n + 1
      omega
theorem ok_WTs {f ft fp fl : Addr} {fd dt dp dl : FuncData} (F : Fun K "_law_wide_term" "_law_wide_term" sWT f fd) (D : Draw P w K mg base ft fp dt dp)
    (L : FnOk P w K mg base CX0 3 fl dl ["feed"] spLeaf) (bL : Binds K dl ["feed"] []) (kL : PySem.W.keepIn K (.ref fl) = true) (mL : mg "_law_leaf" = some (.ref fl)) (zM : mg "max" = none) (bS : Binds K fd ["feed", "pieces"] []) (mS : mg "_law_wide_term" = some (.ref f)) :
    ∀ n : Nat, FnOk P w K mg base CX0 (3 + n) f fd ["feed", "pieces"] (spWT n)
  | 0 => no_calls fun vs H Q E h => by
    obtain ⟨f, p, _, p1, pg, _⟩ := h
    have e : gr 0 = 0 := rfl
    omega
  | n + 1 => ok_WT F D L bL kL mL zM (ok_WTs F D L bL kL mL zM bS mS n) bS mS
theorem ok_WSs {f ft fp fl : Addr} {fd dt dp dl : FuncData} (F : Fun K "_law_wide_saying" "_law_wide_saying" sWS f fd) (D : Draw P w K mg base ft fp dt dp)
    (L : ∀ n : Nat, FnOk P w K mg base CX0 (3 + n) fl dl ["feed", "pieces"] (spWT n)) (bL : Binds K dl ["feed", "pieces"] []) (kL : PySem.W.keepIn K (.ref fl) = true) (mL : mg "_law_wide_term" = some (.ref fl)) (zM : mg "max" = none) (bS : Binds K fd ["feed", "pieces"] []) (mS : mg "_law_wide_saying" = some (.ref f)) :
    ∀ n : Nat, FnOk P w K mg base CX0 (3 + n) f fd ["feed", "pieces"] (spWS n)
  | 0 => no_calls fun vs H Q E h => by
    obtain ⟨f, p, _, p1, pg, _⟩ := h
    have e : gr 0 = 0 := rfl
    omega
  | n + 1 => ok_WS F D (L n) bL kL mL zM (ok_WSs F D L bL kL mL zM bS mS n) bS mS
/-! ### deep ones -/
theorem joinV {C G : V → Hp → Prop} {M : Prop} (main : (∀ v H, C v H → G v H) → M) (rest : ∀ v H, C v H → G v H) : M := main rest
theorem small62 {r : Int} (h : r ≤ 1000) : r < 2 ^ 62 := Int.lt_of_le_of_lt h (by decide)
theorem low62 {r : Int} (h : 0 ≤ r) : -(2 ^ 62) ≤ r := Int.le_trans (by decide) h
def spDT : Sp := fun vs H Q _ => ∃ (f : Addr) (n : Nat), vs = [.ref f, .int (n : Int)] ∧ 1 ≤ n ∧ n ≤ 500 ∧ FeedAt H f ∧ Out f H kT (fun s d => s ≤ 2 * n ∧ d = n) Q
theorem ok_DT {f ft fp fl : Addr} {fd dt dp dl : FuncData} (F : Fun K "_law_deep_term" "_law_deep_term" sDT f fd) (D : Draw P w K mg base ft fp dt dp)
    (L : FnOk P w K mg base CX0 3 fl dl ["feed"] spLeaf) (bL : Binds K dl ["feed"] []) (kL : PySem.W.keepIn K (.ref fl) = true) (mL : mg "_law_leaf" = some (.ref fl)) (zR : mg "range" = none) : FnOk P w K mg base CX0 4 f fd ["feed", "deep"] spDT := by
  refine F.ok scDT (fun vs H Q E h => ?_) (fun cdv A outer s H vs Q E hr h => ?_)
  · obtain ⟨f, n, rfl, _⟩ := h
    rfl
  obtain ⟨f, n, rfl, n1, nm, hF, q⟩ := h
  have h1 : Room 1 _ := hr.mono (by decide)
  refine ⟨_, pss_cons (ps_set (i := 2) scDT.nd rfl (.inl rfl) (pe_call L hr (by rfl) mL kL bL .nil pass0 (pa_cons (pv 0) pa_nil)))
    (pss_cons (ps_for PassesOwn.never rfl (pi_range1 (by rfl) zR (pa_cons (pe_op op_sub (pv 1) pe_int) pa_nil)) (pg_name (i := 3) scDT.nd rfl (.inl rfl))
      (pss_cons (ps_set (i := 4) scDT.nd rfl (.inl rfl) (pe_call D.T h1 (by rfl) D.mT D.kT D.bT .nil pass0 (pa_cons (pv 0) (pa_cons pe_int pa_nil))))
      (pss_cons (ps_set (i := 5) scDT.nd rfl (.inl rfl) (pe_call L hr (by rfl) mL kL bL .nil pass0 (pa_cons (pv 0) pa_nil)))
      (pss_one (ps_set (i := 2) scDT.nd rfl (.inl rfl) (pe_ix ix_list (pe_lst (pa_cons (pe_tup (pa_cons pe_str (pa_cons (pv 2) pa_nil))) (pa_cons (pe_tup (pa_cons pe_str (pa_cons (pv 2) (pa_cons (pv 5) pa_nil))))
        (pa_cons (pe_tup (pa_cons pe_str (pa_cons (pv 5) (pa_cons (pv 2) pa_nil)))) (pa_cons (pe_tup (pa_cons pe_str (pa_cons (pv 5) (pa_cons (pv 2) pa_nil)))) pa_nil))))) (pv 4) (fun _ _ => rfl)))))))
    (pss_one (ps_ret (pv 2)))), ?_⟩
  refine ⟨_, rfl, f, rfl, hF, fun t0 v0 H0 wf0 ⟨z0, d0⟩ a0 b0 hF0 => ?_⟩
  refine ⟨_, rfl, _, _, rfl, rfl, _, rfl, low62 (by omega), small62 (by omega), ?_⟩
  refine for_range (lo := 0) (n := ((n : Int) - 1).toNat) (fun i σ H' => ∃ (t : Tr) (v : V) (y3 y4 y5 : Option V), σ = [some (.ref f), some (.int (n : Int)), some v, y3, y4, y5] ∧ t.Wf kT ∧ t.deep = i + 1 ∧ t.size ≤ 2 * (i + 1) ∧ At H' t v ∧ But f H H' ∧ FeedAt H' f)
    ⟨t0, v0, none, none, none, rfl, wf0, by omega, by omega, a0, b0, hF0⟩ ?_ ?_
  · rintro i σ H1 hi ⟨t, v, y3, y4, y5, rfl, wf, dd, zz, hA, b1, hF1⟩
    refine ⟨_, rfl, f, 4, rfl, by decide, by decide, hF1, fun way H2 r0 r1 b2 hF2 => ?_⟩
    refine ⟨_, rfl, f, rfl, hF2, fun o vo H3 wfo ⟨zo, do_⟩ ao b3 hF3 => ?_⟩
    have a3 : At H3 t v := (hA.keep (hF1.tups b2)).keep (hF2.tups b3)
    refine ⟨_, rfl, (by show 2 ≤ sizeLine; decide), fun p1 n1 => ⟨_, rfl, _, rfl, (by show 3 ≤ sizeLine; decide), fun p2 n2 => ⟨_, rfl, _, rfl, (by show 3 ≤ sizeLine; decide), fun p3 n3 => ⟨_, rfl, _, rfl, (by show 3 ≤ sizeLine; decide), fun p4 n4 => ⟨(by show 4 ≤ sizeLine; decide), fun l nl => ?_⟩⟩⟩⟩⟩
    have s1 := same_new (o := .tup [.str "next", v]) n1
    have s2 := same_new (o := .tup [.str "plus", v, vo]) n2
    have s3 := same_new (o := .tup [.str "plus", vo, v]) n3
    have s4 := same_new (o := .tup [.str "times", vo, v]) n4
    have s5 := same_new (o := .lst [.ref p1, .ref p2, .ref p3, .ref p4]) nl
    have e1 := s5 _ _ (s4 _ _ (s3 _ _ (s2 _ _ (upd_same (H := H3) (a := p1) (o := .tup [.str "next", v])))))
    have e2 := s5 _ _ (s4 _ _ (s3 _ _ (upd_same (a := p2) (o := .tup [.str "plus", v, vo]))))
    have e3 := s5 _ _ (s4 _ _ (upd_same (a := p3) (o := .tup [.str "plus", vo, v])))
    have e4 := s5 _ _ (upd_same (a := p4) (o := .tup [.str "times", vo, v]))
    have sa := (((s1.trans s2).trans s3).trans s4).trans s5
    have aT := a3.keep (tups_same sa)
    have aO := ao.keep (tups_same sa)
    have bb := ((b1.trans b2).trans b3).trans (but_same sa)
    have hF4 := hF3.same sa
    obtain ⟨x, hx, item⟩ := atI_in (xs := ([.ref p1, .ref p2, .ref p3, .ref p4] : List V)) r0 r1
    refine ⟨_, rfl, l, _, way, x, rfl, rfl, .inl (.inl upd_same), item, ?_⟩
    rcases List.mem_cons.mp hx with e | hx
    · subst e
      exact ⟨.n1 "next" t, _, _, _, _, rfl, wf_1 (k1 := kT) (by decide +kernel) wf, by show t.deep + 1 = _; omega, by show t.size + 1 ≤ _; omega, ⟨p1, v, rfl, e1, aT⟩, bb, hF4⟩
    rcases List.mem_cons.mp hx with e | hx
    · subst e
      exact ⟨.n2 "plus" t o, _, _, _, _, rfl, wf_2 (k1 := kT) (k2 := kT) (by decide +kernel) wf wfo, by show max t.deep o.deep + 1 = _; omega, by show t.size + o.size + 1 ≤ _; omega, ⟨p2, v, vo, rfl, e2, aT, aO⟩, bb, hF4⟩
    rcases List.mem_cons.mp hx with e | hx
    · subst e
      exact ⟨.n2 "plus" o t, _, _, _, _, rfl, wf_2 (k1 := kT) (k2 := kT) (by decide +kernel) wfo wf, by show max o.deep t.deep + 1 = _; omega, by show o.size + t.size + 1 ≤ _; omega, ⟨p3, vo, v, rfl, e3, aO, aT⟩, bb, hF4⟩
    · have e := List.mem_singleton.mp hx
      subst e
      exact ⟨.n2 "times" o t, _, _, _, _, rfl, wf_2 (k1 := kT) (k2 := kT) (by decide +kernel) wfo wf, by show max o.deep t.deep + 1 = _; omega, by show o.size + t.size + 1 ≤ _; omega, ⟨p4, vo, v, rfl, e4, aO, aT⟩, bb, hF4⟩
  · rintro σ H1 ⟨t, v, y3, y4, y5, rfl, wf, dd, zz, hA, b1, hF1⟩
    exact ⟨_, rfl, q t v H1 wf ⟨by omega, by omega⟩ hA b1 hF1⟩
def spDS : Sp := fun vs H Q _ => ∃ (f : Addr) (n : Nat), vs = [.ref f, .int (n : Int)] ∧ 30 ≤ n ∧ n ≤ 200 ∧ FeedAt H f ∧ Out f H kS (fun s d => s ≤ 2 * n ∧ d = n) Q
theorem ok_DS {f ft fp fl fm : Addr} {fd dt dp dl dm : FuncData} (F : Fun K "_law_deep_saying" "_law_deep_saying" sDS f fd) (D : Draw P w K mg base ft fp dt dp)
    (L : FnOk P w K mg base CX0 3 fl dl ["feed"] spLeaf) (bL : Binds K dl ["feed"] []) (kL : PySem.W.keepIn K (.ref fl) = true) (mL : mg "_law_leaf" = some (.ref fl))
    (M : FnOk P w K mg base CX0 4 fm dm ["feed", "deep"] spDT) (bM : Binds K dm ["feed", "deep"] []) (kM : PySem.W.keepIn K (.ref fm) = true) (mM : mg "_law_deep_term" = some (.ref fm)) (zR : mg "range" = none) : FnOk P w K mg base CX0 5 f fd ["feed", "deep"] spDS := by
  refine F.ok scDS (fun vs H Q E h => ?_) (fun cdv A outer s H vs Q E hr h => ?_)
  · obtain ⟨f, n, rfl, _⟩ := h
    rfl
  obtain ⟨f, n, rfl, n1, nm, hF, q⟩ := h
  have h1 : Room 1 _ := hr.mono (by decide)
  have h3 : Room 3 _ := hr.mono (by decide)
  refine ⟨_, pss_cons (ps_set (i := 2) scDS.nd rfl (.inl rfl) (pe_op op_add pe_int (pe_call D.T h1 (by rfl) D.mT D.kT D.bT .nil pass0 (pa_cons (pv 0) (pa_cons pe_int pa_nil)))))
    (pss_cons (ps_set (i := 3) scDS.nd rfl (.inl rfl) (pe_call M hr (by rfl) mM kM bM .nil pass0 (pa_cons (pv 0) (pa_cons (pv 2) pa_nil))))
    (pss_cons (ps_set (i := 4) scDS.nd rfl (.inl rfl) (pe_ifExp (pt_cmpR op_eq (pe_call D.T h1 (by rfl) D.mT D.kT D.bT .nil pass0 (pa_cons (pv 0) (pa_cons pe_int pa_nil))) pe_int (nomark _))
      (pe_tup (pa_cons pe_str (pa_cons (pv 3) (pa_cons (pe_call L h3 (by rfl) mL kL bL .nil pass0 (pa_cons (pv 0) pa_nil)) pa_nil)))) (pe_tup (pa_cons pe_str (pa_cons (pe_call L h3 (by rfl) mL kL bL .nil pass0 (pa_cons (pv 0) pa_nil)) (pa_cons (pv 3) pa_nil))))))
    (pss_cons (ps_for PassesOwn.never rfl (pi_range1 (by rfl) zR (pa_cons (pe_op op_sub (pe_op op_sub (pv 1) (pv 2)) pe_int) pa_nil)) (pg_name (i := 5) scDS.nd rfl (.inl rfl))
      (pss_cons (ps_set (i := 6) scDS.nd rfl (.inl rfl) (pe_call D.T h1 (by rfl) D.mT D.kT D.bT .nil pass0 (pa_cons (pv 0) (pa_cons pe_int pa_nil))))
      (pss_cons (ps_set (i := 7) scDS.nd rfl (.inl rfl) (pe_tup (pa_cons pe_str pa_nil)))
      (pss_one (ps_set (i := 4) scDS.nd rfl (.inl rfl) (pe_ix ix_list (pe_lst (pa_cons (pe_tup (pa_cons pe_str (pa_cons (pv 4) pa_nil))) (pa_cons (pe_tup (pa_cons pe_str (pa_cons (pv 4) pa_nil)))
        (pa_cons (pe_tup (pa_cons pe_str (pa_cons (pv 4) (pa_cons (pv 7) pa_nil)))) (pa_cons (pe_tup (pa_cons pe_str (pa_cons (pv 7) (pa_cons (pv 4) pa_nil)))) (pa_cons (pe_tup (pa_cons pe_str (pa_cons (pv 7) (pa_cons (pv 4) pa_nil)))) pa_nil)))))) (pv 6) (fun _ _ => rfl)))))))
    (pss_one (ps_ret (pv 4)))))), ?_⟩
  refine ⟨_, rfl, f, 20, rfl, by decide, by decide, hF, fun r H1 r0 r1 b1 hF1 => ?_⟩
  have er : (2 : Int) + r = ((2 + r.toNat : Nat) : Int) := by omega
  refine ⟨_, _, rfl, rfl, ?_⟩
  refine ⟨_, rfl, _, rfl, f, 2 + r.toNat, (by show [V.ref f, V.int (2 + r)] = _; rw [er]), by omega, by omega, hF1, fun t0 v0 H2 wf0 ⟨z0, d0⟩ a0 b2 hF2 => ?_⟩
  refine ⟨_, rfl, f, 2, rfl, by decide, by decide, hF2, fun way H3 _ _ b3 hF3 => ?_⟩
  have bb3 := (b1.trans b2).trans b3
  have a3 : At H3 t0 v0 := a0.keep (hF2.tups b3)
  apply joinV (C := fun v H' => ∃ t : Tr, t.Wf kS ∧ t.deep = 3 + r.toNat ∧ t.size ≤ 2 * (3 + r.toNat) ∧ At H' t v ∧ But f H H' ∧ FeedAt H' f)
  · intro rest
    refine ⟨rfl, _, rfl, ?_⟩
    refine ite2 (fun _ => ?_) (fun _ => ?_)
    · refine ⟨_, rfl, _, rfl, f, rfl, hF3, fun o vo H4 wfo ⟨zo, do_⟩ ao b4 hF4 => ⟨(by show 3 ≤ sizeLine; decide), fun p np => ?_⟩⟩
      have a4 : At H4 t0 v0 := a3.keep (hF3.tups b4)
      have k := tups_same (same_new (o := .tup [.str "same", v0, vo]) np)
      have good : ∃ t : Tr, t.Wf kS ∧ t.deep = 3 + r.toNat ∧ t.size ≤ 2 * (3 + r.toNat) ∧ At (upd H4 p (.tup [.str "same", v0, vo])) t (.ref p) ∧ But f H (upd H4 p (.tup [.str "same", v0, vo])) ∧ FeedAt (upd H4 p (.tup [.str "same", v0, vo])) f := ⟨.n2 "same" t0 o, wf_2 (k1 := kT) (k2 := kT) (by decide +kernel) wf0 wfo, by show max t0.deep o.deep + 1 = _; omega, by show t0.size + o.size + 1 ≤ _; omega, ⟨p, v0, vo, rfl, upd_same, a4.keep k, ao.keep k⟩, (bb3.trans b4).new np, hF4.same (same_new np)⟩
      revert good
      generalize upd H4 p (.tup [.str "same", v0, vo]) = H5
      generalize V.ref p = vz
      intro good
      exact rest vz H5 good
    · refine ⟨_, rfl, f, rfl, hF3, fun o vo H4 wfo ⟨zo, do_⟩ ao b4 hF4 => ⟨_, rfl, (by show 3 ≤ sizeLine; decide), fun p np => ?_⟩⟩
      have a4 : At H4 t0 v0 := a3.keep (hF3.tups b4)
      have k := tups_same (same_new (o := .tup [.str "same", vo, v0]) np)
      exact rest _ _ ⟨.n2 "same" o t0, wf_2 (k1 := kT) (k2 := kT) (by decide +kernel) wfo wf0, by show max o.deep t0.deep + 1 = _; omega, by show o.size + t0.size + 1 ≤ _; omega, ⟨p, vo, v0, rfl, upd_same, ao.keep k, a4.keep k⟩, (bb3.trans b4).new np, hF4.same (same_new np)⟩
  · intro v1 H4 ⟨t1, wf1, d1, z1, a1, b4, hF4⟩
    refine ⟨_, rfl, _, rfl, _, _, rfl, rfl, _, _, rfl, rfl, _, rfl, low62 (by omega), small62 (by omega), ?_⟩
    refine for_range (lo := 0) (n := ((n : Int) - (2 + r) - 1).toNat) (fun i σ H' => ∃ (t : Tr) (v : V) (y5 y6 y7 : Option V), σ = [some (.ref f), some (.int (n : Int)), some (.int (2 + r)), some v0, some v, y5, y6, y7] ∧ t.Wf kS ∧ t.deep = 3 + r.toNat + i ∧ t.size ≤ 2 * (3 + r.toNat + i) ∧ At H' t v ∧ But f H H' ∧ FeedAt H' f)
      ⟨t1, v1, none, none, none, rfl, wf1, by omega, by omega, a1, b4, hF4⟩ ?_ ?_
    · rintro i σ H5 hi ⟨t, v, y5, y6, y7, rfl, wf, dd, zz, hA, b5, hF5⟩
      refine ⟨_, rfl, f, 5, rfl, by decide, by decide, hF5, fun way H6 r0 r1 b6 hF6 => ?_⟩
      have a6 : At H6 t v := hA.keep (hF5.tups b6)
      refine ⟨(by show 1 ≤ sizeLine; decide), fun p0 n0 => ?_⟩
      refine ⟨_, rfl, (by show 2 ≤ sizeLine; decide), fun p1 n1 => ⟨_, rfl, (by show 2 ≤ sizeLine; decide), fun p2 n2 => ⟨_, rfl, _, rfl, (by show 3 ≤ sizeLine; decide), fun p3 n3 => ⟨_, rfl, _, rfl, (by show 3 ≤ sizeLine; decide), fun p4 n4 => ⟨_, rfl, _, rfl, (by show 3 ≤ sizeLine; decide), fun p5 n5 => ⟨(by show 5 ≤ sizeLine; decide), fun l nl => ?_⟩⟩⟩⟩⟩⟩
      have s0 := same_new (o := .tup [.str "no"]) n0
      have s1 := same_new (o := .tup [.str "all", v]) n1
      have s2 := same_new (o := .tup [.str "some", v]) n2
      have s3 := same_new (o := .tup [.str "and", v, .ref p0]) n3
      have s4 := same_new (o := .tup [.str "or", .ref p0, v]) n4
      have s5 := same_new (o := .tup [.str "if", .ref p0, v]) n5
      have s6 := same_new (o := .lst [.ref p1, .ref p2, .ref p3, .ref p4, .ref p5]) nl
      have e5 := s6 _ _ (upd_same (a := p5) (o := .tup [.str "if", .ref p0, v]))
      have e4 := s6 _ _ (s5 _ _ (upd_same (a := p4) (o := .tup [.str "or", .ref p0, v])))
      have e3 := s6 _ _ (s5 _ _ (s4 _ _ (upd_same (a := p3) (o := .tup [.str "and", v, .ref p0]))))
      have e2 := s6 _ _ (s5 _ _ (s4 _ _ (s3 _ _ (upd_same (a := p2) (o := .tup [.str "some", v])))))
      have e1 := s6 _ _ (s5 _ _ (s4 _ _ (s3 _ _ (s2 _ _ (upd_same (a := p1) (o := .tup [.str "all", v]))))))
      have e0 := s6 _ _ (s5 _ _ (s4 _ _ (s3 _ _ (s2 _ _ (s1 _ _ (upd_same (H := H6) (a := p0) (o := .tup [.str "no"])))))))
      have sa := ((((((s0.trans s1).trans s2).trans s3).trans s4).trans s5).trans s6)
      have aT := a6.keep (tups_same sa)
      have bb := (b5.trans b6).trans (but_same sa)
      have hF7 := hF6.same sa
      obtain ⟨x, hx, item⟩ := atI_in (xs := ([.ref p1, .ref p2, .ref p3, .ref p4, .ref p5] : List V)) r0 r1
      refine ⟨_, rfl, l, _, way, x, rfl, rfl, .inl (.inl upd_same), item, ?_⟩
      have dp := deep_pos t
      rcases List.mem_cons.mp hx with e | hx
      · subst e
        exact ⟨.n1 "all" t, _, _, _, _, rfl, wf_1 (k1 := kS) (by decide +kernel) wf, by show t.deep + 1 = _; omega, by show t.size + 1 ≤ _; omega, ⟨p1, v, rfl, e1, aT⟩, bb, hF7⟩
      rcases List.mem_cons.mp hx with e | hx
      · subst e
        exact ⟨.n1 "some" t, _, _, _, _, rfl, wf_1 (k1 := kS) (by decide +kernel) wf, by show t.deep + 1 = _; omega, by show t.size + 1 ≤ _; omega, ⟨p2, v, rfl, e2, aT⟩, bb, hF7⟩
      rcases List.mem_cons.mp hx with e | hx
      · subst e
        exact ⟨.n2 "and" t (.n0 "no"), _, _, _, _, rfl, wf_2 (k1 := kS) (k2 := kS) (by decide +kernel) wf wf_no, by show max t.deep 1 + 1 = _; omega, by show t.size + 1 + 1 ≤ _; omega, ⟨p3, v, .ref p0, rfl, e3, aT, p0, rfl, e0⟩, bb, hF7⟩
      rcases List.mem_cons.mp hx with e | hx
      · subst e
        exact ⟨.n2 "or" (.n0 "no") t, _, _, _, _, rfl, wf_2 (k1 := kS) (k2 := kS) (by decide +kernel) wf_no wf, by show max 1 t.deep + 1 = _; omega, by show 1 + t.size + 1 ≤ _; omega, ⟨p4, .ref p0, v, rfl, e4, ⟨p0, rfl, e0⟩, aT⟩, bb, hF7⟩
      · have e := List.mem_singleton.mp hx
        subst e
        exact ⟨.n2 "if" (.n0 "no") t, _, _, _, _, rfl, wf_2 (k1 := kS) (k2 := kS) (by decide +kernel) wf_no wf, by show max 1 t.deep + 1 = _; omega, by show 1 + t.size + 1 ≤ _; omega, ⟨p5, .ref p0, v, rfl, e5, ⟨p0, rfl, e0⟩, aT⟩, bb, hF7⟩
    · rintro σ H5 ⟨t, v, y5, y6, y7, rfl, wf, dd, zz, hA, b5, hF5⟩
      exact ⟨_, rfl, q t v H5 wf ⟨by omega, by omega⟩ hA b5 hF5⟩
/-! ### is_term, is_saying, is_body -/
def spQ (k : Str) (PT : Addr) : Sp := fun vs H Q _ => ∃ (v : V) (t : Tr), vs = [v] ∧ At H t v ∧ t.Wf k ∧ t.size ≤ 4000 ∧ GxR.TabG H PT ∧ ∀ H', But PT H H' → GxR.TabG H' PT → Q (.bl (decide (t.size ≤ 400 ∧ t.deep ≤ 60))) H'
theorem ok_termQ {f g : Addr} {fd gd : FuncData} {PT : Addr} (F : Fun K "is_term" "is_term" sTermQ f fd) (G : FnOk P w K mg base CX0 5 g gd ["thing", "kind", "slack"] (spMade PT)) (bG : Binds K gd ["thing", "kind", "slack"] []) (kG : PySem.W.keepIn K (.ref g) = true) (mG : mg "is_made" = some (.ref g)) :
    FnOk P w K mg base CX0 6 f fd ["thing"] (spQ kT PT) := by
  refine F.ok scTermQ (fun vs H Q E h => ?_) (fun cdv A outer s H vs Q E hr h => ?_)
  · obtain ⟨v, t, rfl, _⟩ := h
    rfl
  obtain ⟨v, t, rfl, hA, hW, hz, hT, q⟩ := h
  exact ⟨_, pss_one (ps_ret (pe_call G hr (by rfl) mG kG bG .nil pass0 (pa_cons (pv 0) (pa_cons pe_str (pa_cons pe_int pa_nil))))), ⟨_, rfl, v, kT, 0, t, rfl, hA, hW, hz, hT, q⟩⟩
theorem ok_sayingQ {f g : Addr} {fd gd : FuncData} {PT : Addr} (F : Fun K "is_saying" "is_saying" sSayingQ f fd) (G : FnOk P w K mg base CX0 5 g gd ["thing", "kind", "slack"] (spMade PT)) (bG : Binds K gd ["thing", "kind", "slack"] []) (kG : PySem.W.keepIn K (.ref g) = true) (mG : mg "is_made" = some (.ref g)) :
    FnOk P w K mg base CX0 6 f fd ["thing"] (spQ kS PT) := by
  refine F.ok scSayingQ (fun vs H Q E h => ?_) (fun cdv A outer s H vs Q E hr h => ?_)
  · obtain ⟨v, t, rfl, _⟩ := h
    rfl
  obtain ⟨v, t, rfl, hA, hW, hz, hT, q⟩ := h
  exact ⟨_, pss_one (ps_ret (pe_call G hr (by rfl) mG kG bG .nil pass0 (pa_cons (pv 0) (pa_cons pe_str (pa_cons pe_int pa_nil))))), ⟨_, rfl, v, kS, 0, t, rfl, hA, hW, hz, hT, q⟩⟩
theorem ok_bodyQ {f g : Addr} {fd gd : FuncData} {PT : Addr} (F : Fun K "is_body" "is_body" sBodyQ f fd) (G : FnOk P w K mg base CX0 5 g gd ["thing", "kind", "slack"] (spMade PT)) (bG : Binds K gd ["thing", "kind", "slack"] []) (kG : PySem.W.keepIn K (.ref g) = true) (mG : mg "is_made" = some (.ref g)) :
    FnOk P w K mg base CX0 6 f fd ["thing"] (spQ kS PT) := by
  refine F.ok scBodyQ (fun vs H Q E h => ?_) (fun cdv A outer s H vs Q E hr h => ?_)
  · obtain ⟨v, t, rfl, _⟩ := h
    rfl
  obtain ⟨v, t, rfl, hA, hW, hz, hT, q⟩ := h
  exact ⟨_, pss_one (ps_ret (pe_call G hr (by rfl) mG kG bG .nil pass0 (pa_cons (pv 0) (pa_cons pe_str (pa_cons pe_int pa_nil))))), ⟨_, rfl, v, kS, 1, t, rfl, hA, hW, hz, hT, q⟩⟩
end
end Kf
set_option Elab.async false
set_option linter.all false
set_option maxRecDepth 100000
set_option maxHeartbeats 8000000
/-! The law. -/
namespace Kf
open PySem PySem.Spec PyProof.Rows L2 Sx
abbrev sLaw : Stmt := top 29
theorem scLaw : FnScope ["script", "k", "feed", "pieces", "deep", "saying"] ["script"] (defScope sLaw) := ⟨rfl, rfl, rfl, by decide +kernel, rfl, by decide +kernel, by decide +kernel⟩
theorem seq_tab {K : PySem.W.Frag} {PT a : Addr} {H H' : Hp} {xs : List V} (t : GxR.TabG H PT) (b : But PT H H') (h : SqL K H a xs) : SqL K H' a xs := by
  obtain ⟨ps, e, _⟩ := t
  rcases h with (h | ⟨o, h⟩) | h
  · exact .inl (.inl (b _ _ (fun z => by rw [z, e] at h; cases h) h))
  · exact .inl (.inr ⟨o, b _ _ (fun z => by rw [z, e] at h; cases h) h⟩)
  · exact .inr h
theorem feed_ne {PT f : Addr} {H : Hp} (t : GxR.TabG H PT) (h : FeedAt H f) : f ≠ PT := by
  obtain ⟨x, y, e, _⟩ := h
  exact TabG.ne t e fun ps z => by cases z
theorem tab_but {PT f : Addr} {H H' : Hp} (t : GxR.TabG H PT) (h : FeedAt H f) (b : But f H H') : GxR.TabG H' PT := by
  have n := feed_ne t h
  obtain ⟨ps, e, q⟩ := t
  exact ⟨ps, b _ _ n.symm e, q⟩
theorem tab_same {PT : Addr} {H H' : Hp} (t : GxR.TabG H PT) (b : Same H H') : GxR.TabG H' PT := by
  obtain ⟨ps, e, q⟩ := t
  exact ⟨ps, b _ _ e, q⟩
def spLaw (K : PySem.W.Frag) (PT : Addr) : Sp := fun vs H Q _ => ∃ (a : Addr) (ns : List Int), vs = [.ref a] ∧ SqL K H a (ns.map V.int) ∧ ns.length ≤ 63 ∧ (∀ z ∈ ns, Builtin.Int.intBits z ≤ 1048576) ∧ GxR.TabG H PT ∧ ∀ H', Q (.bl true) H'
section
variable {P : Program} {w : World} {K : PySem.W.Frag} {mg : Str → Option Value} {base : Heap}
structure Calls (P : Program) (w : World) (K : PySem.W.Frag) (mg : Str → Option Value) (base : Heap) (PT ff ft fp fm fs fx fy f1 f2 f3 : Addr) (df dt dp dm ds dx dy d1 d2 d3 : FuncData) : Prop where
  D : Draw P w K mg base ft fp dt dp
  Fd : FnOk P w K mg base CX0 1 ff df ["script", "k"] (spFeed K)
  bFd : Binds K df ["script", "k"] []
  kFd : PySem.W.keepIn K (.ref ff) = true
  mFd : mg "_law_feed" = some (.ref ff)
  M : FnOk P w K mg base CX0 19 fm dm ["feed", "pieces"] (spWT 16)
  bM : Binds K dm ["feed", "pieces"] []
  kM : PySem.W.keepIn K (.ref fm) = true
  mM : mg "_law_wide_term" = some (.ref fm)
  S : FnOk P w K mg base CX0 19 fs ds ["feed", "pieces"] (spWS 16)
  bS : Binds K ds ["feed", "pieces"] []
  kS : PySem.W.keepIn K (.ref fs) = true
  mS : mg "_law_wide_saying" = some (.ref fs)
  X : FnOk P w K mg base CX0 4 fx dx ["feed", "deep"] spDT
  bX : Binds K dx ["feed", "deep"] []
  kX : PySem.W.keepIn K (.ref fx) = true
  mX : mg "_law_deep_term" = some (.ref fx)
  Y : FnOk P w K mg base CX0 5 fy dy ["feed", "deep"] spDS
  bY : Binds K dy ["feed", "deep"] []
  kY : PySem.W.keepIn K (.ref fy) = true
  mY : mg "_law_deep_saying" = some (.ref fy)
  Q1 : FnOk P w K mg base CX0 6 f1 d1 ["thing"] (spQ Kf.kT PT)
  b1 : Binds K d1 ["thing"] []
  k1 : PySem.W.keepIn K (.ref f1) = true
  m1 : mg "is_term" = some (.ref f1)
  Q2 : FnOk P w K mg base CX0 6 f2 d2 ["thing"] (spQ Kf.kS PT)
  b2 : Binds K d2 ["thing"] []
  k2 : PySem.W.keepIn K (.ref f2) = true
  m2 : mg "is_saying" = some (.ref f2)
  Q3 : FnOk P w K mg base CX0 6 f3 d3 ["thing"] (spQ Kf.kS PT)
  b3 : Binds K d3 ["thing"] []
  k3 : PySem.W.keepIn K (.ref f3) = true
  m3 : mg "is_body" = some (.ref f3)
  zRange : mg "range" = none
  zMax : mg "max" = none
  zMin : mg "min" = none
  zLen : mg "len" = none
theorem alike {x : Int} {a b n : Nat} {lim : Int} (h : (a ≤ 400 ∧ b ≤ 60) ↔ x ≤ lim) : (!decide (V.bl (decide (a ≤ 400 ∧ b ≤ 60)) = V.bl (decide (x ≤ lim)))) = false := by
  have e : decide (a ≤ 400 ∧ b ≤ 60) = decide (x ≤ lim) := by
    by_cases z : x ≤ lim
    · rw [decide_eq_true z, decide_eq_true (h.2 z)]
    · rw [decide_eq_false z, decide_eq_false fun q => z (h.1 q)]
  rw [e, decide_eq_true rfl]
  rfl
theorem ok_law {f PT ff ft fp fm fs fx fy f1 f2 f3 : Addr} {fd df dt dp dm ds dx dy d1 d2 d3 : FuncData} (F : Fun K "law" "law" sLaw f fd) (C : Calls P w K mg base PT ff ft fp fm fs fx fy f1 f2 f3 df dt dp dm ds dx dy d1 d2 d3) : FnOk P w K mg base CX0 20 f fd ["script"] (spLaw K PT) := by
  refine F.ok scLaw (fun vs H Q E h => ?_) (fun cdv A outer s H vs Q E hr h => ?_)
  · obtain ⟨a, ns, rfl, _⟩ := h
    rfl
  obtain ⟨a, ns, rfl, hS, hlen, hb, hT, q⟩ := h
  have h1 : Room 1 _ := hr.mono (by decide)
  have h4 : Room 4 _ := hr.mono (by decide)
  have h5 : Room 5 _ := hr.mono (by decide)
  have h6 : Room 6 _ := hr.mono (by decide)
  refine ⟨_, pss_cons (ps_for PassesOwn.never rfl (pi_range1 (by rfl) C.zRange (pa_cons (pe_callB (call_max2 rfl) (by rfl) C.zMax (by decide +kernel) (pa_cons pe_int (pa_cons (pe_callB (call_min2 rfl) (by rfl) C.zMin (by decide +kernel) (pa_cons pe_int (pa_cons (pe_callB call_len_seq (by rfl) C.zLen PySem.boot_len (pa_cons (pv 0) pa_nil)) pa_nil))) pa_nil))) pa_nil)) (pg_name (i := 1) scLaw.nd rfl (.inl rfl))
      (pss_cons (ps_set (i := 2) scLaw.nd rfl (.inl rfl) (pe_call C.Fd h1 (by rfl) C.mFd C.kFd C.bFd .nil pass0 (pa_cons (pv 0) (pa_cons (pv 1) pa_nil))))
      (pss_cons (ps_set (i := 3) scLaw.nd rfl (.inl rfl) (pe_op op_add pe_int (pe_call C.D.T h1 (by rfl) C.D.mT C.D.kT C.D.bT .nil pass0 (pa_cons (pv 2) (pa_cons pe_int pa_nil)))))
      (pss_cons (ps_set (i := 4) scLaw.nd rfl (.inl rfl) (pe_op op_add pe_int (pe_call C.D.T h1 (by rfl) C.D.mT C.D.kT C.D.bT .nil pass0 (pa_cons (pv 2) (pa_cons pe_int pa_nil)))))
      (pss_cons (ps_if (pt_cmpR op_ne (pe_call C.Q1 h6 (by rfl) C.m1 C.k1 C.b1 .nil pass0 (pa_cons (pe_call C.M hr (by rfl) C.mM C.kM C.bM .nil pass0 (pa_cons (pv 2) (pa_cons (pv 3) pa_nil))) pa_nil)) (pe_cmpR op_le (pv 3) pe_int (nomark _)) (nomark _)) (pss_one (ps_ret pe_bl)) pss_nil)
      (pss_cons (ps_if (pt_cmpR op_ne (pe_call C.Q1 h6 (by rfl) C.m1 C.k1 C.b1 .nil pass0 (pa_cons (pe_call C.X h4 (by rfl) C.mX C.kX C.bX .nil pass0 (pa_cons (pv 2) (pa_cons (pv 4) pa_nil))) pa_nil)) (pe_cmpR op_le (pv 4) pe_int (nomark _)) (nomark _)) (pss_one (ps_ret pe_bl)) pss_nil)
      (pss_cons (ps_set (i := 5) scLaw.nd rfl (.inl rfl) (pe_call C.S hr (by rfl) C.mS C.kS C.bS .nil pass0 (pa_cons (pv 2) (pa_cons (pv 3) pa_nil))))
      (pss_cons (ps_if (PW.pt (pw_or (pt_cmpR op_ne (pe_call C.Q2 h6 (by rfl) C.m2 C.k2 C.b2 .nil pass0 (pa_cons (pv 5) pa_nil)) (pe_cmpR op_le (pv 3) pe_int (nomark _)) (nomark _)) (pw_or1 (pt_cmpR op_ne (pe_call C.Q3 h6 (by rfl) C.m3 C.k3 C.b3 .nil pass0 (pa_cons (pv 5) pa_nil)) (pe_cmpR op_le (pv 3) pe_int (nomark _)) (nomark _))))) (pss_one (ps_ret pe_bl)) pss_nil)
      (pss_cons (ps_set (i := 5) scLaw.nd rfl (.inl rfl) (pe_call C.Y h5 (by rfl) C.mY C.kY C.bY .nil pass0 (pa_cons (pv 2) (pa_cons (pv 4) pa_nil))))
      (pss_one (ps_if (PW.pt (pw_or (pt_cmpR op_ne (pe_call C.Q2 h6 (by rfl) C.m2 C.k2 C.b2 .nil pass0 (pa_cons (pv 5) pa_nil)) (pe_cmpR op_le (pv 4) pe_int (nomark _)) (nomark _)) (pw_or1 (pt_cmpR op_ne (pe_call C.Q3 h6 (by rfl) C.m3 C.k3 C.b3 .nil pass0 (pa_cons (pv 5) pa_nil)) (pe_cmpR op_le (pv 4) pe_int (nomark _)) (nomark _))))) (pss_one (ps_ret pe_bl)) pss_nil)))))))))))
    (pss_one (ps_ret pe_bl)), ?_⟩
  have bounds : ∀ n : Int, 0 ≤ n → (2 : Int) ≤ (if (if n < 4 then n else 4) > 2 then (if n < 4 then n else 4) else 2) ∧ (if (if n < 4 then n else 4) > 2 then (if n < 4 then n else 4) else 2) ≤ 4 := fun n _ => by
    split
    · split <;> omega
    · omega
  obtain ⟨bn1, bn2⟩ := bounds ((ns.map V.int).length : Nat) (Int.natCast_nonneg _)
  refine ⟨_, rfl, a, _, rfl, .inl hS, _, _, rfl, _, _, rfl, _, rfl, low62 (by omega), small62 (by omega), ?_⟩
  generalize (if (if (((ns.map V.int).length : Nat) : Int) < 4 then (((ns.map V.int).length : Nat) : Int) else 4) > 2 then (if (((ns.map V.int).length : Nat) : Int) < 4 then (((ns.map V.int).length : Nat) : Int) else 4) else 2) = turns at bn1 bn2 ⊢
  refine for_range (lo := 0) (n := turns.toNat) (fun i σ H' => ∃ y1 y2 y3 y4 y5 : Option V, σ = [some (.ref a), y1, y2, y3, y4, y5] ∧ But PT H H' ∧ GxR.TabG H' PT) ⟨none, none, none, none, none, rfl, But.refl _ H, hT⟩ ?_ ?_
  · rintro i σ H0 hi ⟨y1, y2, y3, y4, y5, rfl, b0, t0⟩
    refine ⟨_, rfl, _, rfl, a, ns, i, (by show [V.ref a, V.int (0 + (i : Int))] = _; rw [Int.zero_add]), seq_tab hT b0 hS, hb, by omega, fun f H1 s1 nf hF1 => ?_⟩
    have t1 := tab_same t0 s1
    have fresh : ∀ {b : Addr} {o : HO}, H0 b = some o → b ≠ f := fun e => ne_of_none e nf
    refine ⟨_, rfl, f, 11, rfl, by decide, by decide, hF1, fun r H2 r0 r1 b2 hF2 => ?_⟩
    have t2 := tab_but t1 hF1 b2
    refine ⟨_, _, rfl, rfl, ?_⟩
    refine ⟨_, rfl, f, 5, rfl, by decide, by decide, hF2, fun r' H3 r0' r1' b3 hF3 => ?_⟩
    have t3 := tab_but t2 hF2 b3
    refine ⟨_, _, rfl, rfl, ?_⟩
    have ep : (395 : Int) + r = ((395 + r.toNat : Nat) : Int) := by omega
    have ed : (58 : Int) + r' = ((58 + r'.toNat : Nat) : Int) := by omega
    have g16 : gr 16 = 474 := by decide +kernel
    have nfp : f ≠ PT := feed_ne t3 hF3
    -- is_term of a wide one
    refine ⟨_, rfl, _, rfl, f, 395 + r.toNat, (by show [V.ref f, V.int (395 + r)] = _; rw [ep]), by omega, by omega, by omega, hF3, fun w1 v1 H4 wf1 ⟨z1, d1⟩ a1 b4 hF4 => ?_⟩
    have t4 := tab_but t3 hF3 b4
    refine ⟨v1, w1, rfl, a1, wf1, by omega, t4, fun H5 b5 t5 => ?_⟩
    have hF5 := hF4.keep nfp b5
    refine ⟨_, rfl, _, _, rfl, rfl, rfl, _, rfl, ?_⟩
    rw [alike (n := 0) (x := 395 + r) (lim := 400) (by omega)]
    refine iteF ?_
    -- is_term of a deep one
    refine ⟨_, rfl, _, rfl, f, 58 + r'.toNat, (by show [V.ref f, V.int (58 + r')] = _; rw [ed]), by omega, by omega, hF5, fun w2 v2 H6 wf2 ⟨z2, d2⟩ a2 b6 hF6 => ?_⟩
    have t6 := tab_but t5 hF5 b6
    refine ⟨v2, w2, rfl, a2, wf2, by omega, t6, fun H7 b7 t7 => ?_⟩
    have hF7 := hF6.keep nfp b7
    refine ⟨_, rfl, _, _, rfl, rfl, rfl, _, rfl, ?_⟩
    rw [alike (n := 0) (x := 58 + r') (lim := 60) (by omega)]
    refine iteF ?_
    -- a wide saying
    refine ⟨_, rfl, _, rfl, f, 395 + r.toNat, (by show [V.ref f, V.int (395 + r)] = _; rw [ep]), by omega, by omega, by omega, hF7, fun w3 v3 H8 wf3 ⟨z3, d3⟩ a3 b8 hF8 => ?_⟩
    have t8 := tab_but t7 hF7 b8
    refine ⟨_, rfl, v3, w3, rfl, a3, wf3, by omega, t8, fun H9 b9 t9 => ?_⟩
    refine ⟨_, rfl, _, _, rfl, rfl, rfl, _, rfl, ?_⟩
    rw [alike (n := 0) (x := 395 + r) (lim := 400) (by omega)]
    refine iteF ?_
    refine ⟨_, rfl, v3, w3, rfl, a3.keep (tbl_tups t8 b9), wf3, by omega, t9, fun Ha ba ta => ?_⟩
    refine ⟨_, rfl, _, _, rfl, rfl, rfl, _, rfl, ?_⟩
    rw [alike (n := 0) (x := 395 + r) (lim := 400) (by omega)]
    refine iteF ?_
    have hFa := (hF8.keep nfp b9).keep nfp ba
    -- a deep saying
    refine ⟨_, rfl, _, rfl, f, 58 + r'.toNat, (by show [V.ref f, V.int (58 + r')] = _; rw [ed]), by omega, by omega, hFa, fun w4 v4 Hb wf4 ⟨z4, d4⟩ a4 bb hFb => ?_⟩
    have tb := tab_but ta hFa bb
    refine ⟨_, rfl, v4, w4, rfl, a4, wf4, by omega, tb, fun Hc bc tc => ?_⟩
    refine ⟨_, rfl, _, _, rfl, rfl, rfl, _, rfl, ?_⟩
    rw [alike (n := 0) (x := 58 + r') (lim := 60) (by omega)]
    refine iteF ?_
    refine ⟨_, rfl, v4, w4, rfl, a4.keep (tbl_tups tb bc), wf4, by omega, tc, fun Hd bd td => ?_⟩
    refine ⟨_, rfl, _, _, rfl, rfl, rfl, _, rfl, ?_⟩
    rw [alike (n := 0) (x := 58 + r') (lim := 60) (by omega)]
    refine iteF ?_
    refine ⟨_, _, _, _, _, rfl, fun b o n e => ?_, td⟩
    have e0 := b0 _ _ n e
    have nf := fresh e0
    exact bd _ _ n (bc _ _ n (bb _ _ nf (ba _ _ n (b9 _ _ n (b8 _ _ nf (b7 _ _ n (b6 _ _ nf (b5 _ _ n (b4 _ _ nf (b3 _ _ nf (b2 _ _ nf (s1 _ _ e0))))))))))))
  · rintro σ H0 ⟨y1, y2, y3, y4, y5, rfl, b0, t0⟩
    exact q H0
end
end Kf
set_option Elab.async false
set_option linter.all false
set_option maxRecDepth 100000
/-! The top, the end. -/
namespace Kf
open PySem PySem.Spec PyProof.Rows L2 Sx
/-- the end of a law, where one def of the text holds a generator expression: its table is still empty -/
theorem walk_named {l : PySem.W.OpenLaw} {n k : Nat} {q : Program} {loose : List Str} {XP : (Str → Option Value) → Heap → Prop} {YP : World → Heap → Prop} {d : DefRec} {K : Params → PySem.W.Frag} {CX : World → CXT} {x : Str} (nm : Str)
    (hn : l.most = some n) (line : n ≤ sizeLine) (hdf : d.params.defaults = []) (room : Room k callerA) (rec : ((recsOf q).any fun e => e.name == nm) = true) (hY : ∀ (w : World) (h : Heap), YP w h → (K w.params).In h)
    (F : ∀ (w : World) (mg : Str → Option Value) (fa : Addr) (h : Heap), YP w h → (K w.params).In h → h.Ns mainGlobals mg → mg d.name = some (.ref fa) → (∀ fw, mg nm = some (.ref fw) → LamX.OwnTab (K w.params) fw h) → LamX.LawAtS l w (K w.params) (CX w) k n x mg fa h)
    (out : ∀ (w : World) (H : Hp) (s : Shared) (e : Value) (s' : Shared), CX w [] H s (fun _ _ _ => False) e s' → False) : PySem.W.WalkO q loose XP YP l.row.toRowW d [] (fun f vs => PySem.call f vs) := by
  refine Att.attach_callB hn hdf fun w s0 s1 mg mb fa o pm cd doc a vs ns G Y ho hd hcd hmg hobj hints hlen hbits hg => ?_
  have KX := hY w _ Y
  have tabs : ∀ fw, mg nm = some (.ref fw) → LamX.OwnTab (K w.params) fw s1.heap := by
    intro fw hw c P o1 fd1 e dd us sl look isF isC lookC at11
    obtain ⟨dR, mem, same⟩ := List.any_eq_true.mp rec
    have eN : dR.name = nm := beq_iff_eq.mp same
    obtain ⟨a2, o2, fd2, c2, P2, g1, g2, g3, g4, _, ⟨oc, vc, g5, _, g6, g7⟩, empty⟩ := G.T.tab dR mem
    rw [eN] at g1
    cases hw.symm.trans g1
    cases (KX _ _ look).symm.trans g2
    cases isF.symm.trans g3
    cases isC.symm.trans g4
    cases (KX _ _ lookC).symm.trans g5
    cases g6
    cases at11.symm.trans g7
    exact empty
  obtain ⟨fd, cs, sp, hT, nT, hC, hb, hsp, hF⟩ := F w mg fa _ Y KX G.T.g hmg tabs
  exact LamX.law_callTs KX G.T.g G.T.b G.T.builtins G.T.nolimit hg hT nT hC G.T.bmain hobj hints (Nat.le_trans hlen line) room hF hb (fun H hH hS => hsp H a ns hlen hbits hH hS) fun H e s' => out w H s1 e s'

theorem all_mk {l : PySem.W.OpenLaw} {w : World} {K : PySem.W.Frag} {h : Heap} {mg : Str → Option Value} {fa f1 f2 f3 f4 f5 f6 f7 f8 f9 f10 f11 f12 f13 f14 f15 f16 f17 f18 LV BV FV cw PT ga1 gb1 ga2 gb2 ga3 gb3 ga4 gb4 ga5 gb5 ga6 gb6 ga7 gb7 ga8 gb8 ga9 gb9 ga10 gb10 : Addr} (X : K.In h) (G : h.Ns mainGlobals mg) (hfa : mg "law" = some (.ref fa)) (own : ∀ fw, mg "is_word" = some (.ref fw) → LamX.OwnTab K fw h)
    {od1 an1 od2 an2 od3 an3 od4 an4 od5 an5 od6 an6 od7 an7 od8 an8 od9 an9 od10 an10 od11 an11 od12 an12 od13 an13 od14 an14 od15 an15 od16 an16 od17 an17 od18 an18 : Option Addr} {sl1 sl2 sl3 sl4 sl5 sl6 sl7 sl8 sl9 sl10 sl11 sl12 sl13 sl14 sl15 sl16 sl17 sl18 : Array (Option Value)} {oc1 kV1 dc1 pm1 cd1 ct1 oc2 kV2 dc2 pm2 cd2 ct2 oc3 kV3 dc3 pm3 ct3 oc4 kV4 dc4 pm4 cd4 ct4 oc5 kV5 dc5 pm5 cd5 ct5 oc6 kV6 dc6 pm6 cd6 ct6 oc7 kV7 dc7 pm7 cd7 ct7 oc8 kV8 dc8 pm8 cd8 ct8 oc9 kV9 dc9 pm9 cd9 ct9 oc10 kV10 dc10 pm10 cd10 ct10 oc11 kV11 dc11 pm11 cd11 ct11 oc12 kV12 dc12 pm12 cd12 ct12 oc13 kV13 dc13 pm13 cd13 ct13 oc14 kV14 dc14 pm14 cd14 ct14 oc15 kV15 dc15 pm15 cd15 ct15 oc16 kV16 dc16 pm16 cd16 ct16 oc17 kV17 dc17 pm17 cd17 ct17 oc18 kV18 dc18 pm18 cd18 ct18 : Value}
    {ddL ddB ddC da1 db1 da2 db2 da3 db3 da4 db4 da5 db5 da6 db6 da7 db7 da8 db8 da9 db9 da10 db10 : Option Addr} {slL slB slC sa1 sb1 sa2 sb2 sa3 sb3 sa4 sb4 sa5 sb5 sa6 sb6 sa7 sb7 sa8 sb8 sa9 sb9 sa10 sb10 : Array (Option Value)} {nL nB nF na1 nb1 na2 nb2 na3 nb3 na4 nb4 na5 nb5 na6 nb6 na7 nb7 na8 nb8 na9 nb9 na10 nb10 : Nat} {t1 t2 t3 t4 t5 tG tT tM tP tW tf tg tt ta1 tb1 ta2 tb2 tc2 ta3 tb3 tc3 ta4 tb4 tc4 ta5 ta6 tb6 tc6 ta7 tb7 tc7 ta8 tb8 tc8 ta9 tb9 ta10 tb10 : Tok} {es : Array DictEntry} {vsC : Array Value} {gN flags text : Int} {file : Str} {inF : Bool}
    (a1 : PySem.W.nsIn K mainGlobals "beneath" = some (some (.ref f1))) (l1 : K.lookup f1 = some ⟨oc1, od1, .func (PySem.W.fnOf "beneath" "beneath" (defArgs sBeneath) (defBody sBeneath) (defScope sBeneath) .none kV1 dc1 pm1 an1 cd1 ct1), sl1⟩) (c1 : PySem.W.codeIn K cd1 "beneath" = true) (k1 : PySem.W.keepIn K (.ref f1) = true)
    (a2 : PySem.W.nsIn K mainGlobals "is_whole" = some (some (.ref f2))) (l2 : K.lookup f2 = some ⟨oc2, od2, .func (PySem.W.fnOf "is_whole" "is_whole" (defArgs sWhole) (defBody sWhole) (defScope sWhole) .none kV2 dc2 pm2 an2 cd2 ct2), sl2⟩) (c2 : PySem.W.codeIn K cd2 "is_whole" = true) (k2 : PySem.W.keepIn K (.ref f2) = true)
    (a3 : PySem.W.nsIn K mainGlobals "is_word" = some (some (.ref f3))) (l3 : K.lookup f3 = some ⟨oc3, od3, .func (PySem.W.fnOf "is_word" "is_word" (defArgs sWord) (defBody sWord) (defScope sWord) .none kV3 dc3 pm3 an3 (.ref cw) ct3), sl3⟩) (c3 : PySem.W.codeIn K (.ref cw) "is_word" = true) (k3 : PySem.W.keepIn K (.ref f3) = true)
    (a4 : PySem.W.nsIn K mainGlobals "is_leaf" = some (some (.ref f4))) (l4 : K.lookup f4 = some ⟨oc4, od4, .func (PySem.W.fnOf "is_leaf" "is_leaf" (defArgs sIsLeaf) (defBody sIsLeaf) (defScope sIsLeaf) .none kV4 dc4 pm4 an4 cd4 ct4), sl4⟩) (c4 : PySem.W.codeIn K cd4 "is_leaf" = true) (k4 : PySem.W.keepIn K (.ref f4) = true)
    (a5 : PySem.W.nsIn K mainGlobals "has_form" = some (some (.ref f5))) (l5 : K.lookup f5 = some ⟨oc5, od5, .func (PySem.W.fnOf "has_form" "has_form" (defArgs sForm) (defBody sForm) (defScope sForm) .none kV5 dc5 pm5 an5 cd5 ct5), sl5⟩) (c5 : PySem.W.codeIn K cd5 "has_form" = true) (k5 : PySem.W.keepIn K (.ref f5) = true)
    (a6 : PySem.W.nsIn K mainGlobals "is_made" = some (some (.ref f6))) (l6 : K.lookup f6 = some ⟨oc6, od6, .func (PySem.W.fnOf "is_made" "is_made" (defArgs sMade) (defBody sMade) (defScope sMade) .none kV6 dc6 pm6 an6 cd6 ct6), sl6⟩) (c6 : PySem.W.codeIn K cd6 "is_made" = true) (k6 : PySem.W.keepIn K (.ref f6) = true)
    (a7 : PySem.W.nsIn K mainGlobals "is_term" = some (some (.ref f7))) (l7 : K.lookup f7 = some ⟨oc7, od7, .func (PySem.W.fnOf "is_term" "is_term" (defArgs sTermQ) (defBody sTermQ) (defScope sTermQ) .none kV7 dc7 pm7 an7 cd7 ct7), sl7⟩) (c7 : PySem.W.codeIn K cd7 "is_term" = true) (k7 : PySem.W.keepIn K (.ref f7) = true)
    (a8 : PySem.W.nsIn K mainGlobals "is_saying" = some (some (.ref f8))) (l8 : K.lookup f8 = some ⟨oc8, od8, .func (PySem.W.fnOf "is_saying" "is_saying" (defArgs sSayingQ) (defBody sSayingQ) (defScope sSayingQ) .none kV8 dc8 pm8 an8 cd8 ct8), sl8⟩) (c8 : PySem.W.codeIn K cd8 "is_saying" = true) (k8 : PySem.W.keepIn K (.ref f8) = true)
    (a9 : PySem.W.nsIn K mainGlobals "is_body" = some (some (.ref f9))) (l9 : K.lookup f9 = some ⟨oc9, od9, .func (PySem.W.fnOf "is_body" "is_body" (defArgs sBodyQ) (defBody sBodyQ) (defScope sBodyQ) .none kV9 dc9 pm9 an9 cd9 ct9), sl9⟩) (c9 : PySem.W.codeIn K cd9 "is_body" = true) (k9 : PySem.W.keepIn K (.ref f9) = true)
    (a10 : PySem.W.nsIn K mainGlobals "_law_feed" = some (some (.ref f10))) (l10 : K.lookup f10 = some ⟨oc10, od10, .func (PySem.W.fnOf "_law_feed" "_law_feed" (defArgs sFeed) (defBody sFeed) (defScope sFeed) .none kV10 dc10 pm10 an10 cd10 ct10), sl10⟩) (c10 : PySem.W.codeIn K cd10 "_law_feed" = true) (k10 : PySem.W.keepIn K (.ref f10) = true)
    (a11 : PySem.W.nsIn K mainGlobals "_law_take" = some (some (.ref f11))) (l11 : K.lookup f11 = some ⟨oc11, od11, .func (PySem.W.fnOf "_law_take" "_law_take" (defArgs sTake) (defBody sTake) (defScope sTake) .none kV11 dc11 pm11 an11 cd11 ct11), sl11⟩) (c11 : PySem.W.codeIn K cd11 "_law_take" = true) (k11 : PySem.W.keepIn K (.ref f11) = true)
    (a12 : PySem.W.nsIn K mainGlobals "_law_pick" = some (some (.ref f12))) (l12 : K.lookup f12 = some ⟨oc12, od12, .func (PySem.W.fnOf "_law_pick" "_law_pick" (defArgs sPick) (defBody sPick) (defScope sPick) .none kV12 dc12 pm12 an12 cd12 ct12), sl12⟩) (c12 : PySem.W.codeIn K cd12 "_law_pick" = true) (k12 : PySem.W.keepIn K (.ref f12) = true)
    (a13 : PySem.W.nsIn K mainGlobals "_law_leaf" = some (some (.ref f13))) (l13 : K.lookup f13 = some ⟨oc13, od13, .func (PySem.W.fnOf "_law_leaf" "_law_leaf" (defArgs sLeaf) (defBody sLeaf) (defScope sLeaf) .none kV13 dc13 pm13 an13 cd13 ct13), sl13⟩) (c13 : PySem.W.codeIn K cd13 "_law_leaf" = true) (k13 : PySem.W.keepIn K (.ref f13) = true)
    (a14 : PySem.W.nsIn K mainGlobals "_law_wide_term" = some (some (.ref f14))) (l14 : K.lookup f14 = some ⟨oc14, od14, .func (PySem.W.fnOf "_law_wide_term" "_law_wide_term" (defArgs sWT) (defBody sWT) (defScope sWT) .none kV14 dc14 pm14 an14 cd14 ct14), sl14⟩) (c14 : PySem.W.codeIn K cd14 "_law_wide_term" = true) (k14 : PySem.W.keepIn K (.ref f14) = true)
    (a15 : PySem.W.nsIn K mainGlobals "_law_wide_saying" = some (some (.ref f15))) (l15 : K.lookup f15 = some ⟨oc15, od15, .func (PySem.W.fnOf "_law_wide_saying" "_law_wide_saying" (defArgs sWS) (defBody sWS) (defScope sWS) .none kV15 dc15 pm15 an15 cd15 ct15), sl15⟩) (c15 : PySem.W.codeIn K cd15 "_law_wide_saying" = true) (k15 : PySem.W.keepIn K (.ref f15) = true)
    (a16 : PySem.W.nsIn K mainGlobals "_law_deep_term" = some (some (.ref f16))) (l16 : K.lookup f16 = some ⟨oc16, od16, .func (PySem.W.fnOf "_law_deep_term" "_law_deep_term" (defArgs sDT) (defBody sDT) (defScope sDT) .none kV16 dc16 pm16 an16 cd16 ct16), sl16⟩) (c16 : PySem.W.codeIn K cd16 "_law_deep_term" = true) (k16 : PySem.W.keepIn K (.ref f16) = true)
    (a17 : PySem.W.nsIn K mainGlobals "_law_deep_saying" = some (some (.ref f17))) (l17 : K.lookup f17 = some ⟨oc17, od17, .func (PySem.W.fnOf "_law_deep_saying" "_law_deep_saying" (defArgs sDS) (defBody sDS) (defScope sDS) .none kV17 dc17 pm17 an17 cd17 ct17), sl17⟩) (c17 : PySem.W.codeIn K cd17 "_law_deep_saying" = true) (k17 : PySem.W.keepIn K (.ref f17) = true)
    (a18 : PySem.W.nsIn K mainGlobals "law" = some (some (.ref f18))) (l18 : K.lookup f18 = some ⟨oc18, od18, .func (PySem.W.fnOf "law" "law" (defArgs sLaw) (defBody sLaw) (defScope sLaw) .none kV18 dc18 pm18 an18 cd18 ct18), sl18⟩) (c18 : PySem.W.codeIn K cd18 "law" = true) (k18 : PySem.W.keepIn K (.ref f18) = true)
    (zrange : PySem.W.nsIn K mainGlobals "range" = some none)
    (zmax : PySem.W.nsIn K mainGlobals "max" = some none)
    (zmin : PySem.W.nsIn K mainGlobals "min" = some none)
    (zlen : PySem.W.nsIn K mainGlobals "len" = some none)
    (zabs : PySem.W.nsIn K mainGlobals "abs" = some none)
    (zisinstance : PySem.W.nsIn K mainGlobals "isinstance" = some none)
    (zint : PySem.W.nsIn K mainGlobals "int" = some none)
    (zbool : PySem.W.nsIn K mainGlobals "bool" = some none)
    (zstr : PySem.W.nsIn K mainGlobals "str" = some none)
    (ztuple : PySem.W.nsIn K mainGlobals "tuple" = some none)
    (zall : PySem.W.nsIn K mainGlobals "all" = some none)
    (zzip : PySem.W.nsIn K mainGlobals "zip" = some none)
    (aL : PySem.W.nsIn K mainGlobals "LEAVES" = some (some (.ref LV))) (oL : K.lookup LV = some ⟨.type "tuple", ddL, .seq #[.str "num" t1, .str "name" t2, .str "bound" t3] nL, slL⟩)
    (aB : PySem.W.nsIn K mainGlobals "BINDERS" = some (some (.ref BV))) (oB : K.lookup BV = some ⟨.type "tuple", ddB, .seq #[.str "all" t4, .str "some" t5] nB, slB⟩)
    (aF : PySem.W.nsIn K mainGlobals "FORMS" = some (some (.ref FV))) (oF : K.lookup FV = some ⟨.type "dict", none, .dict es nF, #[]⟩) (litF : PySem.W.KeysLit w.params es.toList) (lowF : (FV == sysModules) = false)
    (aG : PySem.W.nsIn K mainGlobals "TOO_GREAT" = some (some (.int gN tG))) (eG : gN = 10 ^ 60) (aT : PySem.W.nsIn K mainGlobals "LETTERS" = some (some (.str abc tT))) (aM : PySem.W.nsIn K mainGlobals "MOST_LETTERS" = some (some (.int 8 tM))) (aP : PySem.W.nsIn K mainGlobals "MOST_PIECES" = some (some (.int 400 tP))) (aW : PySem.W.nsIn K mainGlobals "MOST_WITHIN" = some (some (.int 60 tW)))
    (lC : K.lookup cw = some ⟨.type "code", ddC, .fields vsC, slC⟩) (v11 : vsC[11]? = some (.ref PT)) (g11 : vsC.getD 11 .none = .ref PT) (g18 : vsC.getD 18 .none = .str file tf) (g7 : vsC.getD 7 .none = .int flags tg) (g9 : vsC.getD 9 .none = .bool inF) (g10 : vsC.getD 10 .none = .int text tt) (ncp : cw ≠ PT) (nPT : K.lookup PT = none)
    (n1 : PySem.W.nsIn K FV "next" = some (some (.ref ga1))) (p1 : K.lookup ga1 = some ⟨.type "tuple", da1, .seq #[.str "term" ta1, .ref gb1] na1, sa1⟩) (q1 : K.lookup gb1 = some ⟨.type "tuple", db1, .seq #[.str "term" tb1] nb1, sb1⟩)
    (n2 : PySem.W.nsIn K FV "plus" = some (some (.ref ga2))) (p2 : K.lookup ga2 = some ⟨.type "tuple", da2, .seq #[.str "term" ta2, .ref gb2] na2, sa2⟩) (q2 : K.lookup gb2 = some ⟨.type "tuple", db2, .seq #[.str "term" tb2, .str "term" tc2] nb2, sb2⟩)
    (n3 : PySem.W.nsIn K FV "times" = some (some (.ref ga3))) (p3 : K.lookup ga3 = some ⟨.type "tuple", da3, .seq #[.str "term" ta3, .ref gb3] na3, sa3⟩) (q3 : K.lookup gb3 = some ⟨.type "tuple", db3, .seq #[.str "term" tb3, .str "term" tc3] nb3, sb3⟩)
    (n4 : PySem.W.nsIn K FV "same" = some (some (.ref ga4))) (p4 : K.lookup ga4 = some ⟨.type "tuple", da4, .seq #[.str "saying" ta4, .ref gb4] na4, sa4⟩) (q4 : K.lookup gb4 = some ⟨.type "tuple", db4, .seq #[.str "term" tb4, .str "term" tc4] nb4, sb4⟩)
    (n5 : PySem.W.nsIn K FV "no" = some (some (.ref ga5))) (p5 : K.lookup ga5 = some ⟨.type "tuple", da5, .seq #[.str "saying" ta5, .ref gb5] na5, sa5⟩) (q5 : K.lookup gb5 = some ⟨.type "tuple", db5, .seq #[] nb5, sb5⟩)
    (n6 : PySem.W.nsIn K FV "and" = some (some (.ref ga6))) (p6 : K.lookup ga6 = some ⟨.type "tuple", da6, .seq #[.str "saying" ta6, .ref gb6] na6, sa6⟩) (q6 : K.lookup gb6 = some ⟨.type "tuple", db6, .seq #[.str "saying" tb6, .str "saying" tc6] nb6, sb6⟩)
    (n7 : PySem.W.nsIn K FV "or" = some (some (.ref ga7))) (p7 : K.lookup ga7 = some ⟨.type "tuple", da7, .seq #[.str "saying" ta7, .ref gb7] na7, sa7⟩) (q7 : K.lookup gb7 = some ⟨.type "tuple", db7, .seq #[.str "saying" tb7, .str "saying" tc7] nb7, sb7⟩)
    (n8 : PySem.W.nsIn K FV "if" = some (some (.ref ga8))) (p8 : K.lookup ga8 = some ⟨.type "tuple", da8, .seq #[.str "saying" ta8, .ref gb8] na8, sa8⟩) (q8 : K.lookup gb8 = some ⟨.type "tuple", db8, .seq #[.str "saying" tb8, .str "saying" tc8] nb8, sb8⟩)
    (n9 : PySem.W.nsIn K FV "all" = some (some (.ref ga9))) (p9 : K.lookup ga9 = some ⟨.type "tuple", da9, .seq #[.str "saying" ta9, .ref gb9] na9, sa9⟩) (q9 : K.lookup gb9 = some ⟨.type "tuple", db9, .seq #[.str "saying" tb9] nb9, sb9⟩)
    (n10 : PySem.W.nsIn K FV "some" = some (some (.ref ga10))) (p10 : K.lookup ga10 = some ⟨.type "tuple", da10, .seq #[.str "saying" ta10, .ref gb10] na10, sa10⟩) (q10 : K.lookup gb10 = some ⟨.type "tuple", db10, .seq #[.str "saying" tb10] nb10, sb10⟩) :
    LamX.LawAtS l w K CX0 20 63 "script" mg fa h := by
  have e := hfa.symm.trans (PySem.W.mg_of X G a18)
  cases e
  have F1 := fun_mk (st := sBeneath) l1 c1 k1
  have b1 := F1.binds (ps := ["piece", "around"]) fun _ _ _ _ _ _ us hl => match us, hl with | [_, _], _ => rfl
  have m1 := PySem.W.mg_of X G a1
  have F2 := fun_mk (st := sWhole) l2 c2 k2
  have b2 := F2.binds (ps := ["thing"]) fun _ _ _ _ _ _ us hl => match us, hl with | [_], _ => rfl
  have m2 := PySem.W.mg_of X G a2
  have F3 := fun_mk (st := sWord) l3 c3 k3
  have b3 := F3.binds (ps := ["thing"]) fun _ _ _ _ _ _ us hl => match us, hl with | [_], _ => rfl
  have m3 := PySem.W.mg_of X G a3
  have F4 := fun_mk (st := sIsLeaf) l4 c4 k4
  have b4 := F4.binds (ps := ["piece", "bounds"]) fun _ _ _ _ _ _ us hl => match us, hl with | [_, _], _ => rfl
  have m4 := PySem.W.mg_of X G a4
  have F5 := fun_mk (st := sForm) l5 c5 k5
  have b5 := F5.binds (ps := ["piece", "kind", "bounds"]) fun _ _ _ _ _ _ us hl => match us, hl with | [_, _, _], _ => rfl
  have m5 := PySem.W.mg_of X G a5
  have F6 := fun_mk (st := sMade) l6 c6 k6
  have b6 := F6.binds (ps := ["thing", "kind", "slack"]) fun _ _ _ _ _ _ us hl => match us, hl with | [_, _, _], _ => rfl
  have m6 := PySem.W.mg_of X G a6
  have F7 := fun_mk (st := sTermQ) l7 c7 k7
  have b7 := F7.binds (ps := ["thing"]) fun _ _ _ _ _ _ us hl => match us, hl with | [_], _ => rfl
  have m7 := PySem.W.mg_of X G a7
  have F8 := fun_mk (st := sSayingQ) l8 c8 k8
  have b8 := F8.binds (ps := ["thing"]) fun _ _ _ _ _ _ us hl => match us, hl with | [_], _ => rfl
  have m8 := PySem.W.mg_of X G a8
  have F9 := fun_mk (st := sBodyQ) l9 c9 k9
  have b9 := F9.binds (ps := ["thing"]) fun _ _ _ _ _ _ us hl => match us, hl with | [_], _ => rfl
  have m9 := PySem.W.mg_of X G a9
  have F10 := fun_mk (st := sFeed) l10 c10 k10
  have b10 := F10.binds (ps := ["script", "k"]) fun _ _ _ _ _ _ us hl => match us, hl with | [_, _], _ => rfl
  have m10 := PySem.W.mg_of X G a10
  have F11 := fun_mk (st := sTake) l11 c11 k11
  have b11 := F11.binds (ps := ["feed", "many"]) fun _ _ _ _ _ _ us hl => match us, hl with | [_, _], _ => rfl
  have m11 := PySem.W.mg_of X G a11
  have F12 := fun_mk (st := sPick) l12 c12 k12
  have b12 := F12.binds (ps := ["feed", "some"]) fun _ _ _ _ _ _ us hl => match us, hl with | [_, _], _ => rfl
  have m12 := PySem.W.mg_of X G a12
  have F13 := fun_mk (st := sLeaf) l13 c13 k13
  have b13 := F13.binds (ps := ["feed"]) fun _ _ _ _ _ _ us hl => match us, hl with | [_], _ => rfl
  have m13 := PySem.W.mg_of X G a13
  have F14 := fun_mk (st := sWT) l14 c14 k14
  have b14 := F14.binds (ps := ["feed", "pieces"]) fun _ _ _ _ _ _ us hl => match us, hl with | [_, _], _ => rfl
  have m14 := PySem.W.mg_of X G a14
  have F15 := fun_mk (st := sWS) l15 c15 k15
  have b15 := F15.binds (ps := ["feed", "pieces"]) fun _ _ _ _ _ _ us hl => match us, hl with | [_, _], _ => rfl
  have m15 := PySem.W.mg_of X G a15
  have F16 := fun_mk (st := sDT) l16 c16 k16
  have b16 := F16.binds (ps := ["feed", "deep"]) fun _ _ _ _ _ _ us hl => match us, hl with | [_, _], _ => rfl
  have m16 := PySem.W.mg_of X G a16
  have F17 := fun_mk (st := sDS) l17 c17 k17
  have b17 := F17.binds (ps := ["feed", "deep"]) fun _ _ _ _ _ _ us hl => match us, hl with | [_, _], _ => rfl
  have m17 := PySem.W.mg_of X G a17
  have F18 := fun_mk (st := sLaw) l18 c18 k18
  have m18 := PySem.W.mg_of X G a18
  have grange := PySem.W.mg_none_of X G zrange
  have gmax := PySem.W.mg_none_of X G zmax
  have gmin := PySem.W.mg_none_of X G zmin
  have glen := PySem.W.mg_none_of X G zlen
  have gabs := PySem.W.mg_none_of X G zabs
  have gisinstance := PySem.W.mg_none_of X G zisinstance
  have gint := PySem.W.mg_none_of X G zint
  have gbool := PySem.W.mg_none_of X G zbool
  have gstr := PySem.W.mg_none_of X G zstr
  have gtuple := PySem.W.mg_none_of X G ztuple
  have gall := PySem.W.mg_none_of X G zall
  have gzip := PySem.W.mg_none_of X G zzip
  have form : ∀ wd k ks, (wd, k, ks) ∈ table → ∃ fa fb, PySem.W.nsIn K FV wd = some (some (.ref fa)) ∧ (∀ H, SqT K H fa [.str k, .ref fb]) ∧ ∀ H, SqT K H fb (ks.map V.str) := by
    intro wd k ks hm
    rcases List.mem_cons.mp hm with e | hm
    · cases e
      exact ⟨_, _, n1, fun H => .inr ⟨_, _, _, p1, rfl, rfl, (by show 2 ≤ sizeLine; decide), .cons ⟨_, rfl⟩ (.cons rfl .nil)⟩, fun H => .inr ⟨_, _, _, q1, rfl, rfl, (by show 1 ≤ sizeLine; decide), .cons ⟨_, rfl⟩ (.nil)⟩⟩
    rcases List.mem_cons.mp hm with e | hm
    · cases e
      exact ⟨_, _, n2, fun H => .inr ⟨_, _, _, p2, rfl, rfl, (by show 2 ≤ sizeLine; decide), .cons ⟨_, rfl⟩ (.cons rfl .nil)⟩, fun H => .inr ⟨_, _, _, q2, rfl, rfl, (by show 2 ≤ sizeLine; decide), .cons ⟨_, rfl⟩ (.cons ⟨_, rfl⟩ (.nil))⟩⟩
    rcases List.mem_cons.mp hm with e | hm
    · cases e
      exact ⟨_, _, n3, fun H => .inr ⟨_, _, _, p3, rfl, rfl, (by show 2 ≤ sizeLine; decide), .cons ⟨_, rfl⟩ (.cons rfl .nil)⟩, fun H => .inr ⟨_, _, _, q3, rfl, rfl, (by show 2 ≤ sizeLine; decide), .cons ⟨_, rfl⟩ (.cons ⟨_, rfl⟩ (.nil))⟩⟩
    rcases List.mem_cons.mp hm with e | hm
    · cases e
      exact ⟨_, _, n4, fun H => .inr ⟨_, _, _, p4, rfl, rfl, (by show 2 ≤ sizeLine; decide), .cons ⟨_, rfl⟩ (.cons rfl .nil)⟩, fun H => .inr ⟨_, _, _, q4, rfl, rfl, (by show 2 ≤ sizeLine; decide), .cons ⟨_, rfl⟩ (.cons ⟨_, rfl⟩ (.nil))⟩⟩
    rcases List.mem_cons.mp hm with e | hm
    · cases e
      exact ⟨_, _, n5, fun H => .inr ⟨_, _, _, p5, rfl, rfl, (by show 2 ≤ sizeLine; decide), .cons ⟨_, rfl⟩ (.cons rfl .nil)⟩, fun H => .inr ⟨_, _, _, q5, rfl, rfl, (by show 0 ≤ sizeLine; decide), .nil⟩⟩
    rcases List.mem_cons.mp hm with e | hm
    · cases e
      exact ⟨_, _, n6, fun H => .inr ⟨_, _, _, p6, rfl, rfl, (by show 2 ≤ sizeLine; decide), .cons ⟨_, rfl⟩ (.cons rfl .nil)⟩, fun H => .inr ⟨_, _, _, q6, rfl, rfl, (by show 2 ≤ sizeLine; decide), .cons ⟨_, rfl⟩ (.cons ⟨_, rfl⟩ (.nil))⟩⟩
    rcases List.mem_cons.mp hm with e | hm
    · cases e
      exact ⟨_, _, n7, fun H => .inr ⟨_, _, _, p7, rfl, rfl, (by show 2 ≤ sizeLine; decide), .cons ⟨_, rfl⟩ (.cons rfl .nil)⟩, fun H => .inr ⟨_, _, _, q7, rfl, rfl, (by show 2 ≤ sizeLine; decide), .cons ⟨_, rfl⟩ (.cons ⟨_, rfl⟩ (.nil))⟩⟩
    rcases List.mem_cons.mp hm with e | hm
    · cases e
      exact ⟨_, _, n8, fun H => .inr ⟨_, _, _, p8, rfl, rfl, (by show 2 ≤ sizeLine; decide), .cons ⟨_, rfl⟩ (.cons rfl .nil)⟩, fun H => .inr ⟨_, _, _, q8, rfl, rfl, (by show 2 ≤ sizeLine; decide), .cons ⟨_, rfl⟩ (.cons ⟨_, rfl⟩ (.nil))⟩⟩
    rcases List.mem_cons.mp hm with e | hm
    · cases e
      exact ⟨_, _, n9, fun H => .inr ⟨_, _, _, p9, rfl, rfl, (by show 2 ≤ sizeLine; decide), .cons ⟨_, rfl⟩ (.cons rfl .nil)⟩, fun H => .inr ⟨_, _, _, q9, rfl, rfl, (by show 1 ≤ sizeLine; decide), .cons ⟨_, rfl⟩ (.nil)⟩⟩
    · cases List.mem_singleton.mp hm
      exact ⟨_, _, n10, fun H => .inr ⟨_, _, _, p10, rfl, rfl, (by show 2 ≤ sizeLine; decide), .cons ⟨_, rfl⟩ (.cons rfl .nil)⟩, fun H => .inr ⟨_, _, _, q10, rfl, rfl, (by show 1 ≤ sizeLine; decide), .cons ⟨_, rfl⟩ (.nil)⟩⟩
  have T : Txt K w mg LV BV FV := ⟨PySem.W.mg_of X G aL, PySem.W.mg_of X G aB, PySem.W.mg_of X G aF, fun H => .inr ⟨_, _, _, oL, rfl, rfl, (by show 3 ≤ sizeLine; decide), .cons ⟨_, rfl⟩ (.cons ⟨_, rfl⟩ (.cons ⟨_, rfl⟩ .nil))⟩, fun H => .inr ⟨_, _, _, oB, rfl, rfl, (by show 2 ≤ sizeLine; decide), .cons ⟨_, rfl⟩ (.cons ⟨_, rfl⟩ .nil)⟩,
    ⟨_, _, oF, litF, lowF⟩, form, ⟨tG, by rw [← eG]; exact PySem.W.mg_of X G aG⟩, ⟨_, PySem.W.mg_of X G aT⟩, ⟨_, PySem.W.mg_of X G aM⟩, ⟨_, PySem.W.mg_of X G aP⟩, ⟨_, PySem.W.mg_of X G aW⟩, gisinstance, gint, gbool, gstr, gtuple, glen, gall, gzip⟩
  have empty : h.get? PT = some { cls := .none, data := .fields #[] } := own f3 m3 cw PT _ _ _ _ _ _ l3 rfl rfl lC v11
  refine ⟨PySem.W.fnOf "law" "law" (defArgs sLaw) (defBody sLaw) (defScope sLaw) .none kV18 dc18 pm18 an18 cd18 ct18, [(cw, PT)], spLaw K PT, fun p hp => by rw [List.mem_singleton.mp hp]; exact empty, fun p hp => by rw [List.mem_singleton.mp hp]; exact nPT,
    fun p hp => by rw [List.mem_singleton.mp hp]; exact ⟨_, vsC, file, tf, flags, tg, inF, text, tt, X _ _ lC, rfl, rfl, v11, g11, g18, g7, g9, g10, ncp⟩, fun s v => .of_eq rfl,
    fun H a ns hl hb ht hS => ⟨a, ns, rfl, hS, hl, hb, ⟨#[], ht (cw, PT) (List.mem_singleton.mpr rfl), trivial⟩, fun _ => rfl⟩, fun base _ _ tabs => ?_⟩
  have tab : GxR.TabB base mg cw PT := by
    have t := tabs (cw, PT) (List.mem_singleton.mpr rfl)
    exact ⟨t.code, t.bm, t.gP⟩
  have gTake := ok_take (P := l.prog) (w := w) (mg := mg) (base := base) (j := 0) F11
  have D : Draw l.prog w K mg base f11 f12 _ _ := ⟨gTake, b11, k11, m11, ok_pick F12 gTake b11 k11 m11 glen, b12, k12, m12⟩
  have gLeaf := ok_leaf F13 D
  have bl := b13
  have gWT := ok_WTs F14 D gLeaf bl k13 m13 gmax b14 m14
  have gWS := ok_WSs F15 D gWT b14 k14 m14 gmax b15 m15
  have gDT := ok_DT F16 D gLeaf bl k13 m13 grange
  have gDS := ok_DS F17 D gLeaf bl k13 m13 gDT b16 k16 m16 grange
  have gFeed := ok_feed (P := l.prog) (w := w) (base := base) (j := 0) F10 glen gabs
  have gBen := ok_beneath (P := l.prog) (w := w) (base := base) (j := 0) F1 T
  have gWhole := ok_whole (P := l.prog) (w := w) (base := base) (j := 0) F2 T
  have gWord := ok_word (P := l.prog) (w := w) (j := 0) l3 c3 T tab
  have gIsLeaf := ok_isleaf F4 T gWord b3 k3 m3 gWhole b2 k2 m2
  have gForm := ok_form F5 T gIsLeaf b4 k4 m4
  have gMade := ok_made F6 T gForm b5 k5 m5 gBen b1 k1 m1
  have q1 := ok_termQ F7 gMade b6 k6 m6
  have q2 := ok_sayingQ F8 gMade b6 k6 m6
  have q3 := ok_bodyQ F9 gMade b6 k6 m6
  exact ok_law F18 ⟨D, gFeed, b10, k10, m10, gWT 16, b14, k14, m14, gWS 16, b15, k15, m15, gDT, b16, k16, m16, gDS, b17, k17, m17,
    q1, b7, k7, m7, q2, b8, k8, m8, q3, b9, k9, m9, grange, gmax, gmin, glen⟩
theorem walk {l : PySem.W.OpenLaw} {q : Program} {loose : List Str} {XP : (Str → Option Value) → Heap → Prop} {YP : World → Heap → Prop} {d : DefRec} {K : Params → PySem.W.Frag} (hn : l.most = some 63) (hdf : d.params.defaults = []) (rec : ((recsOf q).any fun e => e.name == ("is_word" : Str)) = true)
    (hY : ∀ (w : World) (h : Heap), YP w h → (K w.params).In h)
    (F : ∀ (w : World) (mg : Str → Option Value) (fa : Addr) (h : Heap), (K w.params).In h → h.Ns mainGlobals mg → mg d.name = some (.ref fa) → (∀ fw, mg "is_word" = some (.ref fw) → LamX.OwnTab (K w.params) fw h) → LamX.LawAtS l w (K w.params) CX0 20 63 "script" mg fa h) :
    PySem.W.WalkO q loose XP YP l.row.toRowW d [] (fun f vs => PySem.call f vs) :=
  walk_named (CX := fun _ => CX0) "is_word" hn (by decide) hdf ⟨rfl, by decide, by decide⟩ rec hY (fun w mg fa h _ KX G hm t => F w mg fa h KX G hm t) fun _ _ _ _ _ z => z
end Kf
open PySem PySem.W PyProof.Rows in
set_option maxRecDepth 100000 in
set_option maxHeartbeats 0 in
theorem PySem.Challenge.cw_prooffruit_k03_how_great_holds : PySem.Challenge.rw_prooffruit_k03_how_great.Holds := by
  w_on; o_law; k_head; (case hw => w_witness2)
  k_fill
  refine Kf.walk (l := PySem.Challenge.rw_prooffruit_k03_how_great) rfl rfl (by decide +kernel) (fun w h Y => PySem.W.kIn_of Y) ?F
  case F =>
    intro w mg fa h KX G hmg own
    refine' Kf.all_mk KX G hmg own ?a1 ?l1 ?c1 ?k1 ?a2 ?l2 ?c2 ?k2 ?a3 ?l3 ?c3 ?k3 ?a4 ?l4 ?c4 ?k4 ?a5 ?l5 ?c5 ?k5 ?a6 ?l6 ?c6 ?k6 ?a7 ?l7 ?c7 ?k7 ?a8 ?l8 ?c8 ?k8 ?a9 ?l9 ?c9 ?k9 ?a10 ?l10 ?c10 ?k10 ?a11 ?l11 ?c11 ?k11 ?a12 ?l12 ?c12 ?k12 ?a13 ?l13 ?c13 ?k13 ?a14 ?l14 ?c14 ?k14 ?a15 ?l15 ?c15 ?k15 ?a16 ?l16 ?c16 ?k16 ?a17 ?l17 ?c17 ?k17 ?a18 ?l18 ?c18 ?k18 ?zrange ?zmax ?zmin ?zlen ?zabs ?zisinstance ?zint ?zbool ?zstr ?ztuple ?zall ?zzip ?aL ?oL ?aB ?oB ?aF ?oF ?litF ?lowF ?aG ?eG ?aT ?aM ?aP ?aW ?lC ?v11 ?g11 ?g18 ?g7 ?g9 ?g10 ?ncp ?nPT ?n1 ?p1 ?q1 ?n2 ?p2 ?q2 ?n3 ?p3 ?q3 ?n4 ?p4 ?q4 ?n5 ?p5 ?q5 ?n6 ?p6 ?q6 ?n7 ?p7 ?q7 ?n8 ?p8 ?q8 ?n9 ?p9 ?q9 ?n10 ?p10 ?q10
    (case a1 => first | k_is | rfl)
    (case l1 => first | k_is | rfl)
    (case c1 => first | k_is | rfl)
    (case k1 => first | k_is | rfl)
    (case a2 => first | k_is | rfl)
    (case l2 => first | k_is | rfl)
    (case c2 => first | k_is | rfl)
    (case k2 => first | k_is | rfl)
    (case a3 => first | k_is | rfl)
    (case l3 => first | k_is | rfl)
    (case c3 => first | k_is | rfl)
    (case k3 => first | k_is | rfl)
    (case a4 => first | k_is | rfl)
    (case l4 => first | k_is | rfl)
    (case c4 => first | k_is | rfl)
    (case k4 => first | k_is | rfl)
    (case a5 => first | k_is | rfl)
    (case l5 => first | k_is | rfl)
    (case c5 => first | k_is | rfl)
    (case k5 => first | k_is | rfl)
    (case a6 => first | k_is | rfl)
    (case l6 => first | k_is | rfl)
    (case c6 => first | k_is | rfl)
    (case k6 => first | k_is | rfl)
    (case a7 => first | k_is | rfl)
    (case l7 => first | k_is | rfl)
    (case c7 => first | k_is | rfl)
    (case k7 => first | k_is | rfl)
    (case a8 => first | k_is | rfl)
    (case l8 => first | k_is | rfl)
    (case c8 => first | k_is | rfl)
    (case k8 => first | k_is | rfl)
    (case a9 => first | k_is | rfl)
    (case l9 => first | k_is | rfl)
    (case c9 => first | k_is | rfl)
    (case k9 => first | k_is | rfl)
    (case a10 => first | k_is | rfl)
    (case l10 => first | k_is | rfl)
    (case c10 => first | k_is | rfl)
    (case k10 => first | k_is | rfl)
    (case a11 => first | k_is | rfl)
    (case l11 => first | k_is | rfl)
    (case c11 => first | k_is | rfl)
    (case k11 => first | k_is | rfl)
    (case a12 => first | k_is | rfl)
    (case l12 => first | k_is | rfl)
    (case c12 => first | k_is | rfl)
    (case k12 => first | k_is | rfl)
    (case a13 => first | k_is | rfl)
    (case l13 => first | k_is | rfl)
    (case c13 => first | k_is | rfl)
    (case k13 => first | k_is | rfl)
    (case a14 => first | k_is | rfl)
    (case l14 => first | k_is | rfl)
    (case c14 => first | k_is | rfl)
    (case k14 => first | k_is | rfl)
    (case a15 => first | k_is | rfl)
    (case l15 => first | k_is | rfl)
    (case c15 => first | k_is | rfl)
    (case k15 => first | k_is | rfl)
    (case a16 => first | k_is | rfl)
    (case l16 => first | k_is | rfl)
    (case c16 => first | k_is | rfl)
    (case k16 => first | k_is | rfl)
    (case a17 => first | k_is | rfl)
    (case l17 => first | k_is | rfl)
    (case c17 => first | k_is | rfl)
    (case k17 => first | k_is | rfl)
    (case a18 => first | k_is | rfl)
    (case l18 => first | k_is | rfl)
    (case c18 => first | k_is | rfl)
    (case k18 => first | k_is | rfl)
    (case zrange => first | k_is | rfl)
    (case zmax => first | k_is | rfl)
    (case zmin => first | k_is | rfl)
    (case zlen => first | k_is | rfl)
    (case zabs => first | k_is | rfl)
    (case zisinstance => first | k_is | rfl)
    (case zint => first | k_is | rfl)
    (case zbool => first | k_is | rfl)
    (case zstr => first | k_is | rfl)
    (case ztuple => first | k_is | rfl)
    (case zall => first | k_is | rfl)
    (case zzip => first | k_is | rfl)
    (case aL => first | k_is | rfl)
    (case oL => first | k_is | rfl)
    (case aB => first | k_is | rfl)
    (case oB => first | k_is | rfl)
    (case aF => first | k_is | rfl)
    (case oF => first | k_is | rfl)
    (case litF => first | k_is | exact ⟨⟨_, _, rfl, rfl⟩, ⟨_, _, rfl, rfl⟩, ⟨_, _, rfl, rfl⟩, ⟨_, _, rfl, rfl⟩, ⟨_, _, rfl, rfl⟩, ⟨_, _, rfl, rfl⟩, ⟨_, _, rfl, rfl⟩, ⟨_, _, rfl, rfl⟩, ⟨_, _, rfl, rfl⟩, ⟨_, _, rfl, rfl⟩, trivial⟩)
    (case lowF => first | k_is | rfl)
    (case aG => first | k_is | rfl)
    (case eG => first | rfl | decide +kernel)
    (case aT => first | k_is | rfl)
    (case aM => first | k_is | rfl)
    (case aP => first | k_is | rfl)
    (case aW => first | k_is | rfl)
    (case lC => first | k_is | rfl)
    (case v11 => first | k_is | rfl)
    (case g11 => first | k_is | rfl)
    (case g18 => first | k_is | rfl)
    (case g7 => first | k_is | rfl)
    (case g9 => first | k_is | rfl)
    (case g10 => first | k_is | rfl)
    (case ncp => first | decide | decide +kernel)
    (case nPT => first | k_is | rfl)
    (case n1 => first | k_is | rfl)
    (case p1 => first | k_is | rfl)
    (case q1 => first | k_is | rfl)
    (case n2 => first | k_is | rfl)
    (case p2 => first | k_is | rfl)
    (case q2 => first | k_is | rfl)
    (case n3 => first | k_is | rfl)
    (case p3 => first | k_is | rfl)
    (case q3 => first | k_is | rfl)
    (case n4 => first | k_is | rfl)
    (case p4 => first | k_is | rfl)
    (case q4 => first | k_is | rfl)
    (case n5 => first | k_is | rfl)
    (case p5 => first | k_is | rfl)
    (case q5 => first | k_is | rfl)
    (case n6 => first | k_is | rfl)
    (case p6 => first | k_is | rfl)
    (case q6 => first | k_is | rfl)
    (case n7 => first | k_is | rfl)
    (case p7 => first | k_is | rfl)
    (case q7 => first | k_is | rfl)
    (case n8 => first | k_is | rfl)
    (case p8 => first | k_is | rfl)
    (case q8 => first | k_is | rfl)
    (case n9 => first | k_is | rfl)
    (case p9 => first | k_is | rfl)
    (case q9 => first | k_is | rfl)
    (case n10 => first | k_is | rfl)
    (case p10 => first | k_is | rfl)
    (case q10 => first | k_is | rfl)
