import PyProof.Rows.All
import Wide.All
import OpenK.AllK
import Wide.FinOn
import HandS.ForMost
import HandS.Set
import HandS.Strs
import HandS.SetFor
import HandS.TupSets
import HandS.Conv
import HandS.Codes
import HandS.TupLe
import HandS.IsInst
import HandS.OwnEq
import HandS.Style
import HandS.TupAny
import PySem.Challenge.RW_followsortable_k01_dependencies_kept
set_option Elab.async false
set_option linter.all false
set_option maxRecDepth 100000
namespace FsSet
open PySem PySem.Spec PyProof.Rows L2
section
variable {P : Program} {w : World} {A : Around} {E : Value → Shared → Prop} {s : Shared}

/-- the entries of a set of ints are quiet -/
theorem quiet_ints {Q : Bool → Shared → Prop} (sets : List Addr) (h : ∀ a ∈ sets, ∃ S n, SetR w s.heap a S n) (q : Q true s) : wpAny (model P w) A (setsQuiet sets) Q E s := by
  unfold setsQuiet
  simp only [bind_assoc]
  refine wpAny_bind (wpAny_forIn_list _ (fun rest b s' => (∀ a ∈ rest, a ∈ sets) ∧ b = (none, ()) ∧ s' = s) _ ?turn ?fin sets _ ⟨fun a x => x, rfl, rfl⟩)
  case fin =>
    rintro b s' ⟨-, rfl, rfl⟩
    exact wpAny_pure q
  case turn =>
    rintro a rest b s' ⟨hr, rfl, rfl⟩
    obtain ⟨S, n, o, es, ep, t, ho, hex, hd, g, nd, hm, hb, hf, hn, ri, hl⟩ := h a (hr a List.mem_cons_self)
    refine wpAny_bind (wpAny_setEntries_of ho hd hf ?_)
    rw [← Array.forIn_toList]
    refine wpAny_bind (wpAny_forIn_list _ (fun rest b s2 => (∀ e ∈ rest, GoodE e) ∧ b = (none, ()) ∧ s2 = s') _ ?t2 ?f2 es.toList _ ⟨g, rfl, rfl⟩)
    case f2 =>
      rintro b s2 ⟨-, rfl, rfl⟩
      exact wpAny_pure ⟨fun x hx => hr x (List.mem_cons_of_mem _ hx), rfl, rfl⟩
    case t2 =>
      rintro ⟨hh, x⟩ rest2 b s2 ⟨hg, rfl, rfl⟩
      obtain ⟨k, tk, e1, e2⟩ := hg _ List.mem_cons_self
      have e1' : x = Value.int k tk := e1
      subst e1'
      exact wpAny_pure ⟨fun e he => hg e (List.mem_cons_of_mem _ he), rfl, rfl⟩

/-- a set told by its entries -/
def SetE (w : World) (h : Heap) (a : Addr) (es : Array (Int × Value)) (ep : Nat) (t : SetTable) : Prop :=
  ∃ o, h.get? a = some o ∧ o.ExactSet ∧ o.data = .set es ep t ∧ (∀ e ∈ es.toList, GoodE e) ∧ (es.toList.map keyOf).Nodup ∧ es.size < scanBound ∧ t.fits es.size = true ∧ Ris t.place.toList ∧ (w.params.followText "set-order" = true ∨ t.led = true)
theorem SetE.toR {h : Heap} {a : Addr} {es : Array (Int × Value)} {ep : Nat} {t : SetTable} (x : SetE w h a es ep t) {S : Int → Bool} (hm : ∀ k, S k = true ↔ k ∈ es.toList.map keyOf) : SetR w h a S es.size := by
  obtain ⟨o, h1, h2, h3, h4, h5, h6, h7, h8, h9⟩ := x
  exact ⟨o, es, ep, t, h1, h2, h3, h4, h5, hm, h6, h7, rfl, h8, h9⟩
theorem setE_of {h : Heap} {a : Addr} {S : Int → Bool} {n : Nat} (R : SetR w h a S n) : ∃ es ep t, SetE w h a es ep t ∧ es.size = n ∧ ∀ k, S k = true ↔ k ∈ es.toList.map keyOf := by
  obtain ⟨o, es, ep, t, h1, h2, h3, h4, h5, hm, h6, h7, h8, h9, h10⟩ := R
  exact ⟨es, ep, t, ⟨o, h1, h2, h3, h4, h5, h6, h7, h9, h10⟩, h8, hm⟩
theorem SetE.at {h h' : Heap} {a : Addr} {es : Array (Int × Value)} {ep : Nat} {t : SetTable} (x : SetE w h a es ep t) (k : ∀ o, h.get? a = some o → h'.get? a = some o) : SetE w h' a es ep t := by
  obtain ⟨o, h1, r⟩ := x
  exact ⟨o, k o h1, r⟩
theorem SetE.state {a : Addr} {es : Array (Int × Value)} {ep : Nat} {t : SetTable} (x : SetE w s.heap a es ep t) {Q : (Array (Int × Value) × Nat × SetTable) → Shared → Prop} (h : Q (es, ep, t) s) : wpAny (model P w) A (setState a) Q E s := by
  obtain ⟨o, h1, h2, h3, _, _, _, h7, _⟩ := x
  exact wpAny_setState_of h1 h3 h7 h

theorem wpBool {Q : Bool → Shared → Prop} (h : Q (w.params.followText "set-order") s) : wpAny (model P w) A setsByText Q E s := wpAny_byText h

/-- the walk of a set that is not drawn -/
theorem walk_plain {a : Addr} {es : Array (Int × Value)} {ep : Nat} {t : SetTable} {Q : Array (Int × Value) → Shared → Prop} (x : SetE w s.heap a es ep t)
    (hc : (w.params.followText "set-order" || (t.led && t.plain) || decide (es.size ≤ 1)) = true) (h : ∀ out : Array (Int × Value), out.toList.Perm es.toList → Q out s) : wpAny (model P w) A (setWalk a) Q E s := by
  unfold setWalk
  refine wpAny_bind (x.state ?_)
  dsimp only
  refine wpAny_bind (wpBool ?_)
  by_cases hb : w.params.followText "set-order" = true
  · refine wp_if_pos hb ?_
    exact wpAny_bind (wpAny_askSetting (wpAny_pure (h _ (pick_perm _ _))))
  · refine wp_if_neg hb ?_
    try refine wpAny_bind (wpAny_pure ?_)
    have hb' : w.params.followText "set-order" = false := by simpa using hb
    rw [hb', Bool.false_or] at hc
    have hd : ¬ ((!t.plain && decide (es.size > 1)) = true) := by
      intro z
      simp only [Bool.and_eq_true, Bool.not_eq_true', decide_eq_true_eq, Bool.or_eq_true] at z hc
      rcases hc with c | c
      · rw [z.1] at c; exact absurd c.2 (by decide)
      · omega
    refine wp_if_neg hd ?_
    try refine wpAny_bind (wpAny_pure ?_)
    have hl : t.led = true := by
      obtain ⟨o, _, _, _, _, _, _, _, _, h9⟩ := x
      rcases h9 with z | z
      · exact absurd z hb
      · exact z
    refine wpAny_bind (wpAny_of_eq (a := ()) ?_ ?_)
    · show (if (!t.led && decide (es.size > 1)) = true then unsupported "set:maker-not-led" else pure ()) = pure ()
      rw [hl]
      rfl
    · exact wpAny_pure (h es (List.Perm.refl _))

/-- the walk that nobody sees: the entries in some order; a set that is filled may change its flags -/
theorem walk_unseen {a : Addr} {es : Array (Int × Value)} {ep : Nat} {t : SetTable} {others : List Addr} {filled : Option Addr} {Q : Array (Int × Value) → Shared → Prop} (x : SetE w s.heap a es ep t)
    (ho : ∀ b ∈ others, ∃ S n, SetR w s.heap b S n)
    (hn : ∀ out : Array (Int × Value), out.toList.Perm es.toList → Q out s)
    (hf : ∀ f, filled = some f → f ∈ others ∧ ∀ (out : Array (Int × Value)) h', out.toList.Perm es.toList → Heap.SameBut f s.heap h' → (∀ ef epf tf, SetE w s.heap f ef epf tf → ∃ ep' t', SetE w h' f ef ep' t' ∧ t'.mask = tf.mask ∧ t'.dummies = tf.dummies) → Q out { s with heap := h' }) :
    wpAny (model P w) A (setWalkUnseen a others filled) Q E s := by
  unfold setWalkUnseen
  refine wpAny_bind (x.state ?_)
  dsimp only
  refine wpAny_bind (wpBool ?_)
  by_cases hc : (w.params.followText "set-order" || (t.led && t.plain) || decide (es.size ≤ 1)) = true
  · refine wp_if_pos hc ?_
    exact walk_plain x hc hn
  · refine wp_if_neg hc ?_
    try refine wpAny_bind (wpAny_pure ?_)
    refine wpAny_bind (quiet_ints (a :: others) (fun b hb => ?_) ?_)
    · rcases List.mem_cons.mp hb with e | hb
      · subst e
        exact ⟨fun k => decide (k ∈ es.toList.map keyOf), _, x.toR (fun k => by simp)⟩
      · exact ho b hb
    · refine wp_if_neg (by decide) ?_
      try refine wpAny_bind (wpAny_pure ?_)
      refine wpAny_bind (wpAny_rule ?_)
      cases filled with
      | none =>
        dsimp only
        try refine wpAny_bind (wpAny_pure ?_)
        exact wpAny_pure (hn es (List.Perm.refl _))
      | some f =>
        dsimp only
        obtain ⟨hfo, hff⟩ := hf f rfl
        obtain ⟨S, n, R⟩ := ho f hfo
        obtain ⟨ef, epf, tf, xf, _, _⟩ := setE_of R
        refine wpAny_bind (xf.state ?_)
        dsimp only
        split
        · obtain ⟨o, h1, h2, h3, h4, h5, h6, h7, h8, h9⟩ := id xf
          refine wpAny_bind (wpAny_storeSet_of h1 h3 ?_ (fits_of_scanBound h6))
          refine wpAny_pure (hff es _ (List.Perm.refl _) (Heap.SameBut.update ..) ?_)
          intro ef' epf' tf' xf'
          obtain ⟨o', g1, g2, g3, _⟩ := id xf'
          rw [h1] at g1
          cases g1
          rw [h3] at g3
          cases g3
          have hbt : w.params.followText "set-order" ≠ true := by
            intro z
            rw [z] at hc
            simp at hc
          have l1 : t.led = true := by
            obtain ⟨_, _, _, _, _, _, _, _, _, z⟩ := x
            exact z.resolve_left hbt
          have l2 : tf.led = true := h9.resolve_left hbt
          refine ⟨epf + 1, _, ⟨_, store_at h1 h3, ⟨h2.1, h2.2.1, h2.2.2⟩, rfl, h4, h5, h6, ?_, h8, .inr ?_⟩, rfl, rfl⟩
          · exact h7
          · show (tf.led && t.led) = true
            rw [l1, l2]
            rfl
        · try refine wpAny_bind (wpAny_pure ?_)
          exact wpAny_pure (hn es (List.Perm.refl _))
end
end FsSet

namespace FsSet
open PySem PySem.Spec PyProof.Rows L2

/-! ### a table laid for columns -/
theorem hash_col : ∀ n : Nat, n < 16 → hashInt (n : Int) = (n : Int) := by decide +kernel
theorem fm_set : ∀ (l : List (Option Nat)) (j k : Nat), l[j]? = some none → ((l.set j (some k)).filterMap id).Perm (k :: l.filterMap id)
  | [], j, k, h => by simp at h
  | x :: l, 0, k, h => by
    have e : x = none := by simpa using h
    subst e
    exact List.Perm.refl _
  | none :: l, j + 1, k, h => by
    have ih := fm_set l j k (by simpa using h)
    simpa using ih
  | some x :: l, j + 1, k, h => by
    have ih := fm_set l j k (by simpa using h)
    have e1 : ((some x :: l).set (j + 1) (some k)).filterMap id = x :: (l.set j (some k)).filterMap id := by simp
    have e2 : (some x :: l).filterMap id = x :: l.filterMap id := by simp
    rw [e1, e2]
    exact (ih.cons x).trans (List.Perm.swap k x _)

structure OwnC (m : Nat) (done : List Nat) (owner : Array (Option Nat)) : Prop where
  sz : owner.size = m + 1
  fr : ∀ j, j ≤ m → j ∉ done → owner.toList[j]? = some none
  pm : (owner.toList.filterMap id).Perm (List.range done.length)
theorem OwnC.init (m : Nat) : OwnC m [] (Array.replicate (m + 1) none) where
  sz := by simp
  fr := fun j hj _ => by
    rw [Array.toList_replicate, List.getElem?_replicate, if_pos (Nat.lt_succ_of_le hj)]
  pm := by
    rw [Array.toList_replicate]
    have e : ∀ n, ((List.replicate n (none : Option Nat)).filterMap id) = [] := by
      intro n
      induction n with
      | zero => rfl
      | succ n ih => rw [List.replicate_succ]; simpa using ih
    rw [e]
    exact List.Perm.refl _
theorem free_col {m : Nat} (hm : 15 ≤ m) {owner : Array (Option Nat)} {j : Nat} (hj : j < 10) (h : owner.toList[j]? = some none) :
    SetTable.layClean.free m owner (SetTable.turns m) (SetTable.bits (j : Int) % (m + 1)) (SetTable.bits (j : Int)) = some j := by
  have hb : SetTable.bits (j : Int) = j := by
    unfold SetTable.bits
    omega
  rw [hb, Nat.mod_eq_of_lt (by omega)]
  have ht : SetTable.turns m = (m + 14) + 1 := rfl
  rw [ht, free_succ]
  have hge := runEnd_ge m j
  rw [find_range (k := 0) _ (by omega) ?_ (fun k' hk => absurd hk (Nat.not_lt_zero _))]
  · rfl
  · show (owner.getD (j + 0) (some 0)).isNone = true
    rw [Nat.add_zero, Array.getD_eq_getD_getElem?, ← Array.getElem?_toList, h]
    rfl
theorem OwnC.step {m : Nat} {done : List Nat} {owner : Array (Option Nat)} (W : OwnC m done owner) {j : Nat} (hj : j ≤ m) (hn : j ∉ done) : OwnC m (done ++ [j]) (owner.setIfInBounds j (some done.length)) where
  sz := by rw [Array.size_setIfInBounds]; exact W.sz
  fr := fun i hi hd => by
    have h1 : i ∉ done := fun z => hd (List.mem_append_left _ z)
    have h2 : i ≠ j := fun z => hd (List.mem_append_right _ (by simp [z]))
    rw [Array.toList_setIfInBounds, List.getElem?_set_ne (Ne.symm h2)]
    exact W.fr i hi h1
  pm := by
    rw [Array.toList_setIfInBounds, List.length_append, List.length_singleton, List.range_succ]
    refine (fm_set _ j done.length (W.fr j hj hn)).trans ((W.pm.cons done.length).trans (List.perm_append_singleton _ _).symm)
theorem fold_col {m : Nat} (hm : 15 ≤ m) : ∀ (rest done : List Nat) (owner : Array (Option Nat)), OwnC m done owner → (done ++ rest).Nodup → (∀ j ∈ rest, j < 10) →
    ∃ owner', (rest.map fun j : Nat => (j : Int)).foldl (stepF m) (some (owner, done.length)) = some (owner', (done ++ rest).length) ∧ OwnC m (done ++ rest) owner'
  | [], done, owner, W, _, _ => ⟨owner, by rw [List.append_nil]; rfl, by rw [List.append_nil]; exact W⟩
  | j :: rest, done, owner, W, nd, hb => by
    have hj := hb j List.mem_cons_self
    have hn : j ∉ done := fun z => (List.nodup_append.mp nd).2.2 j z j List.mem_cons_self rfl
    have W' := W.step (by omega) hn
    have hl : (done ++ [j]).length = done.length + 1 := by rw [List.length_append]; rfl
    have ea : done ++ [j] ++ rest = done ++ j :: rest := by rw [List.append_assoc]; rfl
    obtain ⟨owner', f, W2⟩ := fold_col hm rest (done ++ [j]) _ W' (by rw [ea]; exact nd) fun i hi => hb i (List.mem_cons_of_mem _ hi)
    rw [ea, hl] at f
    rw [ea] at W2
    refine ⟨owner', ?_, W2⟩
    rw [List.map_cons, List.foldl_cons, stepF_some (free_col hm hj (W.fr j (by omega) hn))]
    exact f

/-- laid: there is room, nothing is lost -/
def LaidOk (m : Nat) (hs : Array Int) : Prop := ∀ (finger moves : Nat) (led plain : Bool), ∃ t order, SetTable.laid m finger moves led plain hs = some (t, order) ∧
  order.toList.Perm (List.range hs.size) ∧ Ris t.place.toList ∧ t.fits hs.size = true ∧ t.mask = m ∧ t.dummies = #[] ∧ t.led = led
theorem laid_col {m : Nat} (hm : 15 ≤ m) {js : List Nat} (nd : js.Nodup) (hb : ∀ j ∈ js, j < 10) {hs : Array Int} (e : hs.toList = js.map fun j : Nat => (j : Int)) : LaidOk m hs := by
  intro finger moves led plain
  obtain ⟨owner, f, W⟩ := fold_col hm js [] _ (OwnC.init m) (by simpa using nd) hb
  rw [List.nil_append] at f W
  have hlc : SetTable.layClean m hs = some owner := by
    rw [layClean_eq, e]
    have f' : (js.map fun j : Nat => (j : Int)).foldl (stepF m) (some (Array.replicate (m + 1) none, 0)) = some (owner, js.length) := f
    rw [f']
    rfl
  have hsz : hs.size = js.length := by rw [← Array.length_toList, e, List.length_map]
  have hlive : ((List.range (m + 1)).filterMap fun j => (owner.getD j none).map (j, ·)).map (·.2) = owner.toList.filterMap id := by
    have e1 : owner.toList = (List.range (m + 1)).map fun j => owner.getD j none := by
      refine List.ext_getElem? fun i => ?_
      rw [List.getElem?_map]
      by_cases hi : i < m + 1
      · have hi' : i < owner.size := by rw [W.sz]; exact hi
        simp [hi, Array.getD_eq_getD_getElem?, hi']
      · have hi' : ¬ i < owner.size := by rw [W.sz]; exact hi
        simp [hi, hi']
    rw [e1, List.filterMap_map, List.map_filterMap]
    congr 1
    funext j
    show Option.map _ (Option.map _ (owner.getD j none)) = owner.getD j none
    cases owner.getD j none <;> rfl
  have ris := ris_live (fun j => owner.getD j none) (List.range (m + 1)) (by
    unfold Ris
    first | exact List.pairwise_lt_range | exact List.pairwise_lt_range _)
  have hl2 : ((List.range (m + 1)).filterMap fun j => (owner.getD j none).map (j, ·)).length = hs.size := by
    have z := congrArg List.length hlive
    rw [List.length_map, W.pm.length_eq, List.length_range] at z
    rw [z, hsz]
  have hle : hs.size ≤ m := by
    have a := nat_nodup_len js (List.range 10) nd fun x hx => List.mem_range.mpr (hb x hx)
    rw [List.length_range] at a
    rw [hsz]
    omega
  refine ⟨_, _, by unfold SetTable.laid; rw [hlc]; rfl, ?_, ris.1, ?_, rfl, rfl, rfl⟩
  · show (((List.range (m + 1)).filterMap fun j => (owner.getD j none).map (j, ·)).map (·.2)).Perm _
    rw [hlive, hsz]
    exact W.pm
  · unfold SetTable.fits SetTable.fill
    rw [Bool.and_eq_true, beq_iff_eq, decide_eq_true_eq]
    refine ⟨?_, ?_⟩
    · show ((((List.range (m + 1)).filterMap fun j => (owner.getD j none).map (j, ·)).map (·.1)).toArray).size = hs.size
      rw [List.size_toArray, List.length_map, hl2]
    · show ((((List.range (m + 1)).filterMap fun j => (owner.getD j none).map (j, ·)).map (·.1)).toArray).size + 0 ≤ m
      rw [List.size_toArray, List.length_map, hl2]
      omega
end FsSet

namespace FsSet
open PySem PySem.Spec PyProof.Rows L2

theorem laid_7 {hs : Array Int} (hn : hs.size ≤ 7) : LaidOk 7 hs := by
  intro finger moves led plain
  obtain ⟨t', order, e, hp, T, em, el, ep, ed⟩ := relaid_ok ({ mask := 7, place := #[], dummies := #[], finger, led, moves, plain } : SetTable) (hs := hs) (wanted := 0) (M := 7) (by decide +kernel) (.inl rfl) hn
  have hz : t'.place.size = hs.size := by
    rw [T.sz, List.length_map, hp.length_eq, List.length_range]
  refine ⟨t', order, e, hp, T.ris, ?_, em, ed, el⟩
  unfold SetTable.fits SetTable.fill
  rw [Bool.and_eq_true, beq_iff_eq, decide_eq_true_eq, ed, em, hz]
  exact ⟨rfl, by show hs.size + 0 ≤ 7; omega⟩
theorem reorder_perm {es : Array (Int × Value)} {order : Array Nat} (hp : order.toList.Perm (List.range es.size)) : (order.filterMap (es[·]?)).toList.Perm es.toList := by
  rw [Array.toList_filterMap]
  refine (hp.filterMap _).trans ?_
  have e : (List.range es.size).filterMap (fun i => es[i]?) = es.toList := by
    have key : ∀ n, n ≤ es.toList.length → (List.range n).filterMap (fun i => es[i]?) = es.toList.take n := by
      intro n
      induction n with
      | zero => intro _; simp
      | succ n ih =>
        intro hn
        have hlt : n < es.toList.length := hn
        have h1 : es[n]? = some es.toList[n] := by rw [← Array.getElem?_toList, List.getElem?_eq_getElem hlt]
        rw [List.range_succ, List.filterMap_append, ih (Nat.le_of_lt hlt), List.take_succ, List.getElem?_eq_getElem hlt]
        simp [h1]
    have k := key es.size (by rw [Array.length_toList]; exact Nat.le_refl _)
    rw [k, ← Array.length_toList, List.take_length]
  rw [e]
theorem size_above : ∀ n : Nat, n < 21 → 5 ≤ n → 15 ≤ SetTable.sizeAbove (n * 2) - 1 ∧ SetTable.sizeAbove (n * 2) ≤ 64 := by decide +kernel
/-- entries whose keys are columns -/
def Cols (es : Array (Int × Value)) : Prop := ∀ k ∈ es.toList.map keyOf, 0 ≤ k ∧ k < 10
theorem cols_js {es : Array (Int × Value)} (g : ∀ e ∈ es.toList, GoodE e) (nd : (es.toList.map keyOf).Nodup) (hc : Cols es) :
    ∃ js : List Nat, js.Nodup ∧ (∀ j ∈ js, j < 10) ∧ (es.map (·.1)).toList = js.map fun j : Nat => (j : Int) := by
  have h0 : (es.toList.map keyOf) = ((es.toList.map keyOf).map Int.toNat).map fun j : Nat => (j : Int) := by
    rw [List.map_map]
    refine (List.map_id _).symm.trans (List.map_congr_left fun k hk => ?_)
    have := hc k hk
    show k = ((k.toNat : Nat) : Int)
    omega
  refine ⟨(es.toList.map keyOf).map Int.toNat, ?_, fun j hj => ?_, ?_⟩
  · rw [h0] at nd
    exact List.Pairwise.of_map (fun j : Nat => (j : Int)) (fun a b h e => h (by rw [e])) nd
  · obtain ⟨k, hk, rfl⟩ := List.mem_map.mp hj
    have := hc k hk
    omega
  · rw [← h0, Array.toList_map]
    refine List.map_congr_left fun e he => ?_
    obtain ⟨k, tk, h1, h2⟩ := g e he
    have hk : keyOf e = k := by unfold keyOf; rw [h1]
    have := hc k (List.mem_map.mpr ⟨e, he, hk⟩)
    obtain ⟨n, rfl⟩ : ∃ n : Nat, k = (n : Int) := ⟨k.toNat, by omega⟩
    rw [h2, hk]
    exact hash_col n (by omega)
theorem cols_laid {es : Array (Int × Value)} (g : ∀ e ∈ es.toList, GoodE e) (nd : (es.toList.map keyOf).Nodup) (hc : Cols es) {m : Nat} (hm : (m = 7 ∧ es.size ≤ 7) ∨ 15 ≤ m) : LaidOk m (es.map (·.1)) := by
  rcases hm with ⟨rfl, h7⟩ | hm
  · exact laid_7 (by rw [Array.size_map]; exact h7)
  · obtain ⟨js, h1, h2, h3⟩ := cols_js g nd hc
    exact laid_col hm h1 h2 h3
theorem cols_len {es : Array (Int × Value)} (nd : (es.toList.map keyOf).Nodup) (hc : Cols es) : es.size ≤ 10 := by
  have h0 : ((es.toList.map keyOf).map Int.toNat).Nodup := by
    refine List.Pairwise.map _ (fun a b h => h) ?_
    refine List.Pairwise.imp_of_mem (fun {a b} ha hb h e => ?_) nd
    have h1 := hc a ha
    have h2 := hc b hb
    exact h (by omega)
  have a := nat_nodup_len _ (List.range 10) h0 fun x hx => by
    obtain ⟨k, hk, rfl⟩ := List.mem_map.mp hx
    have := hc k hk
    exact List.mem_range.mpr (by omega)
  rw [List.length_map, List.length_map, List.length_range, Array.length_toList] at a
  exact a

section
variable {P : Program} {w : World} {A : Around} {E : Value → Shared → Prop} {s : Shared}
theorem SetE.good {h : Heap} {a : Addr} {es : Array (Int × Value)} {ep : Nat} {t : SetTable} (x : SetE w h a es ep t) : (∀ e ∈ es.toList, GoodE e) ∧ (es.toList.map keyOf).Nodup := by
  obtain ⟨o, h1, h2, h3, h4, h5, _⟩ := x
  exact ⟨h4, h5⟩
theorem SetE.fits {h : Heap} {a : Addr} {es : Array (Int × Value)} {ep : Nat} {t : SetTable} (x : SetE w h a es ep t) : t.fits es.size = true := by
  obtain ⟨o, h1, h2, h3, h4, h5, h6, h7, _⟩ := x
  exact h7
/-- stored anew -/
theorem SetE.store {a : Addr} {es es' : Array (Int × Value)} {ep : Nat} {t t' : SetTable} {Q : Unit → Shared → Prop} (x : SetE w s.heap a es ep t) (g : ∀ e ∈ es'.toList, GoodE e) (nd : (es'.toList.map keyOf).Nodup)
    (hb : es'.size < scanBound) (hf : t'.fits es'.size = true) (hr : Ris t'.place.toList) (hl : w.params.followText "set-order" = true ∨ t'.led = true)
    (h : ∀ h', Heap.SameBut a s.heap h' → SetE w h' a es' (ep + 1) t' → Q () { s with heap := h' }) : wpAny (model P w) A (storeSet a es' t') Q E s := by
  obtain ⟨o, h1, h2, h3, _⟩ := x
  exact wpAny_storeSet_of h1 h3 (h _ (Heap.SameBut.update ..) ⟨_, store_at h1 h3, ⟨h2.1, h2.2.1, h2.2.2⟩, rfl, g, nd, hb, hf, hr, hl⟩) (fits_of_scanBound hb)
theorem SetE.led {h : Heap} {a : Addr} {es : Array (Int × Value)} {ep : Nat} {t : SetTable} (x : SetE w h a es ep t) : w.params.followText "set-order" = true ∨ t.led = true := by
  obtain ⟨o, h1, h2, h3, h4, h5, h6, h7, h8, h9⟩ := x
  exact h9
theorem SetE.bound {h : Heap} {a : Addr} {es : Array (Int × Value)} {ep : Nat} {t : SetTable} (x : SetE w h a es ep t) : es.size < scanBound := by
  obtain ⟨o, h1, h2, h3, h4, h5, h6, h7, h8, h9⟩ := x
  exact h6
theorem SetE.ris {h : Heap} {a : Addr} {es : Array (Int × Value)} {ep : Nat} {t : SetTable} (x : SetE w h a es ep t) : Ris t.place.toList := by
  obtain ⟨o, h1, h2, h3, h4, h5, h6, h7, h8, h9⟩ := x
  exact h8
/-- a table laid anew, larger -/
theorem relay_cols {a : Addr} {es : Array (Int × Value)} {ep : Nat} {t : SetTable} {wanted : Nat} {Q : Unit → Shared → Prop} (x : SetE w s.heap a es ep t) (hL : LaidOk (SetTable.sizeAbove wanted - 1) (es.map (·.1))) (hz : SetTable.sizeAbove wanted ≤ 64)
    (h : ∀ h' es' t', Heap.SameBut a s.heap h' → SetE w h' a es' (ep + 1) t' → es'.toList.Perm es.toList → t'.mask = SetTable.sizeAbove wanted - 1 → t'.dummies = #[] → Q () { s with heap := h' }) : wpAny (model P w) A (setRelay a wanted) Q E s := by
  obtain ⟨t', order, e, hp, h3, h4, h5, h6, h7⟩ := hL t.finger (t.movedTo (SetTable.sizeAbove wanted - 1)) t.led t.plain
  rw [Array.size_map] at hp h4
  have e' : t.relaid (es.map (·.1)) wanted = some (t', order) := e
  have pm := reorder_perm hp
  have hs2 : (order.filterMap (es[·]?)).size = es.size := by rw [← Array.length_toList, pm.length_eq, Array.length_toList]
  rw [setRelay_eq]
  refine wpAny_bind (x.state ?_)
  dsimp only
  refine wp_if_neg (by rw [sizeLine_eq]; omega) ?_
  try refine wpAny_bind (wpAny_pure ?_)
  rw [e']
  dsimp only
  refine wpAny_bind (wp_if_neg (by rw [hs2]; simp) ?_)
  try refine wpAny_bind (wpAny_pure ?_)
  refine wpAny_pure ?_
  dsimp only
  have g := x.good
  refine x.store (fun e he => g.1 e (pm.mem_iff.mp he)) ((pm.map keyOf).nodup_iff.mpr g.2) (by rw [hs2]; exact x.bound) (by rw [hs2]; exact h4) h3 ?_ fun h' sb x' => h h' _ t' sb x' pm h5 h6
  rw [h7]
  exact x.led
end
end FsSet

namespace FsSet
open PySem PySem.Spec PyProof.Rows L2
section
variable {P : Program} {w : World} {A : Around} {E : Value → Shared → Prop} {s : Shared}

/-- what a set that was just made may look like: no slot was given up -/
def Tidy (t : SetTable) : Prop := t.dummies = #[] ∧ 7 ≤ t.mask
theorem fill_of {t : SetTable} {n : Nat} (hf : t.fits n = true) (hd : t.dummies = #[]) : t.fill = n ∧ t.place.size = n ∧ n ≤ t.mask := by
  unfold SetTable.fits at hf
  rw [Bool.and_eq_true, beq_iff_eq, decide_eq_true_eq] at hf
  have e : t.fill = t.place.size + t.dummies.size := rfl
  rw [hd] at e
  have e' : t.fill = t.place.size := e
  omega

/-- room for more -/
theorem room_at {r : Addr} {es : Array (Int × Value)} {ep : Nat} {t : SetTable} {more : Nat} {Q : Unit → Shared → Prop} (x : SetE w s.heap r es ep t) (hd : Tidy t) (hc : Cols es) (hm : more ≤ 10)
    (h : ∀ h' es' ep' t', Heap.SameBut r s.heap h' → SetE w h' r es' ep' t' → es'.toList.Perm es.toList → Tidy t' → (t' = t ∧ ¬ (es.size + more) * 5 ≥ t.mask * 3 ∨ 15 ≤ t'.mask) → Q () { s with heap := h' }) : wpAny (model P w) A (setRoomFor r more) Q E s := by
  unfold setRoomFor
  refine wpAny_bind (x.state ?_)
  dsimp only
  obtain ⟨f1, f2, f3⟩ := fill_of x.fits hd.1
  have hn := cols_len x.good.2 hc
  have ha := SetTable.roomFor
  by_cases hr : (es.size + more) * 5 ≥ t.mask * 3
  · have e : t.roomFor more = some ((es.size + more) * 2) := by
      unfold SetTable.roomFor
      rw [f1, f2, if_pos hr]
    rw [e]
    dsimp only
    have hd2 := hd.2
    obtain ⟨z1, z2⟩ := size_above (es.size + more) (by omega) (by omega)
    exact relay_cols x (cols_laid x.good.1 x.good.2 hc (.inr z1)) z2 fun h' es' t' sb x' pm em ed => h h' es' _ t' sb x' pm ⟨ed, by rw [em]; omega⟩ (.inr (by rw [em]; exact z1))
  · have e : t.roomFor more = none := by
      unfold SetTable.roomFor
      rw [f1, if_neg hr]
    rw [e]
    dsimp only
    exact wpAny_pure (h s.heap es ep t (Heap.SameBut.refl _ _) x (List.Perm.refl _) hd (.inl ⟨rfl, hr⟩))

/-- everything of o is put into r, which is empty -/
theorem merge_fresh {r o : Addr} (hne : r ≠ o) {er eo : Array (Int × Value)} {epr epo : Nat} {tr to : SetTable} {each : Sem Unit} {Q : Unit → Shared → Prop} (xr : SetE w s.heap r er epr tr) (he : er.size = 0) (hr : Tidy tr) (h7 : tr.mask = 7)
    (xo : SetE w s.heap o eo epo to) (hc : Cols eo) (h : ∀ h' es' ep' t', Heap.SameBut r s.heap h' → SetE w h' r es' ep' t' → es'.toList.Perm eo.toList → Tidy t' → (es'.size = 0 → t'.mask = 7) → Q () { s with heap := h' }) :
    wpAny (model P w) A (setMerge r o each) Q E s := by
  have hn := cols_len xo.good.2 hc
  have her : er = #[] := Array.eq_empty_of_size_eq_zero he
  unfold setMerge
  refine wp_if_neg (by simpa using hne) ?_
  refine wpAny_bind (xo.state ?_)
  dsimp only
  by_cases hz : eo.isEmpty = true
  · refine wp_if_pos hz (wpAny_pure (h s.heap er epr tr (Heap.SameBut.refl _ _) xr ?_ hr fun _ => h7))
    rw [her, Array.isEmpty_iff.mp hz]
  · refine wp_if_neg hz ?_
    have hpos : eo.size ≠ 0 := fun z => hz (by rw [Array.eq_empty_of_size_eq_zero z]; rfl)
    refine wpAny_bind (room_at xr hr (by intro k hk; rw [her] at hk; simp at hk) hn fun h1 e1 ep1 t1 sb1 x1 pm1 td1 mk1 => ?_)
    have hs1 : e1.size = 0 := by rw [← Array.length_toList, pm1.length_eq, Array.length_toList]; exact he
    refine wpAny_bind (x1.state ?_)
    dsimp only
    have xo1 : SetE w h1 o eo epo to := xo.at fun u hu => (sb1.2 o (Ne.symm hne)).trans hu
    obtain ⟨f1, f2, f3⟩ := fill_of x1.fits td1.1
    have hm1 : (t1.mask = 7 ∧ eo.size ≤ 7) ∨ 15 ≤ t1.mask := by
      rcases mk1 with ⟨rfl, z⟩ | z
      · refine .inl ⟨h7, ?_⟩
        rw [h7, he] at z
        omega
      · exact .inr z
    have g := xo.good
    have hf0 : (t1.fill != 0) = false := by rw [f1, hs1]; rfl
    cases hroad : t1.road to with
    | oneByOne =>
      exfalso
      unfold SetTable.road at hroad
      rw [hf0] at hroad
      simp only [Bool.false_eq_true, if_false] at hroad
      split at hroad <;> cases hroad
    | slotForSlot =>
      dsimp only
      have hcond : (t1.mask == to.mask && to.dummies.isEmpty) = true := by
        unfold SetTable.road at hroad
        rw [hf0] at hroad
        simp only [Bool.false_eq_true, if_false] at hroad
        by_cases z : (t1.mask == to.mask && to.dummies.isEmpty) = true
        · exact z
        · rw [if_neg z] at hroad
          cases hroad
      rw [Bool.and_eq_true, beq_iff_eq, Array.isEmpty_iff] at hcond
      refine x1.store g.1 g.2 xo.bound xo.fits xo.ris ?_ fun h2 sb2 x2 => h h2 eo _ _ (sb1.trans sb2) x2 (List.Perm.refl _) ⟨hcond.2, by rw [← hcond.1]; exact td1.2⟩ fun z => absurd z hpos
      rcases xo.led with a | a
      · exact .inl a
      · rcases x1.led with b | b
        · exact .inl b
        · exact .inr (by show (t1.led && to.led) = true; rw [a, b]; rfl)
    | clean =>
      dsimp only
      obtain ⟨t', order, e, hp, h3, h4, h5, h6, hl7⟩ := cols_laid g.1 g.2 hc hm1 t1.finger t1.moves (t1.led && to.led) (t1.plain && to.plain)
      rw [Array.size_map] at hp h4
      have pm := reorder_perm hp
      have hs2 : (order.filterMap (eo[·]?)).size = eo.size := by rw [← Array.length_toList, pm.length_eq, Array.length_toList]
      rw [e]
      refine wpAny_bind ?_
      show wpAny _ _ (do
        if (order.filterMap (eo[·]?)).size != eo.size then unsupported "internal:set-table-lost-an-element"
        pure (order.filterMap (eo[·]?), t') : Sem (Array (Int × Value) × SetTable)) _ _ _
      refine wp_if_neg (by rw [hs2]; simp) ?_
      try refine wpAny_bind (wpAny_pure ?_)
      refine wpAny_pure ?_
      dsimp only
      refine x1.store (fun e he => g.1 e (pm.mem_iff.mp he)) ((pm.map keyOf).nodup_iff.mpr g.2) (by rw [hs2]; exact xo.bound) (by rw [hs2]; exact h4) h3 ?_ fun h2 sb2 x2 => h h2 _ _ t' (sb1.trans sb2) x2 pm ⟨h6, by rw [h5]; exact td1.2⟩ fun z => absurd (hs2.symm.trans z) hpos
      rw [hl7]
      rcases xo.led with a | a
      · exact .inl a
      · rcases x1.led with b | b
        · exact .inl b
        · exact .inr (by rw [a, b]; rfl)

/-- into a set with members: one by one -/
theorem merge_more {r o : Addr} (hne : r ≠ o) {er eo : Array (Int × Value)} {epr epo : Nat} {tr to : SetTable} {each : Sem Unit} {Q : Unit → Shared → Prop} (xr : SetE w s.heap r er epr tr) (he : er.size ≠ 0) (hr : Tidy tr) (hcr : Cols er)
    (xo : SetE w s.heap o eo epo to) (hc : Cols eo) (hE : ∀ (s' : Shared) (Q' : Unit → Shared → Prop), SetE w s'.heap o eo epo to → Q' () s' → wpAny (model P w) A each Q' E s')
    (h : ∀ h' S n, Heap.SameBut r s.heap h' → SetR w h' r S n → (∀ k, S k = true ↔ k ∈ er.toList.map keyOf ∨ k ∈ eo.toList.map keyOf) → n ≤ er.size + eo.size → Q () { s with heap := h' }) :
    wpAny (model P w) A (setMerge r o each) Q E s := by
  have hn := cols_len xo.good.2 hc
  have hnr := cols_len xr.good.2 hcr
  unfold setMerge
  refine wp_if_neg (by simpa using hne) ?_
  refine wpAny_bind (xo.state ?_)
  dsimp only
  by_cases hz : eo.isEmpty = true
  · refine wp_if_pos hz (wpAny_pure (h s.heap (fun k => decide (k ∈ er.toList.map keyOf)) er.size (Heap.SameBut.refl _ _) (xr.toR fun k => by simp) (fun k => ?_) (by omega)))
    rw [Array.isEmpty_iff.mp hz]
    simp
  · refine wp_if_neg hz ?_
    refine wpAny_bind (room_at xr hr hcr hn fun h1 e1 ep1 t1 sb1 x1 pm1 td1 mk1 => ?_)
    have hs1 : e1.size = er.size := by rw [← Array.length_toList, pm1.length_eq, Array.length_toList]
    refine wpAny_bind (x1.state ?_)
    dsimp only
    have xo1 : SetE w h1 o eo epo to := xo.at fun u hu => (sb1.2 o (Ne.symm hne)).trans hu
    obtain ⟨f1, f2, f3⟩ := fill_of x1.fits td1.1
    have hroad : t1.road to = .oneByOne := by
      unfold SetTable.road
      rw [if_pos (by rw [f1, hs1]; simpa using he)]
    rw [hroad]
    dsimp only
    have R1 : SetR w h1 r (fun k => decide (k ∈ er.toList.map keyOf)) er.size := by
      have z := x1.toR (S := fun k => decide (k ∈ er.toList.map keyOf)) fun k => by
        rw [decide_eq_true_eq]
        exact (pm1.map keyOf).mem_iff.symm
      rw [hs1] at z
      exact z
    have fin : ∀ (out : Array (Int × Value)) (s2 : Shared) (h2 : Heap), s2 = { s with heap := h2 } → out.toList.Perm eo.toList → Heap.SameBut r s.heap h2 → SetR w h2 r (fun k => decide (k ∈ er.toList.map keyOf)) er.size →
        wpAny (model P w) A (do
          for (hh, x) in out do
            let _ ← holding [x] (setAddHashed r x hh)
            each
            if (← setState o).2.1 != epo then unsupported "set.changed-during-merge") Q E s2 := by
      intro out s2 h2 es2 pm sb2 R2
      subst es2
      rw [← Array.forIn_toList]
      refine wpAny_bind (wpAny_forIn_list _ (fun rest b s3 => ∃ h3 S n done, s3 = { s with heap := h3 } ∧ Heap.SameBut r s.heap h3 ∧ SetR w h3 r S n ∧ (∀ k, S k = true ↔ k ∈ er.toList.map keyOf ∨ k ∈ done.map keyOf) ∧ n ≤ er.size + done.length ∧ done ++ rest = out.toList) _ ?turn ?fin out.toList _ ⟨h2, _, _, [], rfl, sb2, R2, fun k => by simp, by simp, rfl⟩)
      case fin =>
        rintro b s3 ⟨h3, S, n, done, rfl, sb3, R3, hS, hl, hd⟩
        rw [List.append_nil] at hd
        refine wpAny_pure (h h3 S n sb3 R3 (fun k => ?_) ?_)
        · rw [hS k, hd, (pm.map keyOf).mem_iff]
        · rw [hd, pm.length_eq, Array.length_toList] at hl
          exact hl
      case turn =>
        rintro ⟨hh, x⟩ rest b s3 ⟨h3, S, n, done, rfl, sb3, R3, hS, hl, hd⟩
        have hmem : (hh, x) ∈ eo.toList := pm.mem_iff.mp (by rw [← hd]; simp)
        obtain ⟨k, tk, e1, e2⟩ := xo.good.1 _ hmem
        have e1' : x = Value.int k tk := e1
        have e2' : hh = (intKind P w).hash k := e2
        subst e1' e2'
        have hlen : done.length + rest.length + 1 = eo.size := by
          have z := congrArg List.length hd
          rw [List.length_append, List.length_cons, pm.length_eq, Array.length_toList] at z
          omega
        refine wpAny_bind (wpAny_holding (setR_add_hashed (s := { s with heap := h3 }) R3 (by show n + 1 < 4096; omega) fun h4 sb4 R4 => ?_))
        have sb5 : Heap.SameBut r s.heap h4 := sb3.trans sb4
        have xo4 : SetE w h4 o eo epo to := xo.at fun u hu => (sb5.2 o (Ne.symm hne)).trans hu
        refine wpAny_bind (hE { s with heap := h4 } _ xo4 ?_)
        refine wpAny_bind (xo4.state (s := { s with heap := h4 }) ?_)
        refine wp_if_neg (by simp) ?_
        try refine wpAny_bind (wpAny_pure ?_)
        refine wpAny_pure ⟨h4, _, _, done ++ [((intKind P w).hash k, Value.int k tk)], rfl, sb5, R4, fun j => ?_, ?_, ?_⟩
        · rw [Bool.or_eq_true, decide_eq_true_eq, hS j, List.map_append, List.mem_append]
          have : j ∈ List.map keyOf [((intKind P w).hash k, Value.int k tk)] ↔ j = k := by
            show j ∈ [k] ↔ j = k
            simp
          rw [this]
          exact or_assoc
        · rw [List.length_append, List.length_singleton]
          split <;> omega
        · rw [List.append_assoc]
          exact hd
    refine wpAny_bind (walk_unseen (s := { s with heap := h1 }) xo1 (fun b hb => ?_) (fun out pm => ?_) fun f ef => ?_)
    · rw [List.mem_singleton.mp hb]
      exact ⟨_, _, R1⟩
    · exact fin out _ h1 rfl pm sb1 R1
    · cases ef
      refine ⟨List.mem_singleton.mpr rfl, fun out h2 pm sb2 keep => fin out _ h2 rfl pm (sb1.trans sb2) ?_⟩
      obtain ⟨ep2, t2, x2, _, _⟩ := keep e1 ep1 t1 x1
      have z := x2.toR (S := fun k => decide (k ∈ er.toList.map keyOf)) fun k => by
        rw [decide_eq_true_eq]
        exact (pm1.map keyOf).mem_iff.symm
      rw [hs1] at z
      exact z
end
end FsSet

namespace FsSet
open PySem PySem.Spec PyProof.Rows L2
theorem ent_or : entryFor table "set.__or__" = some Builtin.«frozenset.__or__» := entryFor_alias (id' := "frozenset.__or__") (by kernel_rfl) rfl (by decide +kernel) (by kernel_rfl)
theorem ent_and : entryFor table "set.__and__" = some Builtin.«frozenset.__and__» := entryFor_alias (id' := "frozenset.__and__") (by kernel_rfl) rfl (by decide +kernel) (by kernel_rfl)
theorem ent_sub : entryFor table "set.__sub__" = some Builtin.«frozenset.__sub__» := entryFor_alias (id' := "frozenset.__sub__") (by kernel_rfl) rfl (by decide +kernel) (by kernel_rfl)
end FsSet

namespace FsSet
open PySem PySem.Spec PyProof.Rows L2
section
variable {P : Program} {w : World} {A : Around} {E : Value → Shared → Prop} {s : Shared}
abbrev newS (w : World) : Obj := { cls := .type "set", dict := none, data := .set #[] 0 (.fresh 0 0 (!w.params.followText "set-order")) }
theorem new_set {Q : Value → Shared → Prop} (h : SetE w (s.heap.push (newS w)) s.heap.objs.size #[] 0 (.fresh 0 0 (!w.params.followText "set-order")) → Q (.ref s.heap.objs.size) { s with heap := s.heap.push (newS w) }) :
    wpAny (model P w) A (newSet (.type "set")) Q E s := by
  unfold newSet
  refine wpAny_bind (wpBool ?_)
  dsimp only
  simp only [newObj]
  refine wpAny_bind (wpAny_alloc (wpAny_pure (h ⟨_, Heap.get?_push_size _ rfl, ⟨rfl, rfl, rfl⟩, rfl, ?_, ?_, ?_, ?_, ?_, ?_⟩)))
  · intro e he
    simp at he
  · simp
  · decide
  · rfl
  · exact List.Pairwise.nil
  · show _ ∨ (!w.params.followText "set-order") = true
    cases w.params.followText "set-order"
    · exact .inr rfl
    · exact .inl rfl
theorem SetE.ty {a : Addr} {es : Array (Int × Value)} {ep : Nat} {t : SetTable} (x : SetE w s.heap a es ep t) : s.TypeIs (.ref a) "set" := by
  obtain ⟨o, h1, h2, _⟩ := x
  exact ⟨o, h1, h2.1⟩
theorem base_of {a : Addr} {es : Array (Int × Value)} {ep : Nat} {t : SetTable} (x : SetE w s.heap a es ep t) {Q : Value → Shared → Prop} (h : Q (.type "set") s) : wpAny (model P w) A (Builtin.Frozenset.baseOf a) Q E s := by
  unfold Builtin.Frozenset.baseOf
  refine wpAny_bind (wpAny_isInstance x.ty sub_set_self ?_)
  exact wpAny_pure h
theorem any_set {a : Addr} {es : Array (Int × Value)} {ep : Nat} {t : SetTable} (x : SetE w s.heap a es ep t) {Q : Bool → Shared → Prop} (h : Q true s) : wpAny (model P w) A (Builtin.Frozenset.isAnySet (.ref a)) Q E s := by
  unfold Builtin.Frozenset.isAnySet
  refine wpAny_bind (wpAny_isInstance x.ty sub_set_self ?_)
  exact wpAny_pure h
theorem epoch_of {a : Addr} {es : Array (Int × Value)} {ep : Nat} {t : SetTable} (x : SetE w s.heap a es ep t) {Q : Nat → Shared → Prop} (h : Q ep s) : wpAny (model P w) A (setEpoch a) Q E s := by
  unfold setEpoch
  exact wpAny_bind (x.state (wpAny_pure h))
theorem unch_of {a : Addr} {es : Array (Int × Value)} {ep : Nat} {t : SetTable} (id : String) (x : SetE w s.heap a es ep t) {Q : Unit → Shared → Prop} (h : Q () s) : wpAny (model P w) A (Builtin.Frozenset.unchanged id a ep) Q E s := by
  unfold Builtin.Frozenset.unchanged
  refine wpAny_bind (epoch_of x ?_)
  refine wp_if_neg (by simp) ?_
  exact wpAny_pure h
theorem size_of {a : Addr} {es : Array (Int × Value)} {ep : Nat} {t : SetTable} (x : SetE w s.heap a es ep t) {Q : Nat → Shared → Prop} (h : Q es.size s) : wpAny (model P w) A (Builtin.Frozenset.sizeOf a) Q E s := by
  unfold Builtin.Frozenset.sizeOf setEntries
  refine wpAny_bind (wpAny_bind (x.state (wpAny_pure ?_)))
  exact wpAny_pure h
theorem addr_of {a : Addr} {Q : Addr → Shared → Prop} (h : Q a s) : wpAny (model P w) A (Builtin.Frozenset.addrOf (.ref a)) Q E s := wpAny_pure h

/-- a new set with the members of another -/
theorem copy_of {a : Addr} {es : Array (Int × Value)} {ep : Nat} {t : SetTable} (x : SetE w s.heap a es ep t) (hc : Cols es) {Q : Value → Shared → Prop}
    (h : ∀ h' es' ep' t', (∀ b o, s.heap.get? b = some o → h'.get? b = some o) → h'.objs.size = s.heap.objs.size + 1 → SetE w h' s.heap.objs.size es' ep' t' → es'.toList.Perm es.toList → Tidy t' → (es'.size = 0 → t'.mask = 7) → Q (.ref s.heap.objs.size) { s with heap := h' }) :
    wpAny (model P w) A (Builtin.Frozenset.copyOf a) Q E s := by
  have hlt : a < s.heap.objs.size := by
    obtain ⟨o, h1, _⟩ := x
    exact Heap.lt_size h1
  unfold Builtin.Frozenset.copyOf
  refine wpAny_bind (base_of x (wpAny_bind (new_set fun x0 => wpAny_bind (addr_of ?_))))
  refine wpAny_bind (merge_fresh (s := { s with heap := s.heap.push (newS w) }) (Nat.ne_of_gt hlt) x0 rfl ⟨rfl, Nat.le_refl _⟩ rfl (x.at fun o ho => Heap.get?_push_of_some _ ho) hc fun h' es' ep' t' sb x' pm td m7 => ?_)
  refine wpAny_pure (h h' es' ep' t' (fun b o e => ?_) (sb.1.trans (Heap.size_push ..)) x' pm td m7)
  rw [sb.2 b (Nat.ne_of_lt (Heap.lt_size e))]
  exact Heap.get?_push_of_some _ e

def orTail (l : Addr) (r : Value) : Sem Value := do
  let out ← Builtin.Frozenset.copyOf l
  if r != .ref l then
    holding [out] (Builtin.Frozenset.updateFrom "frozenset.__or__" (← Builtin.Frozenset.addrOf out) r)
  return out
theorem slot1_two (nm : String) (x y : Value) : Builtin.Frozenset.slot1 nm ⟨[x, y], []⟩ = pure (x, y) := by rfl
/-- the body of a | b, a & b, a - b -/
def binBody (nm decl : String) (tail : Addr → Value → Sem Value) (a b : Addr) : Sem PySem.Fin := do
    let (x, y) ← Builtin.Frozenset.slot1 nm ⟨[.ref a, .ref b], []⟩
    if !(← Builtin.Frozenset.isAnySet x <&&> Builtin.Frozenset.isAnySet y) then
      rule decl
      return ← ret .notImplemented
    ret (← tail (← Builtin.Frozenset.addrOf x) y)
theorem bin_body {nm decl : String} {tail : Addr → Value → Sem Value} {a b : Addr} {ea eb : Array (Int × Value)} {epa epb : Nat} {ta tb : SetTable} {Q : Value → Shared → Prop} (xa : SetE w s.heap a ea epa ta) (xb : SetE w s.heap b eb epb tb)
    (h : wpAny (model P w) A (tail a (.ref b)) (fun v s' => v ≠ Value.notImplemented ∧ Q v s') E s) : wpAny (model P w) A (binBody nm decl tail a b) (fun fin s' => ∃ v, fin = .done (.ret v) ∧ v ≠ Value.notImplemented ∧ Q v s') E s := by
  unfold binBody
  rw [slot1_two]
  refine wpAny_bind (wpAny_pure ?_)
  dsimp only
  refine wpAny_bind (Q := fun v s' => _) ?_
  refine wpAny_bind (any_set xa ?_)
  show wpAny _ _ (Builtin.Frozenset.isAnySet (.ref b)) _ _ _
  refine any_set xb ?_
  refine wp_if_neg (by decide) ?_
  try refine wpAny_bind (wpAny_pure ?_)
  refine wpAny_bind (thn h fun v s' z => ?_)
  exact wpAny_pure ⟨v, rfl, z⟩
/-- a | b -/
theorem or_sets {a b : Addr} (hne : a ≠ b) {S T : Int → Bool} {n m : Nat} (Ra : SetR w s.heap a S n) (Rb : SetR w s.heap b T m) (hS : ∀ k, S k = true → 0 ≤ k ∧ k < 10) (hT : ∀ k, T k = true → 0 ≤ k ∧ k < 10) {Q : Value → Shared → Prop}
    (h : ∀ h' U c, (∀ b o, s.heap.get? b = some o → h'.get? b = some o) → SetR w h' s.heap.objs.size U c → (∀ k, U k = true ↔ S k = true ∨ T k = true) → c ≤ n + m → Q (.ref s.heap.objs.size) { s with heap := h' }) :
    wpAny (model P w) A (binaryOp .BitOr (.ref a) (.ref b)) Q E s := by
  obtain ⟨ea, epa, ta, xa, za, ma⟩ := setE_of Ra
  obtain ⟨eb, epb, tb, xb, zb, mb⟩ := setE_of Rb
  have ca : Cols ea := fun k hk => hS k ((ma k).2 hk)
  have cb : Cols eb := fun k hk => hT k ((mb k).2 hk)
  refine wpAny_binaryOp_same xa.ty xb.ty F.fills_set_or F.slot_set_or (wpAny_call_entry F.slot_set_or xa.ty ent_or ?_ (F.args_set_or_2 _ _))
  show wpAny _ _ (binBody "__or__" "frozenset.__or__.declined" orTail a b) _ _ _
  refine bin_body xa xb ?_
  have hlb : b < s.heap.objs.size := by
    obtain ⟨o, h1, _⟩ := xb
    exact Heap.lt_size h1
  unfold orTail
  refine wpAny_bind (copy_of xa ca fun h' er epr tr kp hsz xr pm td m7 => ?_)
  refine wp_if_pos (by simpa using fun z : b = a => hne z.symm) ?_
  refine wpAny_bind (addr_of (wpAny_bind (wpAny_holding ?_)))
  have xb' : SetE w h' b eb epb tb := xb.at fun o ho => kp _ _ ho
  have hrb : s.heap.objs.size ≠ b := Nat.ne_of_gt hlb
  have hcr : Cols er := fun k hk => ca k ((pm.map keyOf).mem_iff.mp hk)
  have hez : er.size = n := by rw [← za, ← Array.length_toList, pm.length_eq, Array.length_toList]
  have fin : ∀ h2 U c, Heap.SameBut s.heap.objs.size h' h2 → SetR w h2 s.heap.objs.size U c → (∀ k, U k = true ↔ S k = true ∨ T k = true) → c ≤ n + m →
      wpAny (model P w) A.in1 (pure (Value.ref s.heap.objs.size) : Sem Value) (fun v s' => v ≠ Value.notImplemented ∧ Q v s') E { s with heap := h2 } := fun h2 U c sb R hU hc => by
    refine wpAny_pure ⟨(fun z => nomatch z), h h2 U c (fun b o e => ?_) R hU hc⟩
    rw [sb.2 b (Nat.ne_of_lt (Heap.lt_size e))]
    exact kp b o e
  unfold Builtin.Frozenset.updateFrom
  refine wpAny_bind (any_set (s := { s with heap := h' }) xb' ?_)
  refine wp_if_pos rfl ?_
  refine wpAny_bind (addr_of ?_)
  unfold Builtin.Frozenset.merge
  refine wpAny_bind (epoch_of (s := { s with heap := h' }) xb' ?_)
  by_cases hz : er.size = 0
  · refine merge_fresh (s := { s with heap := h' }) hrb xr hz td (m7 hz) xb' cb fun h2 e2 ep2 t2 sb x2 pm2 _ _ => fin h2 T e2.size sb (x2.toR fun k => ?_) (fun k => ?_) ?_
    · rw [mb k]
      exact (pm2.map keyOf).mem_iff.symm
    · have hS0 : S k = false := by
        cases q : S k with
        | false => rfl
        | true =>
          have z := (ma k).1 q
          rw [Array.eq_empty_of_size_eq_zero (show ea.size = 0 by rw [za, ← hez]; exact hz)] at z
          simp at z
      rw [hS0]
      simp
    · have e3 : e2.size = m := by rw [← zb, ← Array.length_toList, pm2.length_eq, Array.length_toList]
      omega
  · refine merge_more (s := { s with heap := h' }) hrb xr hz td hcr xb' cb (fun s' Q' x' q => unch_of _ x' q) fun h2 U c sb R hU hc => fin h2 U c sb R (fun k => ?_) (by omega)
    rw [hU k, ma k, mb k, (pm.map keyOf).mem_iff]
end
end FsSet

namespace FsSet
open PySem PySem.Spec PyProof.Rows L2
section
variable {P : Program} {w : World} {A : Around} {E : Value → Shared → Prop} {s : Shared}

/-- what a loop over the entries of x leaves in r, where f says which keys are taken -/
structure Filt (w : World) (s : Shared) (r : Addr) (f : Int → Bool) (done : List (Int × Value)) (h3 : Heap) : Prop where
  sb : Heap.SameBut r s.heap h3
  rr : ∃ S n, SetR w h3 r S n ∧ (∀ k, S k = true ↔ f k = true ∧ k ∈ done.map keyOf) ∧ n ≤ done.length
theorem Filt.skip {r : Addr} {f : Int → Bool} {done : List (Int × Value)} {h3 : Heap} (F : Filt w s r f done h3) {k : Int} {e : Int × Value} (he : keyOf e = k) (hf : f k = false) : Filt w s r f (done ++ [e]) h3 := by
  obtain ⟨S, n, R, hS, hn⟩ := F.rr
  refine ⟨F.sb, S, n, R, fun j => ?_, by rw [List.length_append, List.length_singleton]; omega⟩
  rw [hS j, List.map_append, List.mem_append]
  constructor
  · rintro ⟨a, b⟩
    exact ⟨a, .inl b⟩
  · rintro ⟨a, b | b⟩
    · exact ⟨a, b⟩
    · have e1 : j = keyOf e := by simpa using b
      rw [e1, he, hf] at a
      cases a
theorem Filt.add {r : Addr} {f : Int → Bool} {done : List (Int × Value)} {h4 : Heap} {S : Int → Bool} {n : Nat} {k : Int} {e : Int × Value} (sb : Heap.SameBut r s.heap h4) (hS : ∀ k, S k = true ↔ f k = true ∧ k ∈ done.map keyOf) (hn : n ≤ done.length)
    (R : SetR w h4 r (fun j => S j || decide (j = k)) (if S k = true then n else n + 1)) (he : keyOf e = k) (hf : f k = true) : Filt w s r f (done ++ [e]) h4 := by
  refine ⟨sb, _, _, R, fun j => ?_, ?_⟩
  · rw [Bool.or_eq_true, decide_eq_true_eq, hS j, List.map_append, List.mem_append]
    have e1 : j ∈ [e].map keyOf ↔ j = k := by
      rw [← he]
      simp
    rw [e1]
    constructor
    · rintro (⟨a, b⟩ | rfl)
      · exact ⟨a, .inl b⟩
      · exact ⟨hf, .inr rfl⟩
    · rintro ⟨a, b | b⟩
      · exact .inl ⟨a, b⟩
      · exact .inr b
  · rw [List.length_append, List.length_singleton]
    split <;> omega

/-- a & b -/
theorem and_sets {a b : Addr} (hne : a ≠ b) {S T : Int → Bool} {n m : Nat} (Ra : SetR w s.heap a S n) (Rb : SetR w s.heap b T m) (hS : ∀ k, S k = true → 0 ≤ k ∧ k < 10) (hT : ∀ k, T k = true → 0 ≤ k ∧ k < 10) {Q : Value → Shared → Prop}
    (h : ∀ h' U c, (∀ b o, s.heap.get? b = some o → h'.get? b = some o) → SetR w h' s.heap.objs.size U c → (∀ k, U k = true ↔ S k = true ∧ T k = true) → c ≤ 10 → Q (.ref s.heap.objs.size) { s with heap := h' }) :
    wpAny (model P w) A (binaryOp .BitAnd (.ref a) (.ref b)) Q E s := by
  obtain ⟨ea, epa, ta, xa, za, ma⟩ := setE_of Ra
  obtain ⟨eb, epb, tb, xb, zb, mb⟩ := setE_of Rb
  have ca : Cols ea := fun k hk => hS k ((ma k).2 hk)
  have cb : Cols eb := fun k hk => hT k ((mb k).2 hk)
  have na := cols_len xa.good.2 ca
  have nb := cols_len xb.good.2 cb
  refine wpAny_binaryOp_same xa.ty xb.ty F.fills_set_and F.slot_set_and (wpAny_call_entry F.slot_set_and xa.ty ent_and ?_ (F.args_set_and_2 _ _))
  show wpAny _ _ (binBody "__and__" "frozenset.__and__.declined" (Builtin.Frozenset.intersection "frozenset.__and__") a b) _ _ _
  refine bin_body xa xb ?_
  have hlb : b < s.heap.objs.size := by
    obtain ⟨o, h1, _⟩ := xb
    exact Heap.lt_size h1
  have hla : a < s.heap.objs.size := by
    obtain ⟨o, h1, _⟩ := xa
    exact Heap.lt_size h1
  unfold Builtin.Frozenset.intersection
  refine wp_if_neg (by simpa using fun z : b = a => hne z.symm) ?_
  refine wpAny_bind (base_of xa (wpAny_bind (new_set fun x0 => wpAny_bind (addr_of (wpAny_bind (wpAny_holding ?_))))))
  have xa' : SetE w (s.heap.push (newS w)) a ea epa ta := xa.at fun o ho => Heap.get?_push_of_some _ ho
  have xb' : SetE w (s.heap.push (newS w)) b eb epb tb := xb.at fun o ho => Heap.get?_push_of_some _ ho
  refine wpAny_bind (any_set (s := { s with heap := s.heap.push (newS w) }) xb' (wp_if_pos rfl ?_))
  refine wpAny_bind (addr_of (wpAny_bind (size_of (s := { s with heap := s.heap.push (newS w) }) xb' (wpAny_bind (size_of (s := { s with heap := s.heap.push (newS w) }) xa' ?_)))))
  have fin : ∀ (x y : Addr) (ex : Array (Int × Value)) (epx : Nat) (tx : SetTable) (Tx Ty : Int → Bool) (ny : Nat), x < s.heap.objs.size → y < s.heap.objs.size → SetE w (s.heap.push (newS w)) x ex epx tx → SetR w (s.heap.push (newS w)) y Ty ny → (∀ k, Tx k = true ↔ k ∈ ex.toList.map keyOf) → ex.size ≤ 10 →
      (∀ k, (Ty k = true ∧ Tx k = true) ↔ (S k = true ∧ T k = true)) →
      wpAny (model P w) A.in1 (do
        let was ← setEpoch x
        for (hh, v) in ← setWalkUnseen x [y, s.heap.objs.size] (some s.heap.objs.size) do
          holding [v] do
            if (← setFind y v hh).isSome then
              let _ ← setAddHashed s.heap.objs.size v hh
          Builtin.Frozenset.unchanged "frozenset.__and__" x was : Sem Unit) (fun _ s' => wpAny (model P w) A.in1 (pure (Value.ref s.heap.objs.size) : Sem Value) (fun v s' => v ≠ Value.notImplemented ∧ Q v s') E s') E { s with heap := s.heap.push (newS w) } := by
    intro x y ex epx tx Tx Ty ny hlx hly xx Ry hTx hsz hfin
    have go : ∀ (out : Array (Int × Value)) (h2 : Heap), out.toList.Perm ex.toList → Filt w { s with heap := s.heap.push (newS w) } s.heap.objs.size Ty [] h2 →
        wpAny (model P w) A.in1 (do
          for (hh, v) in out do
            holding [v] do
              if (← setFind y v hh).isSome then
                let _ ← setAddHashed s.heap.objs.size v hh
            Builtin.Frozenset.unchanged "frozenset.__and__" x epx : Sem Unit) (fun _ s' => wpAny (model P w) A.in1 (pure (Value.ref s.heap.objs.size) : Sem Value) (fun v s' => v ≠ Value.notImplemented ∧ Q v s') E s') E { s with heap := h2 } := by
      intro out h2 pm F2
      rw [← Array.forIn_toList]
      refine wpAny_bind (wpAny_forIn_list _ (fun rest _ s3 => ∃ h3 done, s3 = { s with heap := h3 } ∧ Filt w { s with heap := s.heap.push (newS w) } s.heap.objs.size Ty done h3 ∧ done ++ rest = out.toList) _ ?turn ?fin out.toList _ ⟨h2, [], rfl, F2, rfl⟩)
      case fin =>
        rintro _ s3 ⟨h3, done, rfl, F3, hd⟩
        rw [List.append_nil] at hd
        obtain ⟨U, c, R, hU, hc⟩ := F3.rr
        refine wpAny_pure (wpAny_pure ⟨(fun z => nomatch z), h h3 U c (fun b o e => ?_) R (fun k => ?_) ?_⟩)
        · rw [F3.sb.2 b (Nat.ne_of_lt (Heap.lt_size e))]
          exact Heap.get?_push_of_some _ e
        · rw [hU k, hd, (pm.map keyOf).mem_iff, ← hTx k]
          exact hfin k
        · rw [hd, pm.length_eq, Array.length_toList] at hc
          omega
      case turn =>
        rintro ⟨hh, v⟩ rest _ s3 ⟨h3, done, rfl, F3, hd⟩
        have hmem : (hh, v) ∈ ex.toList := pm.mem_iff.mp (by rw [← hd]; simp)
        obtain ⟨k, tk, e1, e2⟩ := xx.good.1 _ hmem
        have e1' : v = Value.int k tk := e1
        have e2' : hh = (intKind P w).hash k := e2
        subst e1' e2'
        have hlen : done.length + rest.length + 1 = ex.size := by
          have z := congrArg List.length hd
          rw [List.length_append, List.length_cons, pm.length_eq, Array.length_toList] at z
          omega
        have Ry3 : SetR w h3 y Ty ny := Ry.at fun u hu => (F3.sb.2 y (Nat.ne_of_lt hly)).trans hu
        obtain ⟨U, c, R, hU, hc⟩ := F3.rr
        refine wpAny_bind (wpAny_holding (wpAny_bind (wpAny_setFind_of (intKind_is P w k tk) rfl (Ry3.setOf (P := P)) fun q hq => ?_)))
        cases hT : Ty k with
        | true =>
          refine wp_if_pos (by rw [hq, hT]) ?_
          refine wpAny_bind (setR_add_hashed (s := { s with heap := h3 }) R (by show c + 1 < 4096; omega) fun h4 sb4 R4 => wpAny_pure ?_)
          have F4 : Filt w { s with heap := s.heap.push (newS w) } s.heap.objs.size Ty (done ++ [((intKind P w).hash k, Value.int k tk)]) h4 := Filt.add (F3.sb.trans sb4) hU hc R4 rfl hT
          have xx4 : SetE w h4 x ex epx tx := xx.at fun u hu => (F4.sb.2 x (Nat.ne_of_lt hlx)).trans hu
          refine wpAny_bind (unch_of (s := { s with heap := h4 }) _ xx4 (wpAny_pure ⟨h4, _, rfl, F4, ?_⟩))
          rw [List.append_assoc]
          exact hd
        | false =>
          refine wp_if_neg (by rw [hq, hT]; decide) (wpAny_pure ?_)
          have F4 : Filt w { s with heap := s.heap.push (newS w) } s.heap.objs.size Ty (done ++ [((intKind P w).hash k, Value.int k tk)]) h3 := F3.skip rfl hT
          have xx4 : SetE w h3 x ex epx tx := xx.at fun u hu => (F4.sb.2 x (Nat.ne_of_lt hlx)).trans hu
          refine wpAny_bind (unch_of (s := { s with heap := h3 }) _ xx4 (wpAny_pure ⟨h3, _, rfl, F4, ?_⟩))
          rw [List.append_assoc]
          exact hd
    refine wpAny_bind (epoch_of (s := { s with heap := s.heap.push (newS w) }) xx ?_)
    have R0 : SetR w (s.heap.push (newS w)) s.heap.objs.size (fun _ => false) 0 := x0.toR fun k => by simp
    have F0 : ∀ h2, Heap.SameBut s.heap.objs.size (s.heap.push (newS w)) h2 → SetR w h2 s.heap.objs.size (fun _ => false) 0 → Filt w { s with heap := s.heap.push (newS w) } s.heap.objs.size Ty [] h2 := fun h2 sb R => ⟨sb, _, _, R, fun k => by simp, Nat.zero_le _⟩
    refine wpAny_bind (walk_unseen (s := { s with heap := s.heap.push (newS w) }) xx (fun c hc => ?_) (fun out pm => go out _ pm (F0 _ (Heap.SameBut.refl _ _) R0)) fun f ef => ?_)
    · rcases List.mem_cons.mp hc with z | z
      · rw [z]; exact ⟨_, _, Ry⟩
      · rw [List.mem_singleton.mp z]; exact ⟨_, _, R0⟩
    · cases ef
      refine ⟨by simp, fun out h2 pm sb keep => go out h2 pm (F0 h2 sb ?_)⟩
      obtain ⟨ep2, t2, x2, _, _⟩ := keep _ _ _ x0
      exact x2.toR fun k => by simp
  by_cases hgt : eb.size > ea.size
  · rw [if_pos hgt]
    exact fin a b ea epa ta S T m hla hlb xa' (Rb.at fun o ho => Heap.get?_push_of_some _ ho) ma na (fun k => And.comm)
  · rw [if_neg hgt]
    exact fin b a eb epb tb T S n hlb hla xb' (Ra.at fun o ho => Heap.get?_push_of_some _ ho) mb nb (fun k => Iff.rfl)
end
end FsSet

namespace FsSet
open PySem PySem.Spec PyProof.Rows L2
theorem erase_list {α : Type} (xs : Array α) (p : Nat) : (SetTable.eraseAt xs p).toList = xs.toList.eraseIdx p := by
  unfold SetTable.eraseAt
  rw [Array.toList_append, Array.toList_extract, Array.toList_extract, List.eraseIdx_eq_take_drop_succ]
  simp [List.take_of_length_le]
section
variable {P : Program} {w : World} {A : Around} {E : Value → Shared → Prop} {s : Shared}
/-- one member is taken out -/
theorem discard_at {a : Addr} {es : Array (Int × Value)} {ep : Nat} {t : SetTable} (x : SetE w s.heap a es ep t) (hd : t.dummies = #[]) {k : Int} {tk : Tok} {Q : Bool → Shared → Prop}
    (h0 : k ∉ es.toList.map keyOf → Q false s)
    (h1 : ∀ h' es' t', Heap.SameBut a s.heap h' → SetE w h' a es' (ep + 1) t' → (∀ j, j ∈ es'.toList.map keyOf ↔ j ∈ es.toList.map keyOf ∧ j ≠ k) → es'.size + 1 = es.size → t'.mask = t.mask → t'.dummies.size = 1 → Q true { s with heap := h' }) :
    wpAny (model P w) A (setDiscardHashed a (.int k tk) ((intKind P w).hash k)) Q E s := by
  obtain ⟨o, ho, hex, hdt, g, nd, hb, hf, hr, hl⟩ := id x
  have hkey : (intKind P w).is k (.int k tk) = true := intKind_is P w k tk
  have hsc : (Value.int k tk).scannable = true := rfl
  have hel : ElemsOf (intKind P w) es.toList := good_elems g
  unfold setDiscardHashed setFind setFindIn
  refine wpAny_bind (wpAny_bind (x.state ?_))
  dsimp only
  rw [byScan_of hsc hb hel]
  simp only [↓reduceIte]
  refine wpAny_bind (wpAny_rule ?_)
  refine wpAny_bind (wpAny_setScan_of hkey ho hdt hf hel ?_)
  cases hfi : List.findIdx? (fun e => (intKind P w).is k e.2) es.toList with
  | none =>
    dsimp only
    refine wpAny_pure (wpAny_pure (h0 fun z => ?_))
    obtain ⟨e, he, q⟩ := (good_mem (P := P) (w := w) g k).1 z
    have c := List.findIdx?_eq_none_iff.mp hfi e he
    rw [q] at c
    cases c
  | some j =>
    dsimp only
    refine wpAny_pure ?_
    dsimp only
    obtain ⟨hj, pj, _⟩ := List.findIdx?_eq_some_iff_getElem.mp hfi
    refine wpAny_bind (x.state ?_)
    dsimp only
    have hk : keyOf es.toList[j] = k := (good_is (g _ (List.getElem_mem hj)) k).1 pj
    obtain ⟨f1, f2, f3⟩ := fill_of hf hd
    have hjs : j < es.size := by rw [← Array.length_toList]; exact hj
    have hjp : j < t.place.size := by omega
    have hpl : t.place[0 + j]? = some t.place[j] := by rw [Nat.zero_add]; exact Array.getElem?_eq_getElem hjp
    have ed : t.drop (0 + j) = { t with place := SetTable.eraseAt t.place j, dummies := SetTable.insertAt t.dummies (SetTable.below t.dummies t.place[j]) t.place[j] } := by
      unfold SetTable.drop
      rw [hpl]
      simp
    rw [ed, Nat.zero_add]
    have el := erase_list es j
    have elp := erase_list t.place j
    have dsz : (SetTable.insertAt t.dummies (SetTable.below t.dummies t.place[j]) t.place[j]).size = 1 := by
      rw [← Array.length_toList, SetTable.toList_insertAt, hd]
      rfl
    have hsz : (SetTable.eraseAt es j).size + 1 = es.size := by
      rw [← Array.length_toList, el, List.length_eraseIdx_of_lt hj, Array.length_toList]
      omega
    have hpz : (SetTable.eraseAt t.place j).size + 1 = t.place.size := by
      rw [← Array.length_toList, elp, List.length_eraseIdx_of_lt (by rw [Array.length_toList]; exact hjp), Array.length_toList]
      omega
    have sub : (es.toList.eraseIdx j).Sublist es.toList := List.eraseIdx_sublist ..
    refine wpAny_bind (x.store (fun e he => g e (sub.subset (by rw [← el]; exact he))) (by rw [el]; exact List.Pairwise.sublist (sub.map keyOf) nd) (by omega) ?_ (by rw [elp]; exact List.Pairwise.sublist (List.eraseIdx_sublist ..) hr) hl fun h' sb x' => ?_)
    · unfold SetTable.fits SetTable.fill
      rw [Bool.and_eq_true, beq_iff_eq, decide_eq_true_eq]
      dsimp only
      omega
    · refine wpAny_bind (wpAny_point (wpAny_pure (h1 h' _ _ sb x' (fun i => ?_) hsz rfl dsz)))
      rw [el]
      have pm : es.toList.Perm (es.toList[j] :: es.toList.eraseIdx j) := (erase_perm es.toList j _ (List.getElem?_eq_getElem hj)).symm
      have pk := pm.map keyOf
      rw [List.map_cons, hk] at pk
      have nd2 := pk.nodup_iff.mp nd
      rw [List.nodup_cons] at nd2
      rw [pk.mem_iff, List.mem_cons]
      constructor
      · intro z
        exact ⟨.inr z, fun e => nd2.1 (e ▸ z)⟩
      · rintro ⟨z | z, n⟩
        · exact absurd z n
        · exact z
end
end FsSet

namespace FsSet
open PySem PySem.Spec PyProof.Rows L2
section
variable {P : Program} {w : World} {A : Around} {E : Value → Shared → Prop} {s : Shared}
/-- all members of a set with at most one member are taken out -/
theorem less_few {r b : Addr} (hne : r ≠ b) (id : String) {er eb : Array (Int × Value)} {epr epb : Nat} {tr tb : SetTable} {Q : Unit → Shared → Prop} (xr : SetE w s.heap r er epr tr) (td : Tidy tr) (xb : SetE w s.heap b eb epb tb) (h1 : eb.size ≤ 1) (h4 : 4 ≤ er.size)
    (h : ∀ h' es' ep' t', Heap.SameBut r s.heap h' → SetE w h' r es' ep' t' → (∀ j, j ∈ es'.toList.map keyOf ↔ j ∈ er.toList.map keyOf ∧ j ∉ eb.toList.map keyOf) → Q () { s with heap := h' }) :
    wpAny (model P w) A (Builtin.Frozenset.differenceUpdate id r (.ref b)) Q E s := by
  unfold Builtin.Frozenset.differenceUpdate
  refine wp_if_neg (by simpa using fun z : b = r => hne z.symm) ?_
  refine wpAny_bind (any_set xb ?_)
  dsimp only
  refine wp_if_pos rfl ?_
  refine wpAny_bind (addr_of ?_)
  refine wpAny_bind (size_of xb (wpAny_bind (size_of xr ?_)))
  refine wp_if_neg (by omega) ?_
  try refine wpAny_bind (wpAny_pure ?_)
  refine wpAny_bind (epoch_of xb ?_)
  refine wpAny_bind (wpAny_holding ?_)
  refine wpAny_bind (walk_unseen xb (fun c hc => ?_) (fun out pm => ?_) fun f ef => nomatch ef)
  · rw [List.mem_singleton.mp hc]
    exact ⟨fun k => decide (k ∈ er.toList.map keyOf), _, xr.toR fun k => by simp⟩
  · have hol : out.toList.length ≤ 1 := by rw [pm.length_eq, Array.length_toList]; exact h1
    rw [← Array.forIn_toList]
    refine wpAny_bind (wpAny_forIn_list _ (fun rest _ s3 => ∃ h3 es3 ep3 t3 done, s3 = { s with heap := h3 } ∧ Heap.SameBut r s.heap h3 ∧ SetE w h3 r es3 ep3 t3 ∧ (∀ j, j ∈ es3.toList.map keyOf ↔ j ∈ er.toList.map keyOf ∧ j ∉ done.map keyOf) ∧ t3.mask = tr.mask ∧ t3.dummies.size ≤ done.length ∧ done ++ rest = out.toList) _ ?turn ?fin out.toList _ ⟨s.heap, er, epr, tr, [], rfl, Heap.SameBut.refl _ _, xr, fun j => by simp, rfl, by rw [td.1]; exact Nat.le_refl _, rfl⟩)
    case fin =>
      rintro _ s3 ⟨h3, es3, ep3, t3, done, rfl, sb, x3, hm, em, dz, hd⟩
      rw [List.append_nil] at hd
      refine wpAny_pure ?_
      show wpAny _ _ (setTidy r) _ _ _
      unfold setTidy
      refine wpAny_bind (x3.state ?_)
      dsimp only
      have hnt : ¬ t3.tooManyDummies = true := by
        unfold SetTable.tooManyDummies
        rw [decide_eq_true_eq, em]
        have := td.2
        rw [hd] at dz
        omega
      refine wp_if_neg hnt (wpAny_pure (h h3 es3 ep3 t3 sb x3 fun j => ?_))
      rw [hm j, hd, (pm.map keyOf).mem_iff]
    case turn =>
      rintro ⟨hh, v⟩ rest _ s3 ⟨h3, es3, ep3, t3, done, rfl, sb, x3, hm, em, dz, hd⟩
      have hmem : (hh, v) ∈ eb.toList := pm.mem_iff.mp (by rw [← hd]; simp)
      obtain ⟨k, tk, e1, e2⟩ := xb.good.1 _ hmem
      have e1' : v = Value.int k tk := e1
      have e2' : hh = (intKind P w).hash k := e2
      subst e1' e2'
      have hl0 : done.length = 0 := by
        have z := congrArg List.length hd
        rw [List.length_append, List.length_cons] at z
        omega
      have hdn : done = [] := List.eq_nil_of_length_eq_zero hl0
      subst hdn
      have hdm : t3.dummies = #[] := Array.eq_empty_of_size_eq_zero (Nat.le_zero.mp dz)
      have hk1 : ∀ j, j ∈ List.map keyOf [((intKind P w).hash k, Value.int k tk)] ↔ j = k := fun j => by
        show j ∈ [k] ↔ j = k
        simp
      refine wpAny_bind (wpAny_holding (discard_at (s := { s with heap := h3 }) x3 hdm (fun hno => ?_) fun h4 es4 t4 sb4 x4 hm4 hz4 em4 dz4 => ?_))
      · have xb3 : SetE w h3 b eb epb tb := xb.at fun u hu => (sb.2 b (Ne.symm hne)).trans hu
        refine wpAny_bind (unch_of (s := { s with heap := h3 }) _ xb3 (wpAny_pure ⟨h3, es3, ep3, t3, [((intKind P w).hash k, Value.int k tk)], rfl, sb, x3, fun j => ?_, em, by rw [hdm]; exact Nat.zero_le _, hd⟩))
        rw [hk1, hm j]
        constructor
        · rintro ⟨a, b⟩
          exact ⟨a, fun e => hno (e ▸ (hm j).2 ⟨a, b⟩)⟩
        · rintro ⟨a, _⟩
          exact ⟨a, by simp⟩
      · have sb5 := sb.trans sb4
        have xb4 : SetE w h4 b eb epb tb := xb.at fun u hu => (sb5.2 b (Ne.symm hne)).trans hu
        refine wpAny_bind (unch_of (s := { s with heap := h4 }) _ xb4 (wpAny_pure ⟨h4, es4, _, t4, [((intKind P w).hash k, Value.int k tk)], rfl, sb5, x4, fun j => ?_, em4.trans em, by rw [dz4]; exact Nat.le_refl _, hd⟩))
        rw [hk1, hm4 j, hm j]
        constructor
        · rintro ⟨⟨a, _⟩, b⟩
          exact ⟨a, b⟩
        · rintro ⟨a, b⟩
          exact ⟨⟨a, by simp⟩, b⟩

/-- the walk that nobody sees, into a set that is filled -/
theorem walk_filled {a f : Addr} {es ef : Array (Int × Value)} {ep epf : Nat} {t tf : SetTable} {others : List Addr} {Q : Array (Int × Value) → Shared → Prop} (x : SetE w s.heap a es ep t) (xf : SetE w s.heap f ef epf tf) (hfo : f ∈ others)
    (ho : ∀ b ∈ others, ∃ S n, SetR w s.heap b S n) (h : ∀ (out : Array (Int × Value)) h' ep' t', out.toList.Perm es.toList → Heap.SameBut f s.heap h' → SetE w h' f ef ep' t' → Q out { s with heap := h' }) :
    wpAny (model P w) A (setWalkUnseen a others (some f)) Q E s := by
  refine walk_unseen x ho (fun out pm => h out s.heap epf tf pm (Heap.SameBut.refl _ _) xf) fun g eg => ?_
  cases eg
  refine ⟨hfo, fun out h' pm sb keep => ?_⟩
  obtain ⟨ep2, t2, x2, _, _⟩ := keep _ _ _ xf
  exact h out h' ep2 t2 pm sb x2
/-- a loop that takes some of the entries into r -/
theorem filt_loop {B : Shared} {r : Addr} {g : Int → Bool} (f : Int × Value → PUnit → Sem (ForInStep PUnit)) {l : List (Int × Value)} {Q : PUnit → Shared → Prop} (hg : ∀ e ∈ l, GoodE e)
    (turn : ∀ k tk h3 done (Q' : ForInStep PUnit → Shared → Prop), done.length < l.length → Filt w B r g done h3 → (∀ h4, Filt w B r g (done ++ [((intKind P w).hash k, Value.int k tk)]) h4 → Q' (.yield PUnit.unit) { B with heap := h4 }) →
      wpAny (model P w) A (f ((intKind P w).hash k, Value.int k tk) PUnit.unit) Q' E { B with heap := h3 })
    (fin : ∀ h3, Filt w B r g l h3 → Q PUnit.unit { B with heap := h3 }) {h2 : Heap} (F2 : Filt w B r g [] h2) : wpAny (model P w) A (forIn l PUnit.unit f) Q E { B with heap := h2 } := by
  refine wpAny_forIn_list f (fun rest _ s3 => ∃ h3 done, s3 = { B with heap := h3 } ∧ Filt w B r g done h3 ∧ done ++ rest = l) Q ?turn ?fin l _ ⟨h2, [], rfl, F2, rfl⟩
  case fin =>
    rintro _ s3 ⟨h3, done, rfl, F3, hd⟩
    rw [List.append_nil] at hd
    subst hd
    exact fin h3 F3
  case turn =>
    rintro ⟨hh, v⟩ rest _ s3 ⟨h3, done, rfl, F3, hd⟩
    obtain ⟨k, tk, e1, e2⟩ := hg (hh, v) (by rw [← hd]; simp)
    have e1' : v = Value.int k tk := e1
    have e2' : hh = (intKind P w).hash k := e2
    subst e1' e2'
    refine turn k tk h3 done _ ?_ F3 fun h4 F4 => ⟨h4, _, rfl, F4, ?_⟩
    · rw [← hd, List.length_append, List.length_cons]
      omega
    · rw [List.append_assoc]
      exact hd

/-- a - b -/
theorem sub_sets {a b : Addr} (hne : a ≠ b) {S T : Int → Bool} {n m : Nat} (Ra : SetR w s.heap a S n) (Rb : SetR w s.heap b T m) (hS : ∀ k, S k = true → 0 ≤ k ∧ k < 10) (hT : ∀ k, T k = true → 0 ≤ k ∧ k < 10) {Q : Value → Shared → Prop}
    (h : ∀ h' U c, (∀ b o, s.heap.get? b = some o → h'.get? b = some o) → SetR w h' s.heap.objs.size U c → (∀ k, U k = true ↔ S k = true ∧ T k = false) → c ≤ 10 → Q (.ref s.heap.objs.size) { s with heap := h' }) :
    wpAny (model P w) A (binaryOp .Sub (.ref a) (.ref b)) Q E s := by
  obtain ⟨ea, epa, ta, xa, za, ma⟩ := setE_of Ra
  obtain ⟨eb, epb, tb, xb, zb, mb⟩ := setE_of Rb
  have ca : Cols ea := fun k hk => hS k ((ma k).2 hk)
  have cb : Cols eb := fun k hk => hT k ((mb k).2 hk)
  have na := cols_len xa.good.2 ca
  have nb := cols_len xb.good.2 cb
  refine wpAny_binaryOp_same xa.ty xb.ty F.fills_set_sub F.slot_set_sub (wpAny_call_entry F.slot_set_sub xa.ty ent_sub ?_ (F.args_set_sub_2 _ _))
  show wpAny _ _ (binBody "__sub__" "frozenset.__sub__.declined" (Builtin.Frozenset.difference "frozenset.__sub__") a b) _ _ _
  refine bin_body xa xb ?_
  have hlb : b < s.heap.objs.size := by
    obtain ⟨o, h1, _⟩ := xb
    exact Heap.lt_size h1
  have hla : a < s.heap.objs.size := by
    obtain ⟨o, h1, _⟩ := xa
    exact Heap.lt_size h1
  unfold Builtin.Frozenset.difference
  dsimp only
  refine wpAny_bind (any_set xb ?_)
  refine wp_if_neg (by decide) ?_
  refine wpAny_bind (addr_of ?_)
  refine wp_if_neg (by simp) ?_
  refine wp_if_pos rfl ?_
  refine wpAny_bind (size_of xb (wpAny_bind (size_of xa ?_)))
  by_cases hmuch : ea.size / 4 > eb.size
  · refine wp_if_pos hmuch ?_
    refine wpAny_bind (wpAny_rule ?_)
    refine wpAny_bind (copy_of xa ca fun h' er epr tr kp hsz xr pm td m7 => ?_)
    refine wpAny_bind (addr_of (wpAny_bind (wpAny_holding ?_)))
    have hez : er.size = ea.size := by rw [← Array.length_toList, pm.length_eq, Array.length_toList]
    refine less_few (s := { s with heap := h' }) (Nat.ne_of_gt hlb) _ xr td (xb.at fun o ho => kp _ _ ho) (by omega) (by omega) fun h2 e2 ep2 t2 sb x2 hm => ?_
    have hm2 : ∀ k, (S k && !T k) = true ↔ k ∈ e2.toList.map keyOf := fun k => by
      rw [hm k, (pm.map keyOf).mem_iff, ← ma k, ← mb k]
      cases S k <;> cases T k <;> simp
    have hc2 : e2.size ≤ 10 := cols_len x2.good.2 fun k hk => by
      have z := (hm2 k).2 hk
      rw [Bool.and_eq_true] at z
      exact hS k z.1
    refine wpAny_pure ⟨(fun z => nomatch z), h h2 _ e2.size (fun c o e => ?_) (x2.toR hm2) (fun k => by cases S k <;> cases T k <;> simp) hc2⟩
    rw [sb.2 c (Nat.ne_of_lt (Heap.lt_size e))]
    exact kp c o e
  · refine wp_if_neg hmuch ?_
    refine wpAny_bind (base_of xa (wpAny_bind (new_set fun x0 => wpAny_bind (addr_of ?_))))
    have xa' : SetE w (s.heap.push (newS w)) a ea epa ta := xa.at fun o ho => Heap.get?_push_of_some _ ho
    have Rb' : SetR w (s.heap.push (newS w)) b T m := Rb.at fun o ho => Heap.get?_push_of_some _ ho
    refine wpAny_bind (epoch_of (s := { s with heap := s.heap.push (newS w) }) xa' (wpAny_bind (wpAny_holding ?_)))
    have R0 : SetR w (s.heap.push (newS w)) s.heap.objs.size (fun _ => false) 0 := x0.toR fun k => by simp
    have F0 : ∀ h2, Heap.SameBut s.heap.objs.size (s.heap.push (newS w)) h2 → SetR w h2 s.heap.objs.size (fun _ => false) 0 → Filt w { s with heap := s.heap.push (newS w) } s.heap.objs.size (fun k => !T k) [] h2 := fun h2 sb R => ⟨sb, _, _, R, fun k => by simp, Nat.zero_le _⟩
    refine wpAny_bind ?_
    refine wp_if_pos rfl ?_
    refine walk_filled (s := { s with heap := s.heap.push (newS w) }) xa' x0 (by simp) (fun c hc => ?_) fun out h2 ep2 t2 pm sb x2 => ?_
    · rcases List.mem_cons.mp hc with z | z
      · rw [z]; exact ⟨_, _, Rb'⟩
      · rw [List.mem_singleton.mp z]; exact ⟨_, _, R0⟩
    · rw [← Array.forIn_toList]
      refine wpAny_bind (filt_loop (w := w) (P := P) (B := { s with heap := s.heap.push (newS w) }) (r := s.heap.objs.size) (g := fun k => !T k) _ (fun e he => xa.good.1 e (pm.mem_iff.mp he)) (fun k tk h3 done Q' hl F3 hQ => ?_) (fun h3 F3 => ?_) (F0 h2 sb (x2.toR fun k => by simp)))
      · have Rb3 : SetR w h3 b T m := Rb'.at fun u hu => (F3.sb.2 b (Nat.ne_of_lt hlb)).trans hu
        obtain ⟨U, c, R, hU, hc⟩ := F3.rr
        have hle : out.toList.length ≤ 10 := by rw [pm.length_eq, Array.length_toList]; exact na
        dsimp only
        refine wpAny_bind (wpAny_holding ?_)
        refine wp_if_pos rfl ?_
        refine wpAny_bind (wpAny_setFind_of (intKind_is P w k tk) rfl (Rb3.setOf (P := P)) fun q hq => ?_)
        refine wpAny_bind (wpAny_pure ?_)
        cases hTk : T k with
        | true =>
          refine wp_if_neg (by rw [hq, hTk]; decide) (wpAny_pure ?_)
          have F4 := F3.skip (k := k) (e := ((intKind P w).hash k, Value.int k tk)) rfl (by show (!T k) = false; rw [hTk]; rfl)
          have xa4 : SetE w h3 a ea epa ta := xa'.at fun u hu => (F4.sb.2 a (Nat.ne_of_lt hla)).trans hu
          exact wpAny_bind (unch_of (s := { s with heap := h3 }) _ xa4 (wpAny_pure (hQ h3 F4)))
        | false =>
          refine wp_if_pos (by rw [hq, hTk]; rfl) ?_
          refine wpAny_bind (setR_add_hashed (s := { s with heap := h3 }) R (by show c + 1 < 4096; omega) fun h4 sb4 R4 => wpAny_pure ?_)
          have F4 : Filt w { s with heap := s.heap.push (newS w) } s.heap.objs.size (fun k => !T k) (done ++ [((intKind P w).hash k, Value.int k tk)]) h4 := Filt.add (F3.sb.trans sb4) hU hc R4 rfl (by show (!T k) = true; rw [hTk]; rfl)
          have xa4 : SetE w h4 a ea epa ta := xa'.at fun u hu => (F4.sb.2 a (Nat.ne_of_lt hla)).trans hu
          exact wpAny_bind (unch_of (s := { s with heap := h4 }) _ xa4 (wpAny_pure (hQ h4 F4)))
      · obtain ⟨U, c, R, hU, hc⟩ := F3.rr
        refine wpAny_pure (wpAny_pure ⟨(fun z => nomatch z), h h3 U c (fun b o e => ?_) R (fun k => ?_) ?_⟩)
        · rw [F3.sb.2 b (Nat.ne_of_lt (Heap.lt_size e))]
          exact Heap.get?_push_of_some _ e
        · rw [hU k, (pm.map keyOf).mem_iff, ← ma k]
          cases S k <;> cases T k <;> simp
        · rw [pm.length_eq, Array.length_toList] at hc
          omega
end
end FsSet

namespace FsSet
open PySem PySem.Spec PyProof.Rows L2
section
variable {P : Program} {w : World} {A : Around} {E : Value → Shared → Prop} {s : Shared}
set_option maxHeartbeats 3200000 in
/-- set(xs), a list of ints -/
theorem call_setL {l : Addr} {items : Array Value} (ns : List Int) {Q : Value → Shared → Prop} (hh : A.handled = none) (hl : s.heap.IsList l items) (hit : IntsAre items.toList ns) (hb : ns.length + 1 < scanBound)
    (h : ∀ (h' : Heap) (tk c : Nat), SetR w h' s.heap.objs.size (fun j => decide (j ∈ ns)) c → c ≤ ns.length → (∀ b o, s.heap.get? b = some o → h'.get? b = some o) → Q (.ref s.heap.objs.size) { s with heap := h', toks := tk }) :
    wpAny (model P w) A (call (.type "set") [.ref l]) Q E s := by
  have hisz : items.size = ns.length := (Array.length_toList (xs := items)).symm.trans (IntsAre.length hit)
  obtain ⟨c, tl, hmro⟩ := F.called_set.mro
  have f1 := F.called_set.made
  have f2 := F.called_set.sub
  refine wpAny_call (codeAny_of_tree ?_)
  show wpAny _ _ (callAny (.type "set") _) _ _ _
  refine wpAny_pure ⟨Code.quiet_builtin _ (by decide +kernel), codeAny_builtin F.entry_type_call ?_⟩
  rw [Around.under_plain (weight_type_call_type "set" [.ref l] []) rfl]
  have f3 := F.called_set.notType
  have f4 := F.called_set.canCreate
  have f5 := F.typeCall_set_1 (.ref l)
  repeat any_goals first | assumption | wp_step
  refine codeAny_mono (code_set_led1 (.ref l) (E := E) (Q₁ := fun obj s₁ => obj = .ref s.heap.objs.size ∧ s₁ = { s with heap := s.heap.push (newS w) }) ⟨rfl, rfl⟩) fun r s₁ hr => ?_
  cases r with
  | error e => exact hr
  | ok fl =>
    cases fl with
    | ret obj =>
      obtain ⟨rfl, rfl⟩ := hr
      have g1 : (s.heap.push (newS w)).get? s.heap.objs.size = some (newS w) := Heap.get?_push_size _ rfl
      have g2 : Shared.TypeIs { s with heap := s.heap.push (newS w) } (.ref s.heap.objs.size) "set" := ⟨_, g1, rfl⟩
      have f6 := F.called_set.init.lookup
      have f7 := F.called_set.init.bind (.ref s.heap.objs.size)
      repeat any_goals first | assumption | wp_step
      refine codeAny_mono (codeAny_call_builtin (R := wants (fun r s₂ => r = .none ∧ ∃ h' tk c, s₂ = { s with heap := h', toks := tk } ∧ SetR w h' s.heap.objs.size (fun j => decide (j ∈ ns)) c ∧ c ≤ ns.length ∧ (∀ b o, s.heap.get? b = some o → h'.get? b = some o)) E) F.called_set.init.plain F.entry_set_init (check_set_init_1 g2 ?_)) fun r₂ s₂ hr₂ => ?_
      · obtain ⟨⟨ocls, odict, odata, oslots⟩, hol, hcl, nl, hdl⟩ := hl
        simp only at hcl hdl
        subst hcl; subst hdl
        have hol' : (s.heap.push (newS w)).get? l = some { cls := .type "list", dict := odict, data := .seq items nl, slots := oslots } := Heap.get?_push_of_some _ hol
        have f8 := F.sub_list_set
        have f9 := F.sub_list_frozenset
        have f10 : (Value.type "list" == Value.type "dict") = false := by decide
        have hl1 : (s.heap.push (newS w)).IsList l items := ⟨_, hol', rfl, nl, rfl⟩
        unfold Builtin.«set.__init__» noKeywords Builtin.Frozenset.updateFrom
        generalize hPI : pyIter = PI
        wp_walk
        subst hPI
        refine wpAny_pyIter_list hl1 ?_
        refine wpAny_bind (m := runValue _) (wpAny_runValue ?_)
        have hlS : l < s.heap.objs.size := Heap.lt_size hol
        have hh3 : A.in1.in1.in1.handled = none := by simp [hh]
        have hz1 : (s.heap.push (newS w)).objs.size = s.heap.objs.size + 1 := Heap.size_push ..
        have hneI : l ≠ (s.heap.push (newS w)).objs.size := Nat.ne_of_lt (by rw [hz1]; exact Nat.lt_succ_of_lt hlS)
        have hSf : s.heap.objs.size ∉ [(s.heap.push (newS w)).objs.size, l] := by
          rw [hz1]
          simp only [List.mem_cons, List.not_mem_nil, or_false, not_or]
          exact ⟨Nat.ne_of_lt (Nat.lt_succ_self _), Nat.ne_of_gt hlS⟩
        have hval : ∀ (i : Nat) (v : Value), items[i]? = some v → ∃ k t, ns[i]? = some k ∧ v = .int k t := fun i v hv => by
          have hi : i < ns.length := hisz ▸ (Array.getElem?_eq_some_iff.mp hv).1
          obtain ⟨t, e⟩ := IntsAre.int_at hit i v (by rw [Array.getElem?_toList]; exact hv)
          exact ⟨ns[i], t, List.getElem?_eq_getElem hi, by rw [e, List.getD_eq_getElem?_getD, List.getElem?_eq_getElem hi]; rfl⟩
        refine set_update_ints ((Walks.list hh3 _ l hneI items).toS) s.heap.objs.size hSf ns hisz hb hval (items.size - 0) 0 _ (by omega) (Nat.zero_le _) ⟨⟨_, Heap.get?_push_size _ rfl, rfl, rfl⟩, hl1.push _⟩ ?hS0 ?hR
        case hS0 => exact ⟨0, Nat.le_refl 0, setR_new_at (Heap.get?_push_of_some _ g1)⟩
        case hR =>
          rintro ⟨h', g, d', tk', os'⟩ c' hm hc' hS'
          obtain rfl : g = s.gens := hm.gens
          obtain rfl : d' = s.drawn := hm.drawn
          obtain rfl : os' = s.os := hm.os
          show wpAny _ _ _ _ _ _
          refine wpAny_pure ?_
          show wpAny _ _ (ret Value.none) _ _ _
          refine wpAny_pure ⟨rfl, h', tk', c', rfl, hS', by rw [← hisz]; exact hc', fun b o e => ?_⟩
          have hb0 : b < s.heap.objs.size := Heap.lt_size e
          have hb2 : b ∉ [s.heap.objs.size, (s.heap.push (newS w)).objs.size] := by
            rw [hz1]
            simp only [List.mem_cons, List.not_mem_nil, or_false, not_or]
            exact ⟨Nat.ne_of_lt hb0, Nat.ne_of_lt (Nat.lt_succ_of_lt hb0)⟩
          exact hm.heap b o hb2 (Heap.get?_push_of_some _ (Heap.get?_push_of_some _ e))
      · cases r₂ with
        | error e => exact hr₂
        | ok fl₂ =>
          cases fl₂ with
          | ret r =>
            obtain ⟨rfl, h', tk, c', rfl, hS', hc', hk'⟩ := hr₂
            repeat any_goals first | assumption | wp_step
            exact h _ _ _ hS' hc' hk'
          | _ => exact hr₂.elim
    | _ => exact hr.elim
end

end FsSet

namespace FsSet
open PySem PySem.Spec PyProof.Rows L2
/-! ### the rules -/
section
variable {X : Cx}
theorem ints_are : ∀ {ns : List Int} {us : List Value}, Vals (ns.map V.int) us → IntsAre us ns
  | [], _, .nil => .nil
  | n :: ns, _, .cons r t => by
    obtain ⟨k, rfl⟩ := r
    exact .cons n k (ints_are t)
/-- set(xs), xs a list or tuple of ints -/
def rSetI (K : PySem.W.Frag) (w : World) : List V → Hp → VK → Prop := fun xs H Q => ∃ (l : Addr) (ns : List Int), xs = [V.ref l] ∧ (SqL K H l (ns.map V.int) ∨ SqT K H l (ns.map V.int)) ∧ ns.length ≤ 1000 ∧
  ∀ (p : Addr) (c : Nat), c ≤ ns.length → H p = none → Q (.ref p) (upd H p (SetO w p (fun j => decide (j ∈ ns)) c))
theorem cr_setI (hc : X.calm = true) : CallR X (.type "set") (rSetI X.K X.w) := by
  intro pins s σ H xs us Q I r h
  obtain ⟨l, ns, rfl, hq, hz, q⟩ := h
  rw [Vals.ref1 r]
  have fin : ∀ (h' : Heap) (tk c : Nat), SetR X.w h' s.heap.objs.size (fun j => decide (j ∈ ns)) c → c ≤ ns.length → (∀ b o, s.heap.get? b = some o → h'.get? b = some o) → EP X pins σ Q (.ref s.heap.objs.size) { s with heap := h', toks := tk } := fun h' tk c R hcl hk =>
    ⟨.ref s.heap.objs.size, upd H s.heap.objs.size (SetO X.w s.heap.objs.size (fun j => decide (j ∈ ns)) c), I.laid (t' := tk) hk (Nat.le_refl _) (setO_new R), rfl, q _ c hcl (I.hok.fresh (Nat.le_refl _))⟩
  have hb : ns.length + 1 < scanBound := by show ns.length + 1 < 4096; omega
  rcases hq with hq | hq
  · obtain ⟨its, rv, pl, _⟩ := I.list hq
    exact call_setL ns (I.ok.hd hc) pl.isList (by simpa using ints_are rv) hb fin
  · obtain ⟨its, rv, pl, _⟩ := I.tuple hq
    exact call_set_tupI ns (I.ok.hd hc) pl (by simpa using ints_are rv) hb fin
/-- a | b, a & b, a - b, sets of columns -/
def rSetB (w : World) (f : Bool → Bool → Bool) : R2 := fun x y H Q => ∃ (a b : Addr) (S T : Int → Bool) (n m : Nat), x = V.ref a ∧ y = V.ref b ∧ a ≠ b ∧ H a = some (SetO w a S n) ∧ H b = some (SetO w b T m) ∧
  (∀ k, S k = true → 0 ≤ k ∧ k < 10) ∧ (∀ k, T k = true → 0 ≤ k ∧ k < 10) ∧ ∀ (p : Addr) (U : Int → Bool) (c : Nat), c ≤ 20 → (∀ k, U k = f (S k) (T k)) → (c = 0 ↔ ∀ k, U k = false) → H p = none → Q (.ref p) (upd H p (SetO w p U c))
theorem setR_zero {w : World} {h : Heap} {a : Addr} {S : Int → Bool} {n : Nat} (R : SetR w h a S n) : n = 0 ↔ ∀ k, S k = false := by
  obtain ⟨es, ep, t, x, hz, hm⟩ := setE_of R
  constructor
  · intro e k
    cases q : S k with
    | false => rfl
    | true =>
      have z := (hm k).1 q
      rw [Array.eq_empty_of_size_eq_zero (hz.trans e)] at z
      simp at z
  · intro q
    rw [← hz, ← Array.length_toList, ← List.length_map (f := keyOf), List.length_eq_zero_iff]
    refine List.eq_nil_iff_forall_not_mem.mpr fun k hk => ?_
    have z := (hm k).2 hk
    rw [q k] at z
    cases z
theorem setR_few {w : World} {h : Heap} {a : Addr} {S : Int → Bool} {n : Nat} (R : SetR w h a S n) (hS : ∀ k, S k = true → 0 ≤ k ∧ k < 10) : n ≤ 10 := by
  obtain ⟨es, ep, t, x, hz, hm⟩ := setE_of R
  have z := cols_len x.good.2 fun k hk => hS k ((hm k).2 hk)
  omega
theorem op_setB {op : Operator} {f : Bool → Bool → Bool} (rule : ∀ {s : Shared} {E : Value → Shared → Prop} {a b : Addr} {S T : Int → Bool} {n m : Nat} {Q : Value → Shared → Prop}, a ≠ b → SetR X.w s.heap a S n → SetR X.w s.heap b T m → (∀ k, S k = true → 0 ≤ k ∧ k < 10) → (∀ k, T k = true → 0 ≤ k ∧ k < 10) →
      (∀ h' U c, (∀ b o, s.heap.get? b = some o → h'.get? b = some o) → SetR X.w h' s.heap.objs.size U c → (∀ k, U k = f (S k) (T k)) → c ≤ 20 → Q (.ref s.heap.objs.size) { s with heap := h' }) → wpAny (model X.prog X.w) X.A (binaryOp op (.ref a) (.ref b)) Q E s) :
    OpR X (binaryOp op) (rSetB X.w f) := by
  intro pins s σ H x y v u Q I rx ry h
  obtain ⟨a, b, S, T, n, m, rfl, rfl, hne, ha, hb, hS, hT, q⟩ := h
  cases rx
  cases ry
  exact rule hne (setO_get I ha) (setO_get I hb) hS hT fun h' U c hk R hU hc =>
    ⟨.ref s.heap.objs.size, upd H s.heap.objs.size (SetO X.w s.heap.objs.size U c), I.laid (t' := s.toks) hk (Nat.le_refl _) (setO_new R), rfl, q _ U c hc hU (setR_zero R) (I.hok.fresh (Nat.le_refl _))⟩
theorem bool_eq {a b : Bool} (h : a = true ↔ b = true) : a = b := by
  cases a <;> cases b <;> simp_all
theorem op_setOr : OpR X (binaryOp .BitOr) (rSetB X.w (· || ·)) := op_setB fun hne Ra Rb hS hT h => or_sets hne Ra Rb hS hT fun h' U c hk R hU hc =>
  h h' U c hk R (fun k => bool_eq (by rw [hU k, Bool.or_eq_true])) (by have := setR_few Ra hS; have := setR_few Rb hT; omega)
theorem op_setAnd : OpR X (binaryOp .BitAnd) (rSetB X.w (· && ·)) := op_setB fun hne Ra Rb hS hT h => and_sets hne Ra Rb hS hT fun h' U c hk R hU hc =>
  h h' U c hk R (fun k => bool_eq (by rw [hU k, Bool.and_eq_true])) (by omega)
theorem op_setSub : OpR X (binaryOp .Sub) (rSetB X.w (fun p q => p && !q)) := op_setB fun hne Ra Rb hS hT h => sub_sets hne Ra Rb hS hT fun h' U c hk R hU hc =>
  h h' U c hk R (fun k => bool_eq (by rw [hU k, Bool.and_eq_true, Bool.not_eq_true'])) (by omega)
/-- len(a set of ints) -/
def rLenS (w : World) : List V → Hp → VK → Prop := fun xs H Q => ∃ (a : Addr) (S : Int → Bool) (n : Nat), xs = [V.ref a] ∧ H a = some (SetO w a S n) ∧ Q (.int n) H
theorem cr_lenS : CallR X (.builtin "len") (rLenS X.w) := by
  intro pins s σ H xs us Q I r h
  obtain ⟨a, S, n, rfl, ha, q⟩ := h
  rw [Vals.ref1 r]
  obtain ⟨o, es, ep, t, ho, hex, hd, g, nd, hm, hb, hf, hn, _⟩ := setO_get I ha
  have hb' : es.size < 4096 := hb
  refine call_len_set ho hex hd hf (by omega) ⟨.int n, H, I.tok _, ⟨_, by rw [hn]⟩, q⟩
end
end FsSet

/-! sets of columns as lists: the mathematics, and the promises of the defs -/
namespace FsSet
open PySem PySem.Spec PyProof.Rows L2
abbrev Up (l : List Int) : Prop := l.Pairwise (· < ·)
theorem up_ext : ∀ {a b : List Int}, Up a → Up b → (∀ k, k ∈ a ↔ k ∈ b) → a = b
  | [], [], _, _, _ => rfl
  | [], y :: b, _, _, h => absurd ((h y).2 List.mem_cons_self) (by simp)
  | x :: a, [], _, _, h => absurd ((h x).1 List.mem_cons_self) (by simp)
  | x :: a, y :: b, ha, hb, h => by
    obtain ⟨a1, a2⟩ := List.pairwise_cons.mp ha
    obtain ⟨b1, b2⟩ := List.pairwise_cons.mp hb
    have hxy : x = y := by
      rcases List.mem_cons.mp ((h x).1 List.mem_cons_self) with e | e
      · exact e
      · rcases List.mem_cons.mp ((h y).2 List.mem_cons_self) with e' | e'
        · exact e'.symm
        · have := b1 x e
          have := a1 y e'
          omega
    subst hxy
    have : a = b := up_ext a2 b2 fun k => by
      constructor
      · intro hk
        rcases List.mem_cons.mp ((h k).1 (List.mem_cons_of_mem _ hk)) with e | e
        · have := a1 k hk
          omega
        · exact e
      · intro hk
        rcases List.mem_cons.mp ((h k).2 (List.mem_cons_of_mem _ hk)) with e | e
        · have := b1 k hk
          omega
        · exact e
    rw [this]
theorem up_nodup {a : List Int} (h : Up a) : a.Nodup := List.Pairwise.imp (fun h e => absurd h (by omega)) h
/-- columns -/
abbrev Col (l : List Int) : Prop := ∀ k ∈ l, 0 ≤ k ∧ k < 10
theorem up_len {a : List Int} (h : Up a) (hc : Col a) : a.length ≤ 10 := by
  have h0 : (a.map Int.toNat).Nodup := by
    refine List.Pairwise.map _ (fun a b h => h) ?_
    refine List.Pairwise.imp_of_mem (fun {x y} hx hy hlt e => ?_) h
    have h1 := hc x hx
    have h2 := hc y hy
    omega
  have z := nat_nodup_len _ (List.range 10) h0 fun x hx => by
    obtain ⟨k, hk, rfl⟩ := List.mem_map.mp hx
    have := hc k hk
    exact List.mem_range.mpr (by omega)
  rw [List.length_map, List.length_range] at z
  exact z
theorem same_upd {H : Hp} {p : Addr} {o : HO} (h : H p = none) : Same H (upd H p o) := fun b x e => by
  rw [upd_ne (ne_of_none e h)]
  exact e
theorem Same.sqT {K : PySem.W.Frag} {H H' : Hp} {a : Addr} {xs : List V} (e : Same H H') (h : SqT K H a xs) : SqT K H' a xs := by
  rcases h with (h | ⟨o, h⟩) | h
  · exact .inl (.inl (e _ _ h))
  · exact .inl (.inr ⟨o, e _ _ h⟩)
  · exact .inr h
/-- a list or tuple of ints -/
def Seq (K : PySem.W.Frag) (H : Hp) (a : Addr) (ns : List Int) : Prop := SqL K H a (ns.map V.int) ∨ SqT K H a (ns.map V.int)
theorem Seq.same {K : PySem.W.Frag} {H H' : Hp} {a : Addr} {ns : List Int} (h : Seq K H a ns) (e : Same H H') : Seq K H' a ns := h.elim (fun h => .inl (e.seq h)) fun h => .inr (Same.sqT e h)
/-- a new tuple of ints, of which R holds, is handed back -/
def NewT (H : Hp) (Q : VK) (R : List Int → Prop) : Prop := ∀ H' p ss, Same H H' → H p = none → R ss → H' p = some (.tup (ss.map V.int)) → Q (.ref p) H'
def spAsSet (K : PySem.W.Frag) : Sp := fun vs H Q _ => ∃ (a : Addr) (ns : List Int), vs = [.ref a] ∧ Seq K H a ns ∧ ns.length < 64 ∧ NewT H Q fun ss => Up ss ∧ ∀ k, k ∈ ss ↔ k ∈ ns
def spBin (K : PySem.W.Frag) (g : List Int → List Int → Int → Prop) : Sp := fun vs H Q _ => ∃ (a b : Addr) (ns ms : List Int), vs = [.ref a, .ref b] ∧ Seq K H a ns ∧ Seq K H b ms ∧ ns.length ≤ 1000 ∧ ms.length ≤ 1000 ∧ Col ns ∧ Col ms ∧ NewT H Q fun ss => Up ss ∧ ∀ k, k ∈ ss ↔ g ns ms k
def spWithin (K : PySem.W.Frag) : Sp := fun vs H Q _ => ∃ (a b : Addr) (ns ms : List Int), vs = [.ref a, .ref b] ∧ Seq K H a ns ∧ Seq K H b ms ∧ ns.length ≤ 1000 ∧ ms.length ≤ 1000 ∧ Col ns ∧ Col ms ∧ ∀ H' r, Same H H' → (r = true ↔ ∀ k ∈ ns, k ∈ ms) → Q (.bl r) H'
/-- 0 .. n - 1 -/
def upto (n : Nat) : List Int := (List.range n).map fun i : Nat => (i : Int)
def spWhole : Sp := fun vs H Q _ => ∃ n : Nat, vs = [.int n] ∧ n ≤ 1000 ∧ NewT H Q fun ss => ss = upto n
theorem upto_rg (n : Nat) : rgV 0 (n : Int) = (upto n).map V.int := by
  unfold rgV upto
  rw [List.map_map]
  have e : ((n : Int) - 0).toNat = n := by omega
  rw [e]
  refine List.map_congr_left fun i _ => ?_
  show V.int (0 + (i : Int)) = V.int i
  rw [Int.zero_add]
theorem mem_upto {n : Nat} {k : Int} : k ∈ upto n ↔ 0 ≤ k ∧ k < n := by
  unfold upto
  rw [List.mem_map]
  constructor
  · rintro ⟨i, hi, rfl⟩
    have := List.mem_range.mp hi
    omega
  · rintro ⟨h1, h2⟩
    exact ⟨k.toNat, List.mem_range.mpr (by omega), by omega⟩
theorem up_upto (n : Nat) : Up (upto n) := by
  unfold upto Up
  rw [List.pairwise_map]
  exact List.Pairwise.imp (fun h => by omega) (List.pairwise_lt_range (n := n))
end FsSet

/-! == and >= of tuples of ints, and of lists of such -/
namespace FsEq
open PySem PySem.Spec PyProof.Rows L2 FsSet
abbrev dT (ns : List Int) : PyData := .tuple (ns.map PyData.int)
theorem eqv_ints : ∀ ns ms : List Int, PyData.eqvAll (ns.map PyData.int) (ms.map PyData.int) = decide (ns = ms)
  | [], [] => by simp [PyData.eqvAll]
  | [], _ :: _ => by simp [PyData.eqvAll]
  | _ :: _, [] => by simp [PyData.eqvAll]
  | a :: r, b :: t => by
    simp only [List.map_cons, PyData.eqvAll, PyData.eqv, eqv_ints r t]
    by_cases h : a = b <;> by_cases g : r = t <;> simp [h, g]
theorem eqv_dT (ns ms : List Int) : PyData.eqv (dT ns) (dT ms) = decide (ns = ms) := by
  show PyData.eqvAll _ _ = _
  exact eqv_ints ns ms
theorem eqv_dTs : ∀ xs ys : List (List Int), PyData.eqvAll (xs.map dT) (ys.map dT) = decide (xs = ys)
  | [], [] => by simp [PyData.eqvAll]
  | [], _ :: _ => by simp [PyData.eqvAll]
  | _ :: _, [] => by simp [PyData.eqvAll]
  | a :: r, b :: t => by
    simp only [List.map_cons, PyData.eqvAll, eqv_dT, eqv_dTs r t]
    by_cases h : a = b <;> by_cases g : r = t <;> simp [h, g]
theorem lay_ints : ∀ ns : List Int, PyData.canLayAll0 (ns.map PyData.int) = true
  | [] => rfl
  | _ :: r => by
    simp only [List.map_cons, PyData.canLayAll0, PyData.canLay0, lay_ints r, Bool.and_self]
theorem dep_ints : ∀ ns : List Int, PyData.depthAll (ns.map PyData.int) = 0
  | [] => rfl
  | _ :: r => by
    simp [PyData.depthAll, PyData.depth, dep_ints r]
theorem lay_dT (ns : List Int) : (dT ns).canLay0 = true := lay_ints ns
theorem dep_dT (ns : List Int) : (dT ns).depth ≤ 1 := by
  simp [PyData.depth, dep_ints]
theorem sh_dT (ns : List Int) : SeqAt.shaped (dT ns) = true := by
  unfold SeqAt.shaped
  rw [Bool.and_eq_true, decide_eq_true_eq]
  exact ⟨lay_dT ns, Nat.le_trans (dep_dT ns) (by decide)⟩
theorem lay_dTs : ∀ xs : List (List Int), PyData.canLayAll0 (xs.map dT) = true
  | [] => rfl
  | x :: r => by
    simp only [List.map_cons, PyData.canLayAll0, lay_dT x, lay_dTs r, Bool.and_self]
theorem dep_dTs : ∀ xs : List (List Int), PyData.depthAll (xs.map dT) ≤ 1
  | [] => by simp [PyData.depthAll]
  | x :: r => by
    have h1 := dep_dT x
    have h2 := dep_dTs r
    simp only [List.map_cons, PyData.depthAll]
    omega
theorem sh_L (xs : List (List Int)) : SeqAt.shaped (.list (xs.map dT)) = true := by
  unfold SeqAt.shaped
  rw [Bool.and_eq_true, decide_eq_true_eq]
  refine ⟨lay_dTs xs, ?_⟩
  have := dep_dTs xs
  simp only [PyData.depth]
  omega
theorem sh_T2 (xs : List (List Int)) : SeqAt.shaped (.tuple (xs.map dT)) = true := by
  unfold SeqAt.shaped
  rw [Bool.and_eq_true, decide_eq_true_eq]
  refine ⟨lay_dTs xs, ?_⟩
  have := dep_dTs xs
  simp only [PyData.depth]
  omega
theorem dpAll_ints {K : PySem.W.Frag} {H : Hp} : ∀ ns : List Int, DpAll K H (ns.map V.int) (ns.map PyData.int)
  | [] => .nil
  | n :: r => .cons (.int n) (dpAll_ints r)
theorem dp_T {K : PySem.W.Frag} {H : Hp} {a : Addr} {ns : List Int} (h : SqT K H a (ns.map V.int)) : Dp K H (.ref a) (dT ns) := .tup h (dpAll_ints ns)
/-- tuples of ints at the addresses -/
def Tups (K : PySem.W.Frag) (H : Hp) (as : List Addr) (xs : List (List Int)) : Prop := as.length = xs.length ∧ ∀ (i : Nat) a x, as[i]? = some a → xs[i]? = some x → SqT K H a (x.map V.int)
theorem Tups.same {K : PySem.W.Frag} {H H' : Hp} {as : List Addr} {xs : List (List Int)} (h : Tups K H as xs) (e : Same H H') : Tups K H' as xs := ⟨h.1, fun i a x h1 h2 => Same.sqT e (h.2 i a x h1 h2)⟩
theorem Tups.nil {K : PySem.W.Frag} {H : Hp} : Tups K H [] [] := ⟨rfl, fun i a x h => by simp at h⟩
theorem Tups.snoc {K : PySem.W.Frag} {H : Hp} {as : List Addr} {xs : List (List Int)} {a : Addr} {x : List Int} (h : Tups K H as xs) (ha : SqT K H a (x.map V.int)) : Tups K H (as ++ [a]) (xs ++ [x]) := by
  refine ⟨by rw [List.length_append, List.length_append, h.1]; rfl, fun i b y h1 h2 => ?_⟩
  by_cases hi : i < as.length
  · rw [List.getElem?_append_left hi] at h1
    rw [List.getElem?_append_left (h.1 ▸ hi)] at h2
    exact h.2 i b y h1 h2
  · rw [List.getElem?_append_right (by omega)] at h1
    rw [List.getElem?_append_right (by rw [← h.1]; omega), ← h.1] at h2
    have e : i - as.length = 0 := by
      have := (List.getElem?_eq_some_iff.mp h1).1
      simp at this
      omega
    rw [e] at h1 h2
    have e1 : a = b := by simpa using h1
    have e2 : x = y := by simpa using h2
    rw [← e1, ← e2]
    exact ha
theorem dpAll_T {K : PySem.W.Frag} {H : Hp} : ∀ {as : List Addr} {xs : List (List Int)}, Tups K H as xs → DpAll K H (as.map V.ref) (xs.map dT)
  | [], [], _ => .nil
  | [], _ :: _, h => by have := h.1; simp at this
  | _ :: _, [], h => by have := h.1; simp at this
  | a :: as, x :: xs, h => .cons (dp_T (h.2 0 a x rfl rfl)) (dpAll_T ⟨by have := h.1; simpa using this, fun i b y h1 h2 => h.2 (i + 1) b y (by simpa using h1) (by simpa using h2)⟩)
section
variable {X : Cx}
/-- t == u, t != u -/
def rEqT (K : PySem.W.Frag) : R2 := fun x y H Q => ∃ (a b : Addr) (ns ms : List Int), x = .ref a ∧ y = .ref b ∧ SqT K H a (ns.map V.int) ∧ SqT K H b (ms.map V.int) ∧ Q (.bl (decide (ns = ms))) H
def rNeT (K : PySem.W.Frag) : R2 := fun x y H Q => ∃ (a b : Addr) (ns ms : List Int), x = .ref a ∧ y = .ref b ∧ SqT K H a (ns.map V.int) ∧ SqT K H b (ms.map V.int) ∧ Q (.bl (!decide (ns = ms))) H
theorem op_eqT (hu : X.A.units + 64 < cLine) : OpR X (compareOp .Eq) (rEqT X.K) := by
  intro pins s σ H x y v u Q I rx ry h
  obtain ⟨a, b, ns, ms, rfl, rfl, ha, hb, q⟩ := h
  exact op_eqD hu pins s σ H (.ref a) (.ref b) v u Q I rx ry ⟨dT ns, dT ms, dp_T ha, dp_T hb, sh_dT _, sh_dT _, by rw [eqv_dT]; exact q⟩
theorem op_neT (hu : X.A.units + 64 < cLine) : OpR X (compareOp .NotEq) (rNeT X.K) := by
  intro pins s σ H x y v u Q I rx ry h
  obtain ⟨a, b, ns, ms, rfl, rfl, ha, hb, q⟩ := h
  exact op_neD hu pins s σ H (.ref a) (.ref b) v u Q I rx ry ⟨dT ns, dT ms, dp_T ha, dp_T hb, sh_dT _, sh_dT _, by rw [eqv_dT]; exact q⟩
/-- xs == ys, lists of tuples of ints -/
def rEqLT (K : PySem.W.Frag) : R2 := fun x y H Q => ∃ (a b : Addr) (as bs : List Addr) (xs ys : List (List Int)), x = .ref a ∧ y = .ref b ∧ SqL K H a (as.map V.ref) ∧ SqL K H b (bs.map V.ref) ∧ Tups K H as xs ∧ Tups K H bs ys ∧ Q (.bl (decide (xs = ys))) H
theorem op_eqLT (hu : X.A.units + 64 < cLine) : OpR X (compareOp .Eq) (rEqLT X.K) := by
  intro pins s σ H x y v u Q I rx ry h
  obtain ⟨a, b, as, bs, xs, ys, rfl, rfl, ha, hb, hx, hy, q⟩ := h
  exact op_eqD hu pins s σ H (.ref a) (.ref b) v u Q I rx ry ⟨.list (xs.map dT), .list (ys.map dT), .lst ha (dpAll_T hx), .lst hb (dpAll_T hy), sh_L _, sh_L _, by
    show Q (.bl (PyData.eqvAll _ _)) H
    rw [eqv_dTs]
    exact q⟩
/-- ns >= ms by the first pair that differs -/
def geI (ns ms : List Int) : Bool := Ob.lexAt (fun j => decide (ns.getD j 0 = ms.getD j 0)) (fun j => decide (ms.getD j 0 ≤ ns.getD j 0)) (decide (ns.length ≥ ms.length)) 0 (min ns.length ms.length)
theorem ge_tups {A : Around} {pins : List (Addr × Obj)} {s : Shared} {σ : L2.St} {H : Hp} (I : L2.Inv X pins σ H s) {a b : Addr} {ns ms : List Int} (hu : A.units < cLine) (ha : SqT X.K H a (ns.map V.int)) (hb : SqT X.K H b (ms.map V.int)) : Ob.RcOp .GtE A s (.ref a) (.ref b) (geI ns ms) := by
  obtain ⟨its, r1, p1, _⟩ := I.tuple ha
  obtain ⟨its2, r2, p2, _⟩ := I.tuple hb
  have i1 : IntsAre its ns := Vals.ints r1
  have i2 : IntsAre its2 ms := Vals.ints r2
  have e1 : its.toArray.size = ns.length := by rw [List.size_toArray]; exact i1.length
  have e2 : its2.toArray.size = ms.length := by rw [List.size_toArray]; exact i2.length
  have g1 : ∀ j (h1 : j < its.toArray.size), ∃ t, its.toArray[j] = .int (ns.getD j 0) t := fun j h1 => IntsAre.int_at i1 _ _ (by simp at h1; simp [h1])
  have g2 : ∀ j (h1 : j < its2.toArray.size), ∃ t, its2.toArray[j] = .int (ms.getD j 0) t := fun j h1 => IntsAre.int_at i2 _ _ (by simp at h1; simp [h1])
  have R := Ob.RcOp.tuples_ge (A := A) (s := s) (e := fun j => decide (ns.getD j 0 = ms.getD j 0)) (r := fun j => decide (ms.getD j 0 ≤ ns.getD j 0)) p1 p2 hu (fun j h1 h2 => by
    obtain ⟨t, et⟩ := g1 j h1
    obtain ⟨u, eu⟩ := g2 j h2
    rw [et, eu]
    have z : (ns.getD j 0 == ms.getD j 0) = decide (ns.getD j 0 = ms.getD j 0) := Bool.beq_eq_decide_eq _ _
    rw [← z]
    exact SeqAt.EqAt.int_int _ _ _ _) (fun j h1 h2 _ => by
    obtain ⟨t, et⟩ := g1 j h1
    obtain ⟨u, eu⟩ := g2 j h2
    rw [et, eu]
    exact Ob.RcOp.ge_int _ _ _ _)
  rw [e1, e2] at R
  exact R
/-- (i, t) >= (j, u) -/
def rGeP (K : PySem.W.Frag) : R2 := fun x y H Q => ∃ (a b p q : Addr) (i j : Int) (ns ms : List Int), x = .ref a ∧ y = .ref b ∧ SqT K H a [.int i, .ref p] ∧ SqT K H b [.int j, .ref q] ∧ SqT K H p (ns.map V.int) ∧ SqT K H q (ms.map V.int) ∧
  Q (.bl (if i = j then (if ns = ms then true else geI ns ms) else decide (j ≤ i))) H
theorem op_geP (hr : Room 2 X.A) : OpR X (compareOp .GtE) (rGeP X.K) := by
  intro pins s σ H x y v u Q I rx ry h
  obtain ⟨a, b, p, q, i, j, ns, ms, rfl, rfl, ha, hb, hp, hq, qq⟩ := h
  cases rx
  cases ry
  obtain ⟨its, r1, p1, _⟩ := I.tuple ha
  obtain ⟨its2, r2, p2, _⟩ := I.tuple hb
  obtain ⟨u1, u2, rfl, ru1, ru2⟩ := vals2 r1
  obtain ⟨w1, w2, rfl, rw1, rw2⟩ := vals2 r2
  obtain ⟨t1, rfl⟩ := ru1
  obtain ⟨t2, rfl⟩ := rw1
  cases ru2
  cases rw2
  have hin : (X.A.in1).units + 64 < cLine := hr.in1.units
  obtain ⟨as, d1⟩ := Dp.reads I (dT ns) (.ref p) (.ref p) (dp_T hp) rfl
  obtain ⟨bs, d2⟩ := Dp.reads I (dT ms) (.ref q) (.ref q) (dp_T hq) rfl
  have eT : SeqAt.EqAt X.A.in1 s (.ref p) (.ref q) (decide (ns = ms)) := by
    have z := SeqAt.eqAt_reads (dT ns) (dT ms) X.A.in1 s (.ref p) (.ref q) as bs d1 d2 (lay_dT _) (lay_dT _) (by
      have h1 := dep_dT ns
      have h2 : min (dT ns).depth (dT ms).depth ≤ (dT ns).depth := Nat.min_le_left _ _
      omega)
    rw [eqv_dT] at z
    exact z
  have R := Ob.RcOp.tuples_ge (A := X.A) (s := s) (e := fun k => if k = 0 then decide (i = j) else decide (ns = ms)) (r := fun k => if k = 0 then decide (j ≤ i) else geI ns ms) p1 p2 hr.units0 (fun k h1 h2 => by
    have hk : k = 0 ∨ k = 1 := by
      simp at h1
      omega
    rcases hk with rfl | rfl
    · have z : (i == j) = decide (i = j) := Bool.beq_eq_decide_eq _ _
      show SeqAt.EqAt _ _ (.int i t1) (.int j t2) (decide (i = j))
      rw [← z]
      exact SeqAt.EqAt.int_int _ _ _ _
    · exact eT) (fun k h1 h2 _ => by
    have hk : k = 0 ∨ k = 1 := by
      simp at h1
      omega
    rcases hk with rfl | rfl
    · exact Ob.RcOp.ge_int _ _ _ _
    · exact ge_tups I hr.in1.units0 hp hq)
  have e : Ob.lexAt (fun k => if k = 0 then decide (i = j) else decide (ns = ms)) (fun k => if k = 0 then decide (j ≤ i) else geI ns ms) (decide ((2 : Nat) ≥ 2)) 0 2 = (if i = j then (if ns = ms then true else geI ns ms) else decide (j ≤ i)) := by
    simp only [Ob.lexAt]
    by_cases h1 : i = j <;> by_cases h2 : ns = ms <;> simp [h1, h2]
  have R' : Ob.RcOp .GtE X.A s (.ref a) (.ref b) (Ob.lexAt (fun k => if k = 0 then decide (i = j) else decide (ns = ms)) (fun k => if k = 0 then decide (j ≤ i) else geI ns ms) (decide ((2 : Nat) ≥ 2)) 0 2) := R
  rw [e] at R'
  have z : wpAny (model X.prog X.w) X.A (compareOp .GtE (.ref a) (.ref b)) (EP X pins σ Q) X.xe s := R' X.prog X.w X.xe (EP X pins σ Q) ⟨.bl _, H, I, rfl, qq⟩
  exact z
end
/-- the first place that differs decides -/
theorem ge_false {ns ms : List Int} {k : Nat} (h1 : k < ns.length) (h2 : k < ms.length) (he : ∀ j, j < k → ns.getD j 0 = ms.getD j 0) (hlt : ns.getD k 0 < ms.getD k 0) : geI ns ms = false := by
  unfold geI
  have key : ∀ d i, i + d = k → ∀ m, i + m = min ns.length ms.length → Ob.lexAt (fun j => decide (ns.getD j 0 = ms.getD j 0)) (fun j => decide (ms.getD j 0 ≤ ns.getD j 0)) (decide (ns.length ≥ ms.length)) i m = false := by
    intro d
    induction d with
    | zero =>
      intro i hi m hm
      have hik : i = k := by omega
      subst hik
      obtain ⟨m', rfl⟩ : ∃ m', m = m' + 1 := ⟨m - 1, by omega⟩
      rw [Ob.lexAt_succ, if_neg (by rw [decide_eq_true_eq]; omega)]
      exact decide_eq_false (by omega)
    | succ d ih =>
      intro i hi m hm
      obtain ⟨m', rfl⟩ : ∃ m', m = m' + 1 := ⟨m - 1, by omega⟩
      rw [Ob.lexAt_succ, if_pos (decide_eq_true (he i (by omega)))]
      exact ih (i + 1) (by omega) m' (by omega)
  exact key k 0 (by omega) _ (by omega)
end FsEq

/-! [k for k in range(n) if test] and [k for k in xs if test], the test telling f and leaving what is tracked -/
namespace FsSet
open PySem PySem.Spec PyProof.Rows L2
theorem upto_succ (n : Nat) : upto (n + 1) = upto n ++ [(n : Int)] := by
  unfold upto
  rw [List.range_succ, List.map_append]
  rfl
theorem upto_len (n : Nat) : (upto n).length = n := by
  unfold upto
  rw [List.length_map, List.length_range]
theorem filter_up {f : Int → Bool} (n : Nat) : Up ((upto n).filter f) := List.Pairwise.filter _ (up_upto n)
/-- over range(n) -/
theorem lc_filtR {n : Nat} {tt : TT} {i : Nat} {σ : L2.St} {H1 : Hp} {D : Addr} {Qd : Hp → Prop} (f : Int → Bool) (hD : H1 D = none) (hn : n ≤ 1000) (hw : ∀ v : V, wipe ((wipe σ [i]).set i (some v)) [i] = wipe σ [i]) (hi : ∀ v : V, ((wipe σ [i]).set i (some v))[i]? = some (some v))
    (ht : ∀ (j : Nat) (H : Hp) (Q : Bool → Hp → Prop), j < n → Same H1 H → (∀ H3, Same H H3 → Q (f j) H3) → tt ((wipe σ [i]).set i (some (.int ((0 : Int) + j)))) H Q)
    (q : ∀ H3, Same H1 H3 → H3 D = some (.lst (((upto n).filter f).map V.int)) → Qd H3) :
    ∃ W : Nat → Nat → Hp → Prop, (∃ m, W 0 m (upd H1 D (.lst []))) ∧ ∀ i' m H, W i' m H →
      ((Itr 0 n).stop i' H ∧ Qd H) ∨ ((Itr 0 n).go i' H ∧ ∃ Nx : Hp → Prop, (∀ H', Nx H' → ∃ m', m' < m ∧ W (i' + 1) m' H') ∧ ∀ x H', (Itr 0 n).yld i' H x H' → gName i x (wipe σ [i]) H' fun σ2 H2 => wipe σ2 [i] = wipe σ [i] ∧ tt σ2 H2 fun b H3 =>
        if b = true then tVar i σ2 H3 fun y H4 => ∃ acc, H4 D = some (.lst acc) ∧ acc.length < sizeLine ∧ Nx (upd H4 D (.lst (acc ++ [y]))) else Nx H3) := by
  refine lc_range (lo := 0) (n := n) (g := gName i) (tt := tt) (te := tVar i) (vs := [i]) (fun j H3 => Same H1 H3 ∧ H3 D = some (.lst (((upto j).filter f).map V.int))) ⟨same_upd hD, by rw [upd_same]; rfl⟩ (fun j H hj p => ?_) (fun H p => q H p.1 p.2)
  refine ⟨hw _, ht j H _ hj p.1 fun H3 s3 => ?_⟩
  have e3 := s3 _ _ p.2
  have hl : ((upto j).filter f).length ≤ 1000 := Nat.le_trans (List.length_filter_le _ _) (by rw [upto_len]; omega)
  cases hf : f (j : Int) with
  | true =>
    refine ite2 (fun _ => ?_) (fun z => absurd rfl z)
    refine ⟨_, hi _, _, e3, by rw [List.length_map]; exact small1000 hl, fun b u z => ?_, ?_⟩
    · rw [upd_ne (ne_of_none z hD)]
      exact s3 _ _ (p.1 _ _ z)
    · rw [upd_same, upto_succ, List.filter_append, List.map_append]
      simp [hf]
  | false =>
    refine ite2 (fun z => absurd z Bool.false_ne_true) (fun _ => ⟨fun b u z => s3 _ _ (p.1 _ _ z), ?_⟩)
    rw [e3, upto_succ, List.filter_append]
    simp [hf]
/-- over a list of ints -/
theorem lc_filtL {K : PySem.W.Frag} {a : Addr} {ns : List Int} {tt : TT} {i : Nat} {σ : L2.St} {H1 : Hp} {D : Addr} {Qd : Hp → Prop} (f : Int → Bool) (hD : H1 D = none) (hS : SqL K H1 a (ns.map V.int)) (hn : ns.length ≤ 1000) (hw : ∀ v : V, wipe ((wipe σ [i]).set i (some v)) [i] = wipe σ [i]) (hi : ∀ v : V, ((wipe σ [i]).set i (some v))[i]? = some (some v))
    (ht : ∀ (x : Int) (H : Hp) (Q : Bool → Hp → Prop), x ∈ ns → Same H1 H → (∀ H3, Same H H3 → Q (f x) H3) → tt ((wipe σ [i]).set i (some (.int x))) H Q)
    (q : ∀ H3, Same H1 H3 → H3 D = some (.lst ((ns.filter f).map V.int)) → Qd H3) :
    ∃ W : Nat → Nat → Hp → Prop, (∃ m, W 0 m (upd H1 D (.lst []))) ∧ ∀ i' m H, W i' m H →
      ((Itl K a).stop i' H ∧ Qd H) ∨ ((Itl K a).go i' H ∧ ∃ Nx : Hp → Prop, (∀ H', Nx H' → ∃ m', m' < m ∧ W (i' + 1) m' H') ∧ ∀ x H', (Itl K a).yld i' H x H' → gName i x (wipe σ [i]) H' fun σ2 H2 => wipe σ2 [i] = wipe σ [i] ∧ tt σ2 H2 fun b H3 =>
        if b = true then tVar i σ2 H3 fun y H4 => ∃ acc, H4 D = some (.lst acc) ∧ acc.length < sizeLine ∧ Nx (upd H4 D (.lst (acc ++ [y]))) else Nx H3) := by
  refine lc_list (K := K) (a := a) (xs := ns.map V.int) (g := gName i) (tt := tt) (te := tVar i) (vs := [i]) (fun j H3 => Same H1 H3 ∧ H3 D = some (.lst (((ns.take j).filter f).map V.int))) ⟨same_upd hD, by rw [upd_same]; rfl⟩ (fun j H _ p => p.1.seq hS) (fun j x H hx p => ?_) (fun H p => ?_)
  · rw [List.getElem?_map] at hx
    obtain ⟨y, hy, rfl⟩ := Option.map_eq_some_iff.mp hx
    refine ⟨hw _, ht y H _ (List.mem_of_getElem? hy) p.1 fun H3 s3 => ?_⟩
    have e3 := s3 _ _ p.2
    have hl : ((ns.take j).filter f).length ≤ 1000 := Nat.le_trans (List.length_filter_le _ _) (by rw [List.length_take]; omega)
    cases hf : f y with
    | true =>
      refine ite2 (fun _ => ?_) (fun z => absurd rfl z)
      refine ⟨_, hi _, _, e3, by rw [List.length_map]; exact small1000 hl, fun b u z => ?_, ?_⟩
      · rw [upd_ne (ne_of_none z hD)]
        exact s3 _ _ (p.1 _ _ z)
      · rw [upd_same, List.take_add_one, hy, List.filter_append, List.map_append]
        simp [hf]
    | false =>
      refine ite2 (fun z => absurd z Bool.false_ne_true) (fun _ => ⟨fun b u z => s3 _ _ (p.1 _ _ z), ?_⟩)
      rw [e3, List.take_add_one, hy, List.filter_append]
      simp [hf]
  · rw [List.length_map, List.take_length] at p
    exact q H p.1 p.2
end FsSet

/-! == of instances by their own __eq__, whatever it answers; a list or a tuple gone through -/
namespace FsOwn
open PySem PySem.Spec PyProof.Rows L2 FsSet FsEq
section
variable {X : Cx}
/-- a rule that holds of either reading -/
theorem pi_or {tg l : Expr} {t u : TI} (h : PI X tg l t) (g : PI X tg l u) : PI X tg l (fun σ H R => t σ H R ∨ u σ H R) := ⟨fun pins s σ H R I z => z.elim (h.run pins s σ H R I) (g.run pins s σ H R I)⟩
theorem op_or {f : Value → Value → Sem Value} {r t : R2} (h : OpR X f r) (g : OpR X f t) : OpR X f (fun x y H Q => r x y H Q ∨ t x y H Q) := fun pins s σ H x y v u Q I rx ry z => z.elim (h pins s σ H x y v u Q I rx ry) (g pins s σ H x y v u Q I rx ry)
theorem pi_seq {tg l : Expr} {tl : TE} (hl : PE X l tl) : PI X tg l (fun σ H R => iList X.K tl σ H R ∨ iTup X.K tl σ H R) := pi_or (pi_list hl) (pi_tup hl)
theorem rel_ni {x : V} {v : Value} (r : RelV x v) : v ≠ .notImplemented := by
  intro e
  subst e
  cases x <;> simp [L2.RelV] at r
/-- x == y by the own __eq__ of x's class -/
def rEqO (K : PySem.W.Frag) (C : Addr) (sp : Sp) (E : XK) : R2 := fun x y H Q => ∃ (a dx : Addr) (fs : List (Str × V)) (t : Value), x = .ref a ∧ H a = some (.ins C dx fs) ∧ TyX K H y t ∧ PySem.W.notFirst K C t = true ∧ sp [.ref a, y] H Q E
theorem op_eqO {n : Nat} {CX : CXT} {C f : Addr} {fd : FuncData} {ps : List Str} {sp : Sp} {E : XK} (F : FnOk X.prog X.w X.K X.mg X.base CX n f fd ps sp) (hr : Room n X.A) (hs : PySem.W.findIn X.K (.ref C) "__eq__" = some (some (.ref f))) (hf : PySem.W.isFn X.K (.ref f) = true)
    (hb : Binds X.K fd ps []) (hx : Passes CX X E) : OpR X (compareOp .Eq) (rEqO X.K C sp E) := by
  intro pins s σ H x y v u Q I rx ry h
  obtain ⟨a, dx, fs, t, rfl, ea, ty, nf, hsp⟩ := h
  cases rx
  obtain ⟨mA, J, _⟩ := ins_get I.hok ea
  obtain ⟨od, J, _⟩ := J.look
  obtain ⟨m, hF⟩ := I.fr
  obtain ⟨P, Z, p, _⟩ := kit_of I ry ty
  refine PySem.W.cmp_K (op := .Eq) (tb := t) hr.units0 hF I.ok.mod.kin J (Z.ty _ _ I.kIn p) nf hs hf ?_
  refine wpAny_mono (run_fn (us := [.ref a, u]) (vs := [.ref a, y]) F hr hb .nil hx I (.cons rfl (.cons ry .nil)) (by rw [List.append_nil]; exact hsp)) (fun w s' q => ?_) fun _ _ z => z
  obtain ⟨z, H', I', rz, q⟩ := q
  have hn := rel_ni rz
  unfold PySem.W.CmpBack
  cases w <;> first | exact absurd rfl hn | exact ⟨z, H', I', rz, q⟩
end
end FsOwn

/-! t[::-1] of a tuple; == and != of tuples of tuples of ints -/
namespace HT
open PySem PySem.Spec PyProof.Rows
section
variable {prog : Program} {w : World} {A : Around} {E : Value → Shared → Prop} {s : Shared}
theorem applied_rev {sl : Addr} {vl vu vs : Value} {n : Nat} {Q : Int × Int × Nat → Shared → Prop} (hs : s.heap.IsSliceOf sl vl vu vs) (pl : IsPart vl none) (pu : IsPart vu none) (ps : IsPart vs (some (-1)))
    (h : Q ((n : Int) - 1, -1, n) s) : wpAny (model prog w) A (Builtin.Slice.sliceApplied (.ref sl) (pure (n : Int))) Q E s := by
  obtain ⟨os, hos, hcs, hds⟩ := id hs
  unfold Builtin.Slice.sliceApplied Builtin.Slice.sliceFields
  refine wpAny_bind (wpAny_bind (wpAny_field hos hds (x := vl) rfl (wpAny_bind (wpAny_field hos hds (x := vu) rfl (wpAny_bind (wpAny_field hos hds (x := vs) rfl (wpAny_pure ?_)))))))
  refine wpAny_bind (slicePart_ ps ?_)
  show wpAny _ _ (if ((-1 : Int) == 0) = true then _ else _) _ _ s
  rw [if_neg (by decide)]
  refine wpAny_bind (slicePart_ pl (wpAny_bind (slicePart_ pu (wpAny_bind (wpAny_pure ?_)))))
  have ea : Builtin.Slice.sliceAdjust none none (-1) (n : Int) = ((n : Int) - 1, -1) := rfl
  have ep : Builtin.Slice.slicePlaces ((n : Int) - 1) (-1) (-1) = n := by
    unfold Builtin.Slice.slicePlaces
    rw [if_neg (by decide)]
    split
    · rw [show (-(-1 : Int)) = 1 by decide, Int.ediv_one]
      omega
    · omega
  show wpAny _ _ (match Builtin.Slice.sliceAdjust none none (-1) (n : Int) with | (lo, hi) => pure (lo, (-1 : Int), Builtin.Slice.slicePlaces lo hi (-1))) _ _ s
  rw [ea]
  show wpAny _ _ (pure ((n : Int) - 1, (-1 : Int), Builtin.Slice.slicePlaces ((n : Int) - 1) (-1) (-1))) _ _ s
  rw [ep]
  exact wpAny_pure h
theorem fm_congr {α β : Type} {f g : α → Option β} : ∀ {l : List α}, (∀ x ∈ l, f x = g x) → l.filterMap f = l.filterMap g
  | [], _ => rfl
  | x :: r, h => by
    rw [List.filterMap_cons, List.filterMap_cons, h x List.mem_cons_self, fm_congr fun y hy => h y (List.mem_cons_of_mem _ hy)]
theorem pick_rev (xs : Array Value) : ((List.range xs.size).filterMap fun (m : Nat) => xs[((xs.size : Int) - 1 + (m : Int) * (-1)).toNat]?).toArray = xs.toList.reverse.toArray := by
  congr 1
  have e1 : ((List.range xs.size).filterMap fun (m : Nat) => xs[((xs.size : Int) - 1 + (m : Int) * (-1)).toNat]?) = (((List.range xs.size).map fun m => xs.size - 1 - m).filterMap fun m => xs[m]?) := by
    rw [List.filterMap_map]
    refine fm_congr fun m hm => ?_
    have hm2 := List.mem_range.mp hm
    have e : ((xs.size : Int) - 1 + (m : Int) * (-1)).toNat = xs.size - 1 - m := by omega
    rw [e]
    rfl
  have e2 : ((List.range xs.size).map fun m => xs.size - 1 - m) = (List.range xs.size).reverse := by
    refine List.ext_getElem (by simp) fun i h1 h2 => ?_
    simp
  have e3 : ((List.range xs.size).filterMap fun m => xs[m]?) = xs.toList := by
    refine List.ext_getElem? fun i => ?_
    have e4 : ((List.range xs.size).filterMap fun m => xs[m]?) = (List.range xs.size).map fun m => xs.toList.getD m .none := by
      rw [← List.filterMap_eq_map]
      refine fm_congr fun m hm => ?_
      have hm2 := List.mem_range.mp hm
      show xs[m]? = some (xs.toList.getD m .none)
      rw [List.getD_eq_getElem?_getD, Array.getElem?_toList, Array.getElem?_eq_getElem hm2]
      rfl
    rw [e4, List.getElem?_map]
    by_cases hi : i < xs.size
    · rw [List.getElem?_range hi]
      show some (xs.toList.getD i .none) = xs.toList[i]?
      rw [List.getD_eq_getElem?_getD, Array.getElem?_toList, Array.getElem?_eq_getElem hi]
      rfl
    · rw [List.getElem?_eq_none (by rw [List.length_range]; omega), List.getElem?_eq_none (by rw [Array.length_toList]; omega)]
      rfl
  rw [e1, e2, List.filterMap_reverse, e3]
theorem getItem_tuple_rev {t sl : Addr} {items : Array Value} {vl vu vs : Value} {Q : Value → Shared → Prop} (ht : IsTup s.heap t items) (hs : s.heap.IsSliceOf sl vl vu vs) (pl : IsPart vl none) (pu : IsPart vu none) (ps : IsPart vs (some (-1)))
    (h : Q (.ref s.heap.objs.size) { s with heap := s.heap.push { cls := .type "tuple", data := .seq items.toList.reverse.toArray } })
    (hsz : items.size ≤ sizeLine) : wpAny (model prog w) A (getItem (.ref t) (.ref sl)) Q E s := by
  have htake : sizeOk (.seq items.toList.reverse.toArray) := by
    show items.toList.reverse.toArray.size ≤ sizeLine
    rw [List.size_toArray, List.length_reverse, Array.length_toList]
    exact hsz
  obtain ⟨os, hos, hcs, hds⟩ := id hs
  have hTs : s.TypeIs (.ref sl) "slice" := ⟨os, hos, hcs⟩
  unfold getItem
  try with_reducible refine wpAny_holding ?_
  first | refine wpAny_bind (wpAny_pure ?_) | skip
  refine wpAny_bind (wpAny_sequenceKey ht.typeIs (by decide) ?_)
  refine wpAny_bind (wpAny_callSpecial?_slot (name := Str.ofString "__getitem__") ht.typeIs PyProof.Rows.slot_tuple_getitem (wpAny_call_entry PyProof.Rows.slot_tuple_getitem ht.typeIs entry_tuple_getitem ?_ (args_tuple_getitem _ _)))
  show wpAny _ _ (Builtin.Tuple.tupleItemsOf (.ref t) >>= _) _ _ s
  refine wpAny_bind (tupleItemsOf_ ht ?_)
  refine wpAny_bind (wpAny_typeOf hTs ?_)
  rw [if_pos (by decide)]
  refine wpAny_bind (applied_rev hs pl pu ps ?_)
  have hno : ¬ ((((items.size : Int) - 1) == 0 && (-1 : Int) == 1 && items.size == items.size) = true) := by
    rw [show ((-1 : Int) == 1) = false by decide, Bool.and_false, Bool.false_and]
    exact Bool.false_ne_true
  show wpAny _ _ (if (((items.size : Int) - 1) == 0 && (-1 : Int) == 1 && items.size == items.size) = true then _ else _) _ _ s
  rw [if_neg hno, pick_rev]
  first
    | exact wpAny_bind (m := Builtin.Tuple.tupleExact _) (wpAny_newObj_type (wpAny_pure ⟨_, rfl, wpAny_pure h⟩) htake)
    | exact wpAny_bind (m := Builtin.Tuple.tupleExact _) (wpAny_newObj_type (wpAny_bind (wpAny_pure (wpAny_pure ⟨_, rfl, wpAny_pure h⟩))) htake)
    | exact wpAny_bind (wpAny_bind (m := Builtin.Tuple.tupleExact _) (wpAny_newObj_type (wpAny_pure (wpAny_pure ⟨_, rfl, wpAny_pure h⟩)) htake))
    | exact wpAny_bind (wpAny_bind (m := Builtin.Tuple.tupleExact _) (wpAny_newObj_type (wpAny_pure ⟨_, rfl, wpAny_pure h⟩) htake))
end
end HT
namespace FsRev
open PySem PySem.Spec PyProof.Rows L2 FsSet FsEq
section
variable {X : Cx}
/-- t[::-1] -/
def tRevT (K : PySem.W.Frag) (te : TE) : TE := fun σ H Q => te σ H fun x H1 => ∃ a xs, x = .ref a ∧ SqT K H1 a xs ∧ ∀ p, H1 p = none → Q (.ref p) (upd H1 p (.tup xs.reverse))
theorem pe_revT {e : Expr} {te : TE} {k : Nat} {p1 p2 p3 pos : Pos} (he : PE X e te) : PE X (.Subscript e (.Slice none none (some (.UnaryOp .USub (.Constant (.int 1) k p1) p2)) p3) pos) (tRevT X.K te) := by
  refine ⟨fun pins s σ H Q I h => ?_⟩
  refine Subscript_ (thn (he.run pins s σ H _ I h) fun v s1 ⟨x, H1, I1, r1, q1⟩ => ?_)
  obtain ⟨a, xs, ex, hx, q⟩ := q1
  subst ex
  cases r1
  have hst : PO X (some (.UnaryOp .USub (.Constant (.int 1) k p1) p2)) (tPart (tUn (rU fun i => .int (-i)) (tC (.int 1)))) := po_some (pe_un un_neg pe_int)
  refine wpAny_Slice (thn (po_none.run pins s1 σ H1 (fun o H2 => o = none ∧ H2 = H1) I1 ⟨rfl, rfl⟩) fun vl s2 ⟨l, H2, I2, pl, el, e2⟩ => ?_)
  subst el e2
  refine thn (po_none.run pins s2 σ H2 (fun o H3 => o = none ∧ H3 = H2) I2 ⟨rfl, rfl⟩) fun vu s3 ⟨u, H3, I3, pu, eu, e3⟩ => ?_
  subst eu e3
  refine thn (hst.run pins s3 σ H3 (fun o H4 => o = some (-1) ∧ H4 = H3) I3 ⟨1, rfl, -1, rfl, rfl, rfl⟩) fun vs s4 ⟨o, H4, I4, ps, eo, e4⟩ => ?_
  subst eo e4
  have I5 : L2.Inv X pins σ H4 { s4 with heap := s4.heap.push { cls := .type "slice", data := .fields #[vl, vu, vs] } } := I4.kept (t' := s4.toks) fun b ob q => Heap.get?_push_of_some _ q
  obtain ⟨its, r, ht, hz⟩ := I5.tuple hx
  have hlen := r.length
  show wpAny (model X.prog X.w) X.A (subscriptTail e (.Slice none none (some (.UnaryOp .USub (.Constant (.int 1) k p1) p2)) p3) (.ref a) (.ref s4.heap.objs.size)) (EP X pins σ Q) X.xe { s4 with heap := s4.heap.push { cls := .type "slice", data := .fields #[vl, vu, vs] } }
  refine tail_any (T := "tuple") (ops := [.ref a, .ref s4.heap.objs.size]) ht.typeIs (PyProof.Rows.slot_tuple_getitem.lookup) ?_ (by with_unfolding_all rfl)
  refine HT.getItem_tuple_rev ht (Heap.IsSliceOf.new _ vl vu vs) pl pu ps ?_ (by rw [List.size_toArray, ← hlen]; exact hz)
  refine ⟨.ref _, _, I5.laid (t' := s4.toks) (o := .tup xs.reverse) (fun b ob q => Heap.get?_push_of_some _ q) (Nat.le_refl _) ?_, rfl, q _ (I5.hok.fresh (Nat.le_refl _))⟩
  exact ⟨by rw [List.length_reverse]; exact hz, _, r.reverse, IsTup.new _ _⟩
/-- == and != of tuples of tuples of ints -/
def rEqTT (K : PySem.W.Frag) : R2 := fun x y H Q => ∃ (a b : Addr) (as bs : List Addr) (xs ys : List (List Int)), x = .ref a ∧ y = .ref b ∧ SqT K H a (as.map V.ref) ∧ SqT K H b (bs.map V.ref) ∧ Tups K H as xs ∧ Tups K H bs ys ∧ Q (.bl (decide (xs = ys))) H
def rNeTT (K : PySem.W.Frag) : R2 := fun x y H Q => ∃ (a b : Addr) (as bs : List Addr) (xs ys : List (List Int)), x = .ref a ∧ y = .ref b ∧ SqT K H a (as.map V.ref) ∧ SqT K H b (bs.map V.ref) ∧ Tups K H as xs ∧ Tups K H bs ys ∧ Q (.bl (!decide (xs = ys))) H
theorem op_eqTT (hu : X.A.units + 64 < cLine) : OpR X (compareOp .Eq) (rEqTT X.K) := by
  intro pins s σ H x y v u Q I rx ry h
  obtain ⟨a, b, as, bs, xs, ys, rfl, rfl, ha, hb, hx, hy, q⟩ := h
  refine op_eqD hu pins s σ H (.ref a) (.ref b) v u Q I rx ry ⟨.tuple (xs.map dT), .tuple (ys.map dT), .tup ha (dpAll_T hx), .tup hb (dpAll_T hy), sh_T2 _, sh_T2 _, ?_⟩
  show Q (.bl (PyData.eqvAll _ _)) H
  rw [eqv_dTs]
  exact q
theorem op_neTT (hu : X.A.units + 64 < cLine) : OpR X (compareOp .NotEq) (rNeTT X.K) := by
  intro pins s σ H x y v u Q I rx ry h
  obtain ⟨a, b, as, bs, xs, ys, rfl, rfl, ha, hb, hx, hy, q⟩ := h
  refine op_neD hu pins s σ H (.ref a) (.ref b) v u Q I rx ry ⟨.tuple (xs.map dT), .tuple (ys.map dT), .tup ha (dpAll_T hx), .tup hb (dpAll_T hy), sh_T2 _, sh_T2 _, ?_⟩
  show Q (.bl (!PyData.eqvAll _ _)) H
  rw [eqv_dTs]
  exact q
end
section
variable {X : Cx}
/-- xs + ys of tuples, whatever stands in them -/
def rCatV (K : PySem.W.Frag) : R2 := fun x y H Q => ∃ (a b : Addr) (xs ys : List V), x = .ref a ∧ y = .ref b ∧ SqT K H a xs ∧ SqT K H b ys ∧ xs.length + ys.length ≤ sizeLine ∧ ∀ H' p, Same H H' → SqT K H' p (xs ++ ys) → Q (.ref p) H'
theorem op_catV : OpR X (binaryOp .Add) (rCatV X.K) := by
  intro pins s σ H x y v u Q I rx ry h
  obtain ⟨a, b, xs, ys, rfl, rfl, ha, hb, hz, q⟩ := h
  refine op_catA pins s σ H _ _ v u Q I rx ry ⟨a, b, xs, ys, rfl, rfl, ha, hb, hz, fun e => ?_, fun _ e => ?_, fun _ _ p np => ?_⟩
  · subst e
    exact q H b (Same.refl H) hb
  · subst e
    exact q H a (Same.refl H) (by rw [List.append_nil]; exact ha)
  · exact q _ p (same_upd np) (.inl (.inl upd_same))
end
/-- over a tuple of ints -/
theorem lc_filtT {K : PySem.W.Frag} {a : Addr} {ns : List Int} {tt : TT} {i : Nat} {σ : L2.St} {H1 : Hp} {D : Addr} {Qd : Hp → Prop} (f : Int → Bool) (hD : H1 D = none) (hS : SqT K H1 a (ns.map V.int)) (hn : ns.length ≤ 1000) (hw : ∀ v : V, wipe ((wipe σ [i]).set i (some v)) [i] = wipe σ [i]) (hi : ∀ v : V, ((wipe σ [i]).set i (some v))[i]? = some (some v))
    (ht : ∀ (x : Int) (H : Hp) (Q : Bool → Hp → Prop), x ∈ ns → Same H1 H → (∀ H3, Same H H3 → Q (f x) H3) → tt ((wipe σ [i]).set i (some (.int x))) H Q)
    (q : ∀ H3, Same H1 H3 → H3 D = some (.lst ((ns.filter f).map V.int)) → Qd H3) :
    ∃ W : Nat → Nat → Hp → Prop, (∃ m, W 0 m (upd H1 D (.lst []))) ∧ ∀ i' m H, W i' m H →
      ((Itt K a).stop i' H ∧ Qd H) ∨ ((Itt K a).go i' H ∧ ∃ Nx : Hp → Prop, (∀ H', Nx H' → ∃ m', m' < m ∧ W (i' + 1) m' H') ∧ ∀ x H', (Itt K a).yld i' H x H' → gName i x (wipe σ [i]) H' fun σ2 H2 => wipe σ2 [i] = wipe σ [i] ∧ tt σ2 H2 fun b H3 =>
        if b = true then tVar i σ2 H3 fun y H4 => ∃ acc, H4 D = some (.lst acc) ∧ acc.length < sizeLine ∧ Nx (upd H4 D (.lst (acc ++ [y]))) else Nx H3) := by
  refine lc_tup (K := K) (a := a) (xs := ns.map V.int) (g := gName i) (tt := tt) (te := tVar i) (vs := [i]) (fun j H3 => Same H1 H3 ∧ H3 D = some (.lst (((ns.take j).filter f).map V.int))) ⟨same_upd hD, by rw [upd_same]; rfl⟩ (fun j H _ p => Same.sqT p.1 hS) (fun j x H hx p => ?_) (fun H p => ?_)
  · rw [List.getElem?_map] at hx
    obtain ⟨y, hy, rfl⟩ := Option.map_eq_some_iff.mp hx
    refine ⟨hw _, ht y H _ (List.mem_of_getElem? hy) p.1 fun H3 s3 => ?_⟩
    have e3 := s3 _ _ p.2
    have hl : ((ns.take j).filter f).length ≤ 1000 := Nat.le_trans (List.length_filter_le _ _) (by rw [List.length_take]; omega)
    cases hf : f y with
    | true =>
      refine ite2 (fun _ => ?_) (fun z => absurd rfl z)
      refine ⟨_, hi _, _, e3, by rw [List.length_map]; exact small1000 hl, fun b u z => ?_, ?_⟩
      · rw [upd_ne (ne_of_none z hD)]
        exact s3 _ _ (p.1 _ _ z)
      · rw [upd_same, List.take_add_one, hy, List.filter_append, List.map_append]
        simp [hf]
    | false =>
      refine ite2 (fun z => absurd z Bool.false_ne_true) (fun _ => ⟨fun b u z => s3 _ _ (p.1 _ _ z), ?_⟩)
      rw [e3, List.take_add_one, hy, List.filter_append]
      simp [hf]
  · rw [List.length_map, List.take_length] at p
    exact q H p.1 p.2
/-! ### items at addresses -/
def AllAt (R : Hp → Addr → List Int → Prop) (H : Hp) (as : List Addr) (xs : List (List Int)) : Prop := as.length = xs.length ∧ ∀ (i : Nat) a x, as[i]? = some a → xs[i]? = some x → R H a x
theorem AllAt.nil {R : Hp → Addr → List Int → Prop} {H : Hp} : AllAt R H [] [] := ⟨rfl, fun i a x h => by simp at h⟩
theorem AllAt.snoc {R : Hp → Addr → List Int → Prop} {H : Hp} {as : List Addr} {xs : List (List Int)} {a : Addr} {x : List Int} (h : AllAt R H as xs) (ha : R H a x) : AllAt R H (as ++ [a]) (xs ++ [x]) := by
  refine ⟨by rw [List.length_append, List.length_append, h.1]; rfl, fun i b y h1 h2 => ?_⟩
  by_cases hi : i < as.length
  · exact h.2 i b y (by rw [← List.getElem?_append_left (l₂ := [a]) hi]; exact h1) (by rw [← List.getElem?_append_left (l₂ := [x]) (h.1 ▸ hi)]; exact h2)
  · rw [List.getElem?_append_right (by omega)] at h1
    rw [List.getElem?_append_right (by rw [← h.1]; omega), ← h.1] at h2
    have e : i - as.length = 0 := by
      have := (List.getElem?_eq_some_iff.mp h1).1
      rw [List.length_singleton] at this
      omega
    rw [e] at h1 h2
    cases h1
    cases h2
    exact ha
theorem AllAt.imp {R R' : Hp → Addr → List Int → Prop} {H H' : Hp} {as : List Addr} {xs : List (List Int)} (h : AllAt R H as xs) (f : ∀ a x, R H a x → R' H' a x) : AllAt R' H' as xs := ⟨h.1, fun i a x h1 h2 => f a x (h.2 i a x h1 h2)⟩
theorem AllAt.rev {R : Hp → Addr → List Int → Prop} {H : Hp} {as : List Addr} {xs : List (List Int)} (h : AllAt R H as xs) : AllAt R H as.reverse xs.reverse := by
  refine ⟨by rw [List.length_reverse, List.length_reverse, h.1], fun i a x h1 h2 => ?_⟩
  have hi := (List.getElem?_eq_some_iff.mp h1).1
  rw [List.length_reverse] at hi
  rw [List.getElem?_reverse hi] at h1
  rw [List.getElem?_reverse (h.1 ▸ hi), ← h.1] at h2
  exact h.2 _ a x h1 h2
theorem tups2 {K : PySem.W.Frag} {H : Hp} {a b : Addr} {x y : List Int} (ha : SqT K H a (x.map V.int)) (hb : SqT K H b (y.map V.int)) : Tups K H [a, b] [x, y] := Tups.snoc (Tups.snoc Tups.nil ha) hb
theorem same_make {H : Hp} {x dx : Addr} {o o' : HO} (hx : H x = none) (hdx : H dx = none) : Same H (upd (upd H dx o) x o') := fun b u e => by
  rw [upd_ne (ne_of_none e hx), upd_ne (ne_of_none e hdx)]
  exact e
/-! ### tuples stay when a list changes -/
theorem sqT_updL {K : PySem.W.Frag} {H : Hp} {b D : Addr} {xs ys : List V} {o : HO} (hq : SqT K H b xs) (hD : H D = some (.lst ys)) : SqT K (upd H D o) b xs := by
  rcases hq with (hq | ⟨z, hq⟩) | hq
  · exact .inl (.inl (by rw [upd_ne (ne_of hq hD (by intro z; cases z))]; exact hq))
  · exact .inl (.inr ⟨z, by rw [upd_ne (ne_of hq hD (by intro z; cases z))]; exact hq⟩)
  · exact .inr hq
theorem tups_updL {K : PySem.W.Frag} {H : Hp} {D : Addr} {as : List Addr} {xs : List (List Int)} {ys : List V} {o : HO} (h : Tups K H as xs) (hD : H D = some (.lst ys)) : Tups K (upd H D o) as xs := ⟨h.1, fun i a x h1 h2 => sqT_updL (h.2 i a x h1 h2) hD⟩
end FsRev

namespace K01
open PySem PySem.Spec PyProof.Rows L2 FsSet FsEq FsOwn
def topS (i : Nat) : Stmt := PySem.Challenge.pw_followsortable_k01_dependencies_kept.main.body.getD i (.Pass ⟨0, 0, 0, 0⟩)
abbrev sNumbers : Stmt := topS 7
theorem scN : FnScope ["script", "count", "rest", "by_digits", "numbers", "k", "cell"] ["script", "count"] (defScope sNumbers) := ⟨rfl, rfl, rfl, by decide +kernel, rfl, by decide +kernel, by decide +kernel⟩
abbrev sAsSet : Stmt := topS 1
abbrev sList : Stmt := topS 8
abbrev sSet : Stmt := topS 9
theorem scS : FnScope ["columns"] ["columns"] (defScope sAsSet) := ⟨rfl, rfl, rfl, by decide +kernel, rfl, by decide +kernel, by decide +kernel⟩
theorem scL : FnScope ["number", "found", "k"] ["number"] (defScope sList) := ⟨rfl, rfl, rfl, by decide +kernel, rfl, by decide +kernel, by decide +kernel⟩
theorem scT : FnScope ["columns", "k"] ["columns"] (defScope sSet) := ⟨rfl, rfl, rfl, by decide +kernel, rfl, by decide +kernel, by decide +kernel⟩
theorem mod_place' {i : Int} {n : Nat} (h : 0 < n) : (i % (n : Int)).toNat < n ∧ (((i % (n : Int)).toNat : Nat) : Int) = i % (n : Int) := by
  have h1 : 0 ≤ i % (n : Int) := Int.emod_nonneg i (by omega)
  have h2 : i % (n : Int) < (n : Int) := Int.emod_lt_of_pos i (by omega)
  omega
section
variable {P : Program} {w : World} {K : PySem.W.Frag} {mg : Str → Option Value} {base : Heap}
/-- numbers drawn: as many as asked, each from 0 to 999999 -/
def spNumbers (K : PySem.W.Frag) : Sp := fun vs H Q _ => ∃ (a : Addr) (ns : List Int) (n : Nat), vs = [.ref a, .int n] ∧ SqL K H a (ns.map V.int) ∧ ns.length ≤ 1000 ∧ n ≤ 100 ∧
  ∀ H' p (xs : List Int), Same H H' → H p = none → xs.length = n → (∀ x ∈ xs, 0 ≤ x ∧ x < 1000000) → H' p = some (.lst (xs.map V.int)) → Q (.ref p) H'
def NumW (H : Hp) (a : Addr) (n : Nat) (o : Addr) (i : Nat) (σ : L2.St) (H3 : Hp) : Prop := ∃ (r : Int) (b : Bool) (y5 y6 : Option V) (xs : List Int), σ = [some (.ref a), some (.int n), some (.int r), some (.bl b), some (.ref o), y5, y6] ∧ Same H H3 ∧ xs.length = i ∧ (∀ x ∈ xs, 0 ≤ x ∧ x < 1000000) ∧ H3 o = some (.lst (xs.map V.int))
theorem ok_numbers {f : Addr} {fd : FuncData} {k : Nat} (F : Fun K "_law_numbers" "_law_numbers" sNumbers f fd) (ml : mg "len" = none) (mr : mg "range" = none) : FnOk P w K mg base CX0 (k + 1) f fd ["script", "count"] (spNumbers K) := by
  refine F.ok scN (fun vs H Q E h => ?_) (fun cdv A outer s H vs Q E hr h => ?_)
  · obtain ⟨a, ns, n, rfl, _⟩ := h
    rfl
  · obtain ⟨a, ns, n, rfl, hS, hlen, hn, q⟩ := h
    refine ⟨_, pss_cons (ps_set (i := 2) scN.nd rfl (.inl rfl) pe_int)
      (C8.pss_cut (ps_if (pt_cmpR op_gt (pe_callB call_len_seq (by rfl) ml PySem.boot_len (pa_cons (pv 0) pa_nil)) pe_int (nomark _)) (pss_one (ps_set (i := 2) scN.nd rfl (.inl rfl) (pe_ix ix_list (pv 0) pe_int (fun _ _ => rfl)))) pss_nil)
      (pss_cons (ps_set (i := 3) scN.nd rfl (.inl rfl) (pe_cmpR op_ge (pv 2) (pe_op op_pow pe_int pe_int) (nomark _)))
      (pss_cons (ps_set (i := 4) scN.nd rfl (.inl rfl) (pe_lst pa_nil))
      (pss_cons (ps_for PassesOwn.never rfl (pi_range1 rfl mr (pa_cons (pv 1) pa_nil)) (pg_name (i := 5) scN.nd rfl (.inl rfl))
        (pss_one (ps_if (PW.pt (pw_and (pt_val (pv 3)) (pw_and1 (pt_cmpR op_gt (pv 2) pe_int (nomark _)))))
          (pss_cons (ps_expr (pe_bm PySem.F.plainAttrs_list PySem.F.slot_list_append PySem.F.type_list_append mt_append (pv 4) (pa_cons (pe_op op_mod (pv 2) pe_int) pa_nil)))
            (pss_one (ps_set (i := 2) scN.nd rfl (.inl rfl) (pe_op op_fdiv (pv 2) pe_int))))
          (pss_cons (ps_set (i := 6) scN.nd rfl (.inl rfl) pe_int)
            (C8.pss_cut (ps_if (pt_cmpR op_gt (pe_callB call_len_seq (by rfl) ml PySem.boot_len (pa_cons (pv 0) pa_nil)) pe_int (nomark _))
              (pss_one (ps_set (i := 6) scN.nd rfl (.inl rfl) (pe_op op_add (pe_ix ix_list (pv 0) (pe_op op_mod (pv 5) (pe_callB call_len_seq (by rfl) ml PySem.boot_len (pa_cons (pv 0) pa_nil))) (fun _ _ => rfl)) (pe_op op_mul pe_int (pv 5))))) pss_nil)
            (pss_one (ps_expr (pe_bm PySem.F.plainAttrs_list PySem.F.slot_list_append PySem.F.type_list_append mt_append (pv 4) (pa_cons (pe_op op_mod (pe_op op_mod (pe_op op_mul (pe_op op_mod (pe_op op_mul (pv 6) pe_int) pe_int) pe_int) pe_int) pe_int) pa_nil)))))))))
      (pss_one (ps_ret (pv 4))))))), ?_⟩
    -- rest = 0; if len(script) > 0: rest = script[0]
    refine ⟨fun σ H1 => H1 = H ∧ ∃ r : Int, σ = [some (.ref a), some (.int n), some (.int r), none, none, none, none], ?_, ?_⟩
    · refine ⟨.ref a, rfl, a, _, rfl, .inl hS, _, 0, rfl, rfl, _, rfl, ite2 (fun e => ?_) (fun e => ?_)⟩
      · have e1 : (0 : Int) < ((ns.map V.int).length : Int) := of_decide_eq_true e
        rw [List.length_map] at e1
        obtain ⟨x, r, rfl⟩ : ∃ x r, ns = x :: r := by
          cases ns with
          | nil => exact absurd e1 (by decide)
          | cons x r => exact ⟨x, r, rfl⟩
        exact ⟨.ref a, rfl, a, _, 0, .int x, rfl, rfl, hS, atI_nat (j := 0) rfl, rfl, x, rfl⟩
      · exact ⟨rfl, 0, rfl⟩
    rintro σ H1 ⟨rfl, r, rfl⟩
    -- by_digits, numbers
    refine ⟨.int r, rfl, 10, 18, rfl, rfl, ⟨by decide, by decide, by decide⟩, r, _, rfl, rfl, ?_⟩
    refine ⟨Nat.zero_le _, fun o no => ?_⟩
    -- for k in range(count)
    refine ⟨.int n, rfl, (n : Int), rfl, by omega, by omega, ?_⟩
    refine for_range (lo := 0) (n := n) (fun i σ H3 => NumW H1 a n o i σ H3) ⟨r, _, none, none, [], rfl, same_upd no, rfl, (fun x hx => by simp at hx), upd_same⟩ (fun i σ H3 hi hW => ?_) (fun σ H3 hW => ?_)
    · obtain ⟨r, b, y5, y6, xs, rfl, sm, hl, hb, ho⟩ := hW
      have hS3 : SqL K H3 a (ns.map V.int) := sm.seq hS
      have hsz : (xs.map V.int).length < sizeLine := by
        rw [List.length_map]
        exact small1000 (by omega)
      have put : ∀ (z : Int) (r' : Int) (y6' : Option V), 0 ≤ z ∧ z < 1000000 → NumW H1 a n o (i + 1) [some (.ref a), some (.int n), some (.int r'), some (.bl b), some (.ref o), some (.int (0 + i)), y6'] (upd H3 o (.lst (xs.map V.int ++ [.int z]))) := fun z r' y6' hz => by
        refine ⟨r', b, _, y6', xs ++ [z], rfl, fun c u e => ?_, by rw [List.length_append, hl]; rfl, fun x hx => ?_, by rw [upd_same, List.map_append]; rfl⟩
        · rw [upd_ne (ne_of_none e no)]
          exact sm _ _ e
        · rcases List.mem_append.mp hx with h | h
          · exact hb x h
          · rw [List.mem_singleton.mp h]
            exact hz
      -- the number from the script's cell
      have other : NumW H1 a n o i [some (.ref a), some (.int n), some (.int r), some (.bl b), some (.ref o), some (.int (0 + i)), y6] H3 := ⟨r, b, _, y6, xs, rfl, sm, hl, hb, ho⟩
      refine ⟨.bl b, rfl, b, rfl, ite2 (fun hb1 => ?_) (fun hb1 => ?_)⟩
      · refine ⟨.int r, rfl, r, 0, rfl, rfl, _, rfl, ite2 (fun e => ?_) (fun e => ?_)⟩
        · -- a digit group of the number
          refine ⟨.ref o, rfl, .inl ⟨rfl, _, .inl (.inl ho)⟩, .int r, rfl, r, 1000000, rfl, rfl, (by show (0 : Int) < 1000000; decide), o, _, _, rfl, rfl, ho, hsz, ?_⟩
          refine ⟨.int r, rfl, r, 1000000, rfl, rfl, ⟨by decide, by decide⟩, ?_⟩
          exact put _ _ _ ⟨Int.emod_nonneg _ (by decide), Int.emod_lt_of_pos _ (by decide)⟩
        · refine ⟨fun σ H4 => H4 = H3 ∧ ∃ z : Int, σ = [some (.ref a), some (.int n), some (.int r), some (.bl b), some (.ref o), some (.int (0 + i)), some (.int z)], ?_, ?_⟩
          · refine ⟨.ref a, rfl, a, _, rfl, .inl hS3, _, 0, rfl, rfl, _, rfl, ite2 (fun e => ?_) (fun e => ?_)⟩
            · have e1 : (0 : Int) < ((ns.map V.int).length : Int) := of_decide_eq_true e
              rw [List.length_map] at e1
              have hm := mod_place' (i := (0 : Int) + i) (n := ns.length) (by omega)
              have hg : atI (ns.map V.int) (((0 : Int) + i) % ((ns.map V.int).length : Int)) = some (.int ns[(((0 : Int) + i) % (ns.length : Int)).toNat]) := by
                rw [List.length_map]
                refine at_of hm.2.symm ?_
                rw [List.getElem?_map, List.getElem?_eq_getElem hm.1]
                rfl
              exact ⟨.ref a, rfl, .int (0 + i), rfl, .ref a, rfl, a, _, rfl, .inl hS3, (0 : Int) + i, _, rfl, rfl, (by rw [List.length_map]; exact e1), a, _, _, _, rfl, rfl, hS3, hg, .int (0 + i), rfl, 7919, (0 : Int) + i, rfl, rfl, .inl ⟨by decide, by decide⟩, _, _, rfl, rfl, rfl, _, rfl⟩
            · exact ⟨rfl, 13, rfl⟩
          rintro σ H4 ⟨rfl, z, rfl⟩
          refine ⟨.ref o, rfl, .inl ⟨rfl, _, .inl (.inl ho)⟩, .int z, rfl, z, 48271, rfl, rfl, .inr ⟨by decide, by decide⟩, _, 2147483647, rfl, rfl, (by show (0 : Int) < 2147483647; decide), _, 69621, rfl, rfl, .inr ⟨by decide, by decide⟩, _, 2147483629, rfl, rfl, (by show (0 : Int) < 2147483629; decide), _, 1000000, rfl, rfl, (by show (0 : Int) < 1000000; decide), o, _, _, rfl, rfl, ho, hsz, ?_⟩
          exact put _ _ _ ⟨Int.emod_nonneg _ (by decide), Int.emod_lt_of_pos _ (by decide)⟩
      · refine ⟨fun σ H4 => H4 = H3 ∧ ∃ z : Int, σ = [some (.ref a), some (.int n), some (.int r), some (.bl b), some (.ref o), some (.int (0 + i)), some (.int z)], ?_, ?_⟩
        · refine ⟨.ref a, rfl, a, _, rfl, .inl hS3, _, 0, rfl, rfl, _, rfl, ite2 (fun e => ?_) (fun e => ?_)⟩
          · have e1 : (0 : Int) < ((ns.map V.int).length : Int) := of_decide_eq_true e
            rw [List.length_map] at e1
            have hm := mod_place' (i := (0 : Int) + i) (n := ns.length) (by omega)
            have hg : atI (ns.map V.int) (((0 : Int) + i) % ((ns.map V.int).length : Int)) = some (.int ns[(((0 : Int) + i) % (ns.length : Int)).toNat]) := by
              rw [List.length_map]
              refine at_of hm.2.symm ?_
              rw [List.getElem?_map, List.getElem?_eq_getElem hm.1]
              rfl
            exact ⟨.ref a, rfl, .int (0 + i), rfl, .ref a, rfl, a, _, rfl, .inl hS3, (0 : Int) + i, _, rfl, rfl, (by rw [List.length_map]; exact e1), a, _, _, _, rfl, rfl, hS3, hg, .int (0 + i), rfl, 7919, (0 : Int) + i, rfl, rfl, .inl ⟨by decide, by decide⟩, _, _, rfl, rfl, rfl, _, rfl⟩
          · exact ⟨rfl, 13, rfl⟩
        rintro σ H4 ⟨rfl, z, rfl⟩
        refine ⟨.ref o, rfl, .inl ⟨rfl, _, .inl (.inl ho)⟩, .int z, rfl, z, 48271, rfl, rfl, .inr ⟨by decide, by decide⟩, _, 2147483647, rfl, rfl, (by show (0 : Int) < 2147483647; decide), _, 69621, rfl, rfl, .inr ⟨by decide, by decide⟩, _, 2147483629, rfl, rfl, (by show (0 : Int) < 2147483629; decide), _, 1000000, rfl, rfl, (by show (0 : Int) < 1000000; decide), o, _, _, rfl, rfl, ho, hsz, ?_⟩
        exact put _ _ _ ⟨Int.emod_nonneg _ (by decide), Int.emod_lt_of_pos _ (by decide)⟩
    · obtain ⟨r, b, y5, y6, xs, rfl, sm, hl, hb, ho⟩ := hW
      exact ⟨.ref o, rfl, q H3 o xs sm no hl hb ho⟩
/-- the built-ins that the program's top has not stored anew -/
structure Blt (mg : Str → Option Value) : Prop where
  len : mg "len" = none
  range : mg "range" = none
  tuple : mg "tuple" = none
  sorted : mg "sorted" = none
  set : mg "set" = none
  list : mg "list" = none
  isinstance : mg "isinstance" = none
theorem ok_as_set {f : Addr} {fd : FuncData} {k : Nat} (F : Fun K "as_set" "as_set" sAsSet f fd) (B : Blt mg) : FnOk P w K mg base CX0 (k + 1) f fd ["columns"] (spAsSet K) := by
  refine F.ok scS (fun vs H Q E h => ?_) (fun cdv A outer s H vs Q E hr h => ?_)
  · obtain ⟨a, ns, rfl, _⟩ := h
    rfl
  · obtain ⟨a, ns, rfl, hS, hl, q⟩ := h
    refine ⟨_, pss_one (ps_ret (pe_tupleOf (by rfl) B.tuple (pe_callB (cr_sortedSet rfl) (by rfl) B.sorted (by decide +kernel) (pa_cons (pe_callTy (cr_setI rfl) (by rfl) B.set (by decide +kernel) (pa_cons (pv 0) pa_nil)) pa_nil)))), ?_⟩
    refine ⟨.ref a, rfl, a, ns, rfl, hS, by omega, fun p c hc np => ?_⟩
    have s1 := same_upd (o := SetO w p (fun j => decide (j ∈ ns)) c) np
    refine ⟨p, _, c, rfl, upd_same, by omega, fun ss p2 hup hm hlen np2 => ?_⟩
    have s2 := same_upd (o := .lst (ss.map V.int)) np2
    refine .inl ⟨p2, _, rfl, .inl (.inl upd_same), fun p3 np3 => ?_⟩
    have s3 := same_upd (o := .tup (ss.map V.int)) np3
    exact q _ p3 ss (s1.trans (s2.trans s3)) ((s1.trans s2).free np3) ⟨hup, fun k => by rw [hm k, decide_eq_true_eq]⟩ upd_same
/-- _law_list: at most eight numbers, each below count -/
def spList : Sp := fun vs H Q _ => ∃ (x : Int), vs = [.int x] ∧ 0 ≤ x ∧
  ∀ H' p (xs : List Int), Same H H' → H p = none → xs.length ≤ 6 → (∀ y ∈ xs, 0 ≤ y ∧ y < 10) → H' p = some (.lst (xs.map V.int)) → Q (.ref p) H'
theorem ok_list {f : Addr} {fd : FuncData} {k : Nat} (F : Fun K "_law_list" "_law_list" sList f fd) (B : Blt mg) : FnOk P w K mg base CX0 (k + 1) f fd ["number"] spList := by
  refine F.ok scL (fun vs H Q E h => ?_) (fun cdv A outer s H vs Q E hr h => ?_)
  · obtain ⟨x, rfl, _⟩ := h
    rfl
  · obtain ⟨x, rfl, hx, q⟩ := h
    refine ⟨_, pss_cons (ps_set (i := 1) scL.nd rfl (.inl rfl) (pe_lst pa_nil))
      (pss_cons (ps_for PassesOwn.never rfl (pi_range1 rfl B.range (pa_cons (pe_op op_mod (pv 0) pe_int) pa_nil)) (pg_name (i := 2) scL.nd rfl (.inl rfl))
        (pss_cons (ps_set (i := 0) scL.nd rfl (.inl rfl) (pe_op op_add (pe_op op_add (pe_op op_fdiv (pv 0) pe_int) (pe_op op_mul pe_int (pv 2))) pe_int))
        (pss_one (ps_expr (pe_bm PySem.F.plainAttrs_list PySem.F.slot_list_append PySem.F.type_list_append mt_append (pv 1) (pa_cons (pe_op op_mod (pv 0) pe_int) pa_nil))))))
      (pss_one (ps_ret (pv 1)))), ?_⟩
    refine ⟨Nat.zero_le _, fun o no => ?_⟩
    have hm1 := Int.emod_nonneg x (show (7 : Int) ≠ 0 by decide)
    have hm2 := Int.emod_lt_of_pos x (show (0 : Int) < 7 by decide)
    refine ⟨.int x, rfl, x, 7, rfl, rfl, (by show (0 : Int) < 7; decide), x % 7, rfl, by omega, by omega, ?_⟩
    refine for_range (lo := 0) (n := (x % 7).toNat) (fun i σ H3 => ∃ (z : Int) (y3 : Option V) (xs : List Int), σ = [some (.int z), some (.ref o), y3] ∧ Same H H3 ∧ xs.length = i ∧ (∀ y ∈ xs, 0 ≤ y ∧ y < 10) ∧ H3 o = some (.lst (xs.map V.int))) ⟨x, none, [], rfl, same_upd no, rfl, (fun y hy => by simp at hy), upd_same⟩ (fun i σ H3 hi hW => ?_) (fun σ H3 hW => ?_)
    · obtain ⟨z, y3, xs, rfl, sm, hl, hb, ho⟩ := hW
      refine ⟨.int z, rfl, z, 3, rfl, rfl, ⟨by decide, by decide⟩, .int (0 + i), rfl, 7, (0 : Int) + i, rfl, rfl, .inl ⟨by decide, by decide⟩, _, _, rfl, rfl, _, 1, rfl, rfl, ?_⟩
      refine ⟨.ref o, rfl, .inl ⟨rfl, _, .inl (.inl ho)⟩, .int _, rfl, _, 10, rfl, rfl, (by show (0 : Int) < 10; decide), o, _, _, rfl, rfl, ho, (by rw [List.length_map]; exact small1000 (by omega)), ?_⟩
      refine ⟨_, _, xs ++ [_], rfl, fun b u e => ?_, by rw [List.length_append, hl]; rfl, fun y hy => ?_, by rw [upd_same, List.map_append]; rfl⟩
      · rw [upd_ne (ne_of_none e no)]
        exact sm _ _ e
      · rcases List.mem_append.mp hy with h | h
        · exact hb y h
        · rw [List.mem_singleton.mp h]
          exact ⟨Int.emod_nonneg _ (by decide), Int.emod_lt_of_pos _ (by decide)⟩
    · obtain ⟨z, y3, xs, rfl, sm, hl, hb, ho⟩ := hW
      exact ⟨.ref o, rfl, q H3 o xs sm no (by omega) hb ho⟩
theorem inV_int {c : Int} : ∀ ns : List Int, inV (.int c) (ns.map V.int) = decide (c ∈ ns)
  | [] => by simp [inV]
  | n :: r => by
    have ih := inV_int (c := c) r
    unfold inV at ih ⊢
    rw [List.map_cons, List.any_cons, ih]
    have e : eqV (.int n) (.int c) = decide (n = c) := Bool.beq_eq_decide_eq _ _
    rw [e]
    by_cases h : n = c
    · rw [decide_eq_true h, Bool.true_or, h]
      exact (decide_eq_true List.mem_cons_self).symm
    · rw [decide_eq_false h, Bool.false_or]
      refine decide_eq_decide.mpr ⟨fun z => List.mem_cons_of_mem _ z, fun z => ?_⟩
      rcases List.mem_cons.mp z with q | q
      · exact absurd q.symm h
      · exact q
theorem flat_ints : ∀ ns : List Int, (ns.map V.int).all flatV = true
  | [] => rfl
  | _ :: r => by
    rw [List.map_cons, List.all_cons, flat_ints r]
    rfl
/-- _law_set: the columns below 10, ascending -/
def spSet (K : PySem.W.Frag) : Sp := fun vs H Q _ => ∃ (a : Addr) (ns : List Int), vs = [.ref a] ∧ Seq K H a ns ∧ NewT H Q fun ss => ss = (upto 10).filter fun k => decide (k ∈ ns)
theorem ok_set {f : Addr} {fd : FuncData} {k : Nat} (F : Fun K "_law_set" "_law_set" sSet f fd) (B : Blt mg) : FnOk P w K mg base CX0 (k + 1) f fd ["columns"] (spSet K) := by
  refine F.ok scT (fun vs H Q E h => ?_) (fun cdv A outer s H vs Q E hr h => ?_)
  · obtain ⟨a, ns, rfl, _⟩ := h
    rfl
  · obtain ⟨a, ns, rfl, hS, q⟩ := h
    refine ⟨_, pss_one (ps_ret (pe_tupleOf (by rfl) B.tuple (pe_lc (own := [("k", 1)]) (g := gName 1) (tt := tB (tOp (rIn K false) (tVar 1) (tVar 0))) rfl scT.nd (pi_range1 rfl B.range (pa_cons pe_int pa_nil)) (blkOk_by (N := ["columns", "k"]) (sc := defScope sSet) (by decide +kernel))
        (fun _ _ _ _ _ => pg_name (i := 1) scT.nd rfl (Or.inl rfl)) (fun _ _ _ _ _ => pts_one (pt_cmpR op_in_seq (pv 1) (pv 0) (by rfl))) (fun _ _ _ _ _ => pv 1)))), ?_⟩
    refine ⟨(10 : Int), rfl, by decide, by decide, fun D hD => ?_⟩
    refine lc_filtR (n := 10) (fun k => decide (k ∈ ns)) hD (by decide) (fun _ => rfl) (fun _ => rfl) (fun j H3 Q3 hj s3 q3 => ?_) fun H3 s3 e3 => .inl ⟨D, _, rfl, .inl (.inl e3), fun p np => ?_⟩
    · refine ⟨.int ((0 : Int) + j), rfl, .ref a, rfl, a, _, rfl, hS.same s3, rfl, flat_ints ns, _, rfl, ?_⟩
      have z := q3 H3 (Same.refl _)
      rw [← inV_int] at z
      rw [Int.zero_add]
      exact z
    · exact q _ p _ (s3.trans (same_upd np)) (s3.free np) rfl upd_same
end
end K01

namespace K01
open PySem PySem.Spec PyProof.Rows L2 FsSet FsEq FsOwn FsRev
abbrev sFdI : Stmt := inClass (topS 3) 0
abbrev sFdE : Stmt := inClass (topS 3) 1
abbrev sMvI : Stmt := inClass (topS 4) 0
abbrev sMvE : Stmt := inClass (topS 4) 1
abbrev sJdI : Stmt := inClass (topS 5) 0
abbrev sJdE : Stmt := inClass (topS 5) 1
theorem scFdI : FnScope ["self", "left", "right"] ["self", "left", "right"] (defScope sFdI) := ⟨rfl, rfl, rfl, by decide +kernel, rfl, by decide +kernel, by decide +kernel⟩
theorem scFdE : FnScope ["self", "other"] ["self", "other"] (defScope sFdE) := ⟨rfl, rfl, rfl, by decide +kernel, rfl, by decide +kernel, by decide +kernel⟩
theorem scMvI : FnScope ["self", "left", "right"] ["self", "left", "right"] (defScope sMvI) := ⟨rfl, rfl, rfl, by decide +kernel, rfl, by decide +kernel, by decide +kernel⟩
theorem scMvE : FnScope ["self", "other"] ["self", "other"] (defScope sMvE) := ⟨rfl, rfl, rfl, by decide +kernel, rfl, by decide +kernel, by decide +kernel⟩
theorem scJdI : FnScope ["self", "parts", "part"] ["self", "parts"] (defScope sJdI) := ⟨rfl, rfl, rfl, by decide +kernel, rfl, by decide +kernel, by decide +kernel⟩
theorem scJdE : FnScope ["self", "other"] ["self", "other"] (defScope sJdE) := ⟨rfl, rfl, rfl, by decide +kernel, rfl, by decide +kernel, by decide +kernel⟩
/-! ### the set of a list of columns -/
def canon (ns : List Int) : List Int := (upto 10).filter fun k => decide (k ∈ ns)
theorem canon_up (ns : List Int) : Up (canon ns) := filter_up 10
theorem canon_col (ns : List Int) : Col (canon ns) := fun k hk => by
  have := mem_upto.1 (List.mem_filter.mp hk).1
  omega
theorem canon_len (ns : List Int) : (canon ns).length ≤ 10 := up_len (canon_up ns) (canon_col ns)
theorem canon_mem {ns : List Int} (hc : Col ns) {k : Int} : k ∈ canon ns ↔ k ∈ ns := by
  unfold canon
  rw [List.mem_filter, decide_eq_true_eq, mem_upto]
  exact ⟨fun h => h.2, fun h => ⟨by have := hc k h; omega, h⟩⟩
theorem canon_of {ss ns : List Int} (hu : Up ss) (hc : Col ns) (hm : ∀ k, k ∈ ss ↔ k ∈ ns) : ss = canon ns := up_ext hu (canon_up ns) fun k => by rw [hm k, canon_mem hc]
theorem canon_eq {ns ms : List Int} (h : ∀ k, k ∈ ns ↔ k ∈ ms) : canon ns = canon ms := by
  unfold canon
  congr 1
  funext k
  exact decide_eq_decide.mpr (h k)
theorem canon_canon (ns : List Int) : canon (canon ns) = canon ns := (canon_of (canon_up ns) (canon_col ns) fun _ => Iff.rfl).symm
/-! ### objects -/
def lrF (a b : Addr) : List (Str × V) := putF "right" (.ref b) (putF "left" (.ref a) [])
theorem rl_ : ¬ (("left" : Str) = "right") := by decide +kernel
theorem lrF_l (a b : Addr) : (lrF a b).lookup ("left" : Str) = some (.ref a) := by
  unfold lrF
  rw [lookup_putF, if_neg rl_, lookup_putF, if_pos rfl]
theorem lrF_r (a b : Addr) : (lrF a b).lookup ("right" : Str) = some (.ref b) := by
  unfold lrF
  rw [lookup_putF, if_pos rfl]
def pF (a : Addr) : List (Str × V) := putF "parts" (.ref a) []
theorem pF_p (a : Addr) : (pF a).lookup ("parts" : Str) = some (.ref a) := by
  unfold pF
  rw [lookup_putF, if_pos rfl]
/-- a dependency of two sides, a join dependency -/
def SideAt (H : Hp) (C x : Addr) (ss ts : List Int) : Prop := ∃ (dx a b : Addr), H x = some (.ins C dx (lrF a b)) ∧ H a = some (.tup (ss.map V.int)) ∧ H b = some (.tup (ts.map V.int))
def JdAt (K : PySem.W.Frag) (H : Hp) (C x : Addr) (xs : List (List Int)) : Prop := ∃ (dx p : Addr) (as : List Addr), H x = some (.ins C dx (pF p)) ∧ H p = some (.tup (as.map V.ref)) ∧ Tups K H as xs
theorem SideAt.same {H H' : Hp} {C x : Addr} {ss ts : List Int} (h : SideAt H C x ss ts) (e : Same H H') : SideAt H' C x ss ts := by
  obtain ⟨dx, a, b, h1, h2, h3⟩ := h
  exact ⟨dx, a, b, e _ _ h1, e _ _ h2, e _ _ h3⟩
theorem JdAt.same {K : PySem.W.Frag} {H H' : Hp} {C x : Addr} {xs : List (List Int)} (h : JdAt K H C x xs) (e : Same H H') : JdAt K H' C x xs := by
  obtain ⟨dx, p, as, h1, h2, h3⟩ := h
  exact ⟨dx, p, as, e _ _ h1, e _ _ h2, h3.same e⟩
structure ClsLR (K : PySem.W.Frag) (C : Addr) : Prop extends C8.InsC K C where
  nL : NoAttr K C "left"
  nR : NoAttr K C "right"
structure ClsP (K : PySem.W.Frag) (C : Addr) : Prop extends C8.InsC K C where
  nP : NoAttr K C "parts"
/-- another tuple in a list of such -/
theorem tups_step {K : PySem.W.Frag} {H1 H3 H4 : Hp} {D p : Addr} {ps : List Addr} {ys : List (List Int)} {i : Nat} {y : List Int} (hD : H1 D = none) (sm : Same H1 H3) (e : H3 D = some (.lst (ps.map V.ref))) (hT : Tups K H3 ps (ys.take i)) (hy : ys[i]? = some y) (s4 : Same H3 H4) (ep : SqT K H4 p (y.map V.int)) :
    H4 D = some (.lst (ps.map V.ref)) ∧ Same H1 (upd H4 D (.lst (ps.map V.ref ++ [.ref p]))) ∧ ∃ ps', (upd H4 D (.lst (ps.map V.ref ++ [.ref p]))) D = some (.lst (ps'.map V.ref)) ∧ Tups K (upd H4 D (.lst (ps.map V.ref ++ [.ref p]))) ps' (ys.take (i + 1)) := by
  have e4 := s4 _ _ e
  refine ⟨e4, fun b o z => ?_, ps ++ [p], ?_, ?_⟩
  · rw [upd_ne (ne_of_none z hD)]
    exact s4 _ _ (sm _ _ z)
  · rw [upd_same, List.map_append]
    rfl
  · rw [List.take_add_one, hy]
    exact Tups.snoc (tups_updL (hT.same s4) e4) (sqT_updL ep e4)
section
variable {P : Program} {w : World} {K : PySem.W.Frag} {mg : Str → Option Value} {base : Heap}
/-- a def of the program that is called: where it stands, what it promises -/
structure Callee (P : Program) (w : World) (K : PySem.W.Frag) (mg : Str → Option Value) (base : Heap) (n : Nat) (name : Str) (ps : List Str) (sp : Sp) where
  f : Addr
  fd : FuncData
  ok : FnOk P w K mg base CX0 n f fd ps sp
  g : mg name = some (.ref f)
  kp : PySem.W.keepIn K (.ref f) = true
  b : Binds K fd ps []
def spSideI (K : PySem.W.Frag) (C : Addr) : Sp := fun vs H Q _ => ∃ (H0 : Hp) (p dx l r : Addr) (ns ms : List Int), vs = [.ref p, .ref l, .ref r] ∧ Same H0 H ∧ H0 p = none ∧ H p = some (.ins C dx []) ∧ Seq K H0 l ns ∧ Seq K H0 r ms ∧ ns.length < 64 ∧ ms.length < 64 ∧ Col ns ∧ Col ms ∧
  ∀ H', Same H0 H' → SideAt H' C p (canon ns) (canon ms) → Q .non H'
def spJdI (K : PySem.W.Frag) (C : Addr) : Sp := fun vs H Q _ => ∃ (H0 : Hp) (p dx l : Addr) (as : List Addr) (xs : List (List Int)), vs = [.ref p, .ref l] ∧ Same H0 H ∧ H0 p = none ∧ H p = some (.ins C dx []) ∧ (SqL K H0 l (as.map V.ref) ∨ SqT K H0 l (as.map V.ref)) ∧ AllAt (Seq K) H0 as xs ∧ as.length ≤ 100 ∧ (∀ x ∈ xs, x.length < 64 ∧ Col x) ∧
  ∀ H', Same H0 H' → JdAt K H' C p (xs.map canon) → Q .non H'
def spSideE (K : PySem.W.Frag) (C : Addr) : Sp := fun vs H Q _ => ∃ (a : Addr) (y : V) (ss ts : List Int), vs = [.ref a, y] ∧ SideAt H C a ss ts ∧
  ((∃ (b : Addr) (us ws : List Int), y = .ref b ∧ SideAt H C b us ws ∧ Q (.bl (decide (ss = us) && decide (ts = ws))) H) ∨ (∃ t : Value, TyX K H y t ∧ PySem.W.kitOne K t (.ref C) = some false ∧ Q (.bl false) H))
def spJdE (K : PySem.W.Frag) (C : Addr) : Sp := fun vs H Q _ => ∃ (a : Addr) (y : V) (xs : List (List Int)), vs = [.ref a, y] ∧ JdAt K H C a xs ∧
  ((∃ (b : Addr) (ys : List (List Int)), y = .ref b ∧ JdAt K H C b ys ∧ Q (.bl (decide (xs = ys))) H) ∨ (∃ t : Value, TyX K H y t ∧ PySem.W.kitOne K t (.ref C) = some false ∧ Q (.bl false) H))
theorem ok_FdI {f C : Addr} {fd : FuncData} (F : Fun K "__init__" "Fd.__init__" sFdI f fd) (T : ClsLR K C) (G : Callee P w K mg base 1 "as_set" ["columns"] (spAsSet K)) : FnOk P w K mg base CX0 2 f fd ["self", "left", "right"] (spSideI K C) := by
  refine F.ok scFdI (fun vs H Q E h => ?_) (fun cdv A outer s H vs Q E hr h => ?_)
  · obtain ⟨H0, p, dx, l, r, ns, ms, rfl, _⟩ := h
    rfl
  · obtain ⟨H0, p, dx, l, r, ns, ms, rfl, s0, p0, hp, hL, hR, ln, lm, cn, cm, q⟩ := h
    refine ⟨_, pss_cons (ps_fld (pv 0) (pe_call G.ok (hr.mono (by decide)) (by rfl) G.g G.kp G.b .nil pass0 (pa_cons (pv 1) pa_nil)) rfl)
      (pss_one (ps_fld (pv 0) (pe_call G.ok (hr.mono (by decide)) (by rfl) G.g G.kp G.b .nil pass0 (pa_cons (pv 2) pa_nil)) rfl)), ?_⟩
    refine ⟨.ref l, rfl, l, ns, rfl, hL.same s0, ln, fun H1 a ss s1 na hss ea => ?_⟩
    have e1 : ss = canon ns := canon_of hss.1 cn hss.2
    subst e1
    have hp1 := s1 _ _ hp
    refine ⟨.ref p, rfl, p, C, dx, [], rfl, hp1, T.cl, T.nL, (by show 0 < 1000; decide), ?_⟩
    have s1' : Same H0 (upd H1 p (.ins C dx (putF "left" (.ref a) []))) := fun b o z => by
      rw [upd_ne (ne_of_none z p0)]
      exact s1 _ _ (s0 _ _ z)
    refine ⟨.ref r, rfl, r, ms, rfl, hR.same s1', lm, fun H2 b ts s2 nb hts eb => ?_⟩
    have e2 : ts = canon ms := canon_of hts.1 cm hts.2
    subst e2
    have hp2 := s2 _ _ (upd_same (H := H1) (a := p) (o := .ins C dx (putF "left" (.ref a) [])))
    refine ⟨.ref p, rfl, p, C, dx, _, rfl, hp2, T.cl, T.nR, (by show 1 < 1000; decide), ?_⟩
    have nap : a ≠ p := ne_of ea hp1 (by intro z; cases z)
    have nbp : b ≠ p := ne_of eb hp2 (by intro z; cases z)
    refine q _ (fun c o z => ?_) ⟨dx, a, b, upd_same, ?_, by rw [upd_ne nbp]; exact eb⟩
    · rw [upd_ne (ne_of_none z p0)]
      exact s2 _ _ (s1' _ _ z)
    · rw [upd_ne nap]
      refine s2 _ _ ?_
      rw [upd_ne nap]
      exact ea
theorem ok_FdE {f C : Addr} {fd : FuncData} (F : Fun K "__eq__" "Fd.__eq__" sFdE f fd) (T : ClsLR K C) (gC : mg "Fd" = some (.ref C)) (B : Blt mg) : FnOk P w K mg base CX0 1 f fd ["self", "other"] (spSideE K C) := by
  refine F.ok scFdE (fun vs H Q E h => ?_) (fun cdv A outer s H vs Q E hr h => ?_)
  · obtain ⟨a, y, ss, ts, rfl, _⟩ := h
    rfl
  · obtain ⟨p, y, ss, ts, rfl, ⟨dx, a, b, e1, e2, e3⟩, q⟩ := h
    refine ⟨_, pss_one (ps_ret (pe_and (pe_callB call_isi (by rfl) B.isinstance (by decide +kernel) (pa_cons (pv 1) (pa_cons (pe_glob (v := .ref C) (by rfl) gC rfl) pa_nil)))
      (pe_and (pe_cmpR (op_eqT hr.units) (pe_fld (pv 0) rfl) (pe_fld (pv 1) rfl) (nomark _)) (pe_one (pe_cmpR (op_eqT hr.units) (pe_fld (pv 0) rfl) (pe_fld (pv 1) rfl) (nomark _)))))), ?_⟩
    rcases q with ⟨o, us, ws, rfl, ⟨dy, c, d, f1, f2, f3⟩, q⟩ | ⟨t, ty, hk, q⟩
    · refine ⟨.ref o, rfl, .ref o, .ref C, .ref C, .ref C, true, rfl, .own C, .base (.ins f1 T.cl T.ha T.hn T.htk T.hm), T.me, true, rfl, ?_⟩
      refine ⟨.ref p, rfl, p, C, dx, _, _, rfl, e1, T.cl, T.nL, lrF_l a b, .ref o, rfl, o, C, dy, _, _, rfl, f1, T.cl, T.nL, lrF_l c d, a, c, ss, us, rfl, rfl, .inl (.inl e2), .inl (.inl f2), _, rfl, ite2 (fun z => ?_) (fun z => ?_)⟩
      · refine ⟨.ref p, rfl, p, C, dx, _, _, rfl, e1, T.cl, T.nR, lrF_r a b, .ref o, rfl, o, C, dy, _, _, rfl, f1, T.cl, T.nR, lrF_r c d, b, d, ts, ws, rfl, rfl, .inl (.inl e3), .inl (.inl f3), ?_⟩
        rw [z, Bool.true_and] at q
        exact q
      · rw [Bool.eq_false_iff.mpr z, Bool.false_and] at q
        exact q
    · exact ⟨y, rfl, y, .ref C, t, .ref C, false, rfl, .own C, ty, hk, false, rfl, q⟩
theorem ok_MvI {f C : Addr} {fd : FuncData} (F : Fun K "__init__" "Mvd.__init__" sMvI f fd) (T : ClsLR K C) (G : Callee P w K mg base 1 "as_set" ["columns"] (spAsSet K)) : FnOk P w K mg base CX0 2 f fd ["self", "left", "right"] (spSideI K C) := by
  refine F.ok scMvI (fun vs H Q E h => ?_) (fun cdv A outer s H vs Q E hr h => ?_)
  · obtain ⟨H0, p, dx, l, r, ns, ms, rfl, _⟩ := h
    rfl
  · obtain ⟨H0, p, dx, l, r, ns, ms, rfl, s0, p0, hp, hL, hR, ln, lm, cn, cm, q⟩ := h
    refine ⟨_, pss_cons (ps_fld (pv 0) (pe_call G.ok (hr.mono (by decide)) (by rfl) G.g G.kp G.b .nil pass0 (pa_cons (pv 1) pa_nil)) rfl)
      (pss_one (ps_fld (pv 0) (pe_call G.ok (hr.mono (by decide)) (by rfl) G.g G.kp G.b .nil pass0 (pa_cons (pv 2) pa_nil)) rfl)), ?_⟩
    refine ⟨.ref l, rfl, l, ns, rfl, hL.same s0, ln, fun H1 a ss s1 na hss ea => ?_⟩
    have e1 : ss = canon ns := canon_of hss.1 cn hss.2
    subst e1
    have hp1 := s1 _ _ hp
    refine ⟨.ref p, rfl, p, C, dx, [], rfl, hp1, T.cl, T.nL, (by show 0 < 1000; decide), ?_⟩
    have s1' : Same H0 (upd H1 p (.ins C dx (putF "left" (.ref a) []))) := fun b o z => by
      rw [upd_ne (ne_of_none z p0)]
      exact s1 _ _ (s0 _ _ z)
    refine ⟨.ref r, rfl, r, ms, rfl, hR.same s1', lm, fun H2 b ts s2 nb hts eb => ?_⟩
    have e2 : ts = canon ms := canon_of hts.1 cm hts.2
    subst e2
    have hp2 := s2 _ _ (upd_same (H := H1) (a := p) (o := .ins C dx (putF "left" (.ref a) [])))
    refine ⟨.ref p, rfl, p, C, dx, _, rfl, hp2, T.cl, T.nR, (by show 1 < 1000; decide), ?_⟩
    have nap : a ≠ p := ne_of ea hp1 (by intro z; cases z)
    have nbp : b ≠ p := ne_of eb hp2 (by intro z; cases z)
    refine q _ (fun c o z => ?_) ⟨dx, a, b, upd_same, ?_, by rw [upd_ne nbp]; exact eb⟩
    · rw [upd_ne (ne_of_none z p0)]
      exact s2 _ _ (s1' _ _ z)
    · rw [upd_ne nap]
      refine s2 _ _ ?_
      rw [upd_ne nap]
      exact ea
theorem ok_MvE {f C : Addr} {fd : FuncData} (F : Fun K "__eq__" "Mvd.__eq__" sMvE f fd) (T : ClsLR K C) (gC : mg "Mvd" = some (.ref C)) (B : Blt mg) : FnOk P w K mg base CX0 1 f fd ["self", "other"] (spSideE K C) := by
  refine F.ok scMvE (fun vs H Q E h => ?_) (fun cdv A outer s H vs Q E hr h => ?_)
  · obtain ⟨a, y, ss, ts, rfl, _⟩ := h
    rfl
  · obtain ⟨p, y, ss, ts, rfl, ⟨dx, a, b, e1, e2, e3⟩, q⟩ := h
    refine ⟨_, pss_one (ps_ret (pe_and (pe_callB call_isi (by rfl) B.isinstance (by decide +kernel) (pa_cons (pv 1) (pa_cons (pe_glob (v := .ref C) (by rfl) gC rfl) pa_nil)))
      (pe_and (pe_cmpR (op_eqT hr.units) (pe_fld (pv 0) rfl) (pe_fld (pv 1) rfl) (nomark _)) (pe_one (pe_cmpR (op_eqT hr.units) (pe_fld (pv 0) rfl) (pe_fld (pv 1) rfl) (nomark _)))))), ?_⟩
    rcases q with ⟨o, us, ws, rfl, ⟨dy, c, d, f1, f2, f3⟩, q⟩ | ⟨t, ty, hk, q⟩
    · refine ⟨.ref o, rfl, .ref o, .ref C, .ref C, .ref C, true, rfl, .own C, .base (.ins f1 T.cl T.ha T.hn T.htk T.hm), T.me, true, rfl, ?_⟩
      refine ⟨.ref p, rfl, p, C, dx, _, _, rfl, e1, T.cl, T.nL, lrF_l a b, .ref o, rfl, o, C, dy, _, _, rfl, f1, T.cl, T.nL, lrF_l c d, a, c, ss, us, rfl, rfl, .inl (.inl e2), .inl (.inl f2), _, rfl, ite2 (fun z => ?_) (fun z => ?_)⟩
      · refine ⟨.ref p, rfl, p, C, dx, _, _, rfl, e1, T.cl, T.nR, lrF_r a b, .ref o, rfl, o, C, dy, _, _, rfl, f1, T.cl, T.nR, lrF_r c d, b, d, ts, ws, rfl, rfl, .inl (.inl e3), .inl (.inl f3), ?_⟩
        rw [z, Bool.true_and] at q
        exact q
      · rw [Bool.eq_false_iff.mpr z, Bool.false_and] at q
        exact q
    · exact ⟨y, rfl, y, .ref C, t, .ref C, false, rfl, .own C, ty, hk, false, rfl, q⟩
theorem ok_JdI {f C : Addr} {fd : FuncData} (F : Fun K "__init__" "Jd.__init__" sJdI f fd) (T : ClsP K C) (B : Blt mg) (G : Callee P w K mg base 1 "as_set" ["columns"] (spAsSet K)) : FnOk P w K mg base CX0 2 f fd ["self", "parts"] (spJdI K C) := by
  refine F.ok scJdI (fun vs H Q E h => ?_) (fun cdv A outer s H vs Q E hr h => ?_)
  · obtain ⟨H0, p, dx, l, as, xs, rfl, _⟩ := h
    rfl
  · obtain ⟨H0, p, dx, l, as, xs, rfl, s0, p0, hp, hL, hA, la, hx, q⟩ := h
    refine ⟨_, pss_one (ps_fld (pv 0) (pe_tupleOf (by rfl) B.tuple (pe_lc (own := [("part", 2)]) (g := gName 2) (tt := tYes) (te := tCall (spAsSet K) [] E0 (tCons (tVar 2) tNil)) rfl scJdI.nd (pi_seq (pv 1)) (blkOk_by (N := ["self", "parts", "part"]) (sc := defScope sJdI) (by decide +kernel))
      (fun _ _ _ _ _ => pg_name (i := 2) scJdI.nd rfl (Or.inl rfl)) (fun _ _ _ _ _ => pts_nil) (fun _ _ _ _ _ => pe_call G.ok (hr.mono (by decide)) (by rfl) G.g G.kp G.b .nil pass0 (pa_cons (pv 2) pa_nil)))) rfl), ?_⟩
    have step : ∀ (D : Addr) (hD : H D = none) (i : Nat) (x : V) (H3 : Hp), (as.map V.ref)[i]? = some x → (Same H H3 ∧ ∃ ps : List Addr, H3 D = some (.lst (ps.map V.ref)) ∧ Tups K H3 ps ((xs.map canon).take i)) →
        tCall (spAsSet K) [] E0 (tCons (tVar 2) tNil) [some (.ref p), some (.ref l), some x] H3 fun y H4 => ∃ acc, H4 D = some (.lst acc) ∧ acc.length < sizeLine ∧ (Same H (upd H4 D (.lst (acc ++ [y]))) ∧ ∃ ps : List Addr, (upd H4 D (.lst (acc ++ [y]))) D = some (.lst (ps.map V.ref)) ∧ Tups K (upd H4 D (.lst (acc ++ [y]))) ps ((xs.map canon).take (i + 1))) := fun D hD i x H3 hi ⟨sm, ps, e, hT⟩ => by
      rw [List.getElem?_map] at hi
      obtain ⟨a, ha, rfl⟩ := Option.map_eq_some_iff.mp hi
      have hil : i < xs.length := by
        rw [← hA.1]
        exact (List.getElem?_eq_some_iff.mp ha).1
      obtain ⟨y, hy⟩ : ∃ y, xs[i]? = some y := ⟨_, List.getElem?_eq_getElem hil⟩
      obtain ⟨ly, cy⟩ := hx y (List.mem_of_getElem? hy)
      refine ⟨.ref a, rfl, a, y, rfl, ((hA.2 i a y ha hy).same s0).same sm, ly, fun H4 b ss s4 nb hss eb => ?_⟩
      have es : ss = canon y := canon_of hss.1 cy hss.2
      subst es
      have hlen : ps.length ≤ 100 := by
        rw [hT.1, List.length_take, List.length_map, ← hA.1]
        omega
      have z := tups_step (ys := xs.map canon) (y := canon y) hD sm e hT (by rw [List.getElem?_map, hy]; rfl) s4 (.inl (.inl eb))
      exact ⟨_, z.1, by rw [List.length_map]; exact small1000 (by omega), z.2⟩
    have fin : ∀ (D : Addr) (hD : H D = none) (H3 : Hp), (Same H H3 ∧ ∃ ps : List Addr, H3 D = some (.lst (ps.map V.ref)) ∧ Tups K H3 ps ((xs.map canon).take (as.map V.ref).length)) →
        kTup K (.ref D) H3 fun y H4 => tVar 0 [some (.ref p), some (.ref l), none] H4 fun x H5 => ∃ a C' dx' fs, x = .ref a ∧ H5 a = some (.ins C' dx' fs) ∧ Cls K C' ∧ NoAttr K C' "parts" ∧ fs.length < 1000 ∧ Q .non (upd H5 a (.ins C' dx' (putF "parts" y fs))) := fun D hD H3 ⟨sm, ps, e, hT⟩ => by
      rw [List.length_map, hA.1, List.take_of_length_le (by rw [List.length_map]; exact Nat.le_refl _)] at hT
      refine .inl ⟨D, _, rfl, .inl (.inl e), fun t nt => ?_⟩
      have st := same_upd (o := .tup (ps.map V.ref)) nt
      have hp3 := st _ _ (sm _ _ hp)
      refine ⟨.ref p, rfl, p, C, dx, [], rfl, hp3, T.cl, T.nP, (by show 0 < 1000; decide), ?_⟩
      have ntp : t ≠ p := ne_of upd_same hp3 (by intro z; cases z)
      refine q _ (fun b o z => ?_) ⟨dx, t, ps, upd_same, by rw [upd_ne ntp, upd_same], hT.1, fun i a x h1 h2 => ?_⟩
      · rw [upd_ne (ne_of_none z p0)]
        exact st _ _ (sm _ _ (s0 _ _ z))
      · have ha := Same.sqT st (hT.2 i a x h1 h2)
        rcases ha with (ha | ⟨o, ha⟩) | ha
        · exact .inl (.inl (by rw [upd_ne (ne_of ha hp3 (by intro z; cases z))]; exact ha))
        · exact .inl (.inr ⟨o, by rw [upd_ne (ne_of ha hp3 (by intro z; cases z))]; exact ha⟩)
        · exact .inr ha
    rcases hL with hL | hL
    · refine .inl ⟨.ref l, rfl, l, rfl, ⟨_, s0.seq hL⟩, fun D hD => ?_⟩
      refine lc_list (K := K) (a := l) (xs := as.map V.ref) (fun i H3 => Same H H3 ∧ ∃ ps : List Addr, H3 D = some (.lst (ps.map V.ref)) ∧ Tups K H3 ps ((xs.map canon).take i)) ⟨same_upd hD, [], upd_same, by rw [List.take_zero]; exact Tups.nil⟩ (fun i H3 _ z => z.1.seq (s0.seq hL)) (fun i x H3 hi z => ⟨rfl, step D hD i x H3 hi z⟩) (fun H3 z => fin D hD H3 z)
    · refine .inr ⟨.ref l, rfl, l, rfl, ⟨_, Same.sqT s0 hL⟩, fun D hD => ?_⟩
      refine lc_tup (K := K) (a := l) (xs := as.map V.ref) (fun i H3 => Same H H3 ∧ ∃ ps : List Addr, H3 D = some (.lst (ps.map V.ref)) ∧ Tups K H3 ps ((xs.map canon).take i)) ⟨same_upd hD, [], upd_same, by rw [List.take_zero]; exact Tups.nil⟩ (fun i H3 _ z => Same.sqT z.1 (Same.sqT s0 hL)) (fun i x H3 hi z => ⟨rfl, step D hD i x H3 hi z⟩) (fun H3 z => fin D hD H3 z)
theorem ok_JdE {f C : Addr} {fd : FuncData} (F : Fun K "__eq__" "Jd.__eq__" sJdE f fd) (T : ClsP K C) (gC : mg "Jd" = some (.ref C)) (B : Blt mg) : FnOk P w K mg base CX0 1 f fd ["self", "other"] (spJdE K C) := by
  refine F.ok scJdE (fun vs H Q E h => ?_) (fun cdv A outer s H vs Q E hr h => ?_)
  · obtain ⟨a, y, xs, rfl, _⟩ := h
    rfl
  · obtain ⟨p, y, xs, rfl, ⟨dx, a, as, e1, e2, e3⟩, q⟩ := h
    refine ⟨_, pss_one (ps_ret (pe_and (pe_callB call_isi (by rfl) B.isinstance (by decide +kernel) (pa_cons (pv 1) (pa_cons (pe_glob (v := .ref C) (by rfl) gC rfl) pa_nil)))
      (pe_one (pe_cmpR (op_eqTT hr.units) (pe_fld (pv 0) rfl) (pe_fld (pv 1) rfl) (nomark _))))), ?_⟩
    rcases q with ⟨o, ys, rfl, ⟨dy, c, cs, f1, f2, f3⟩, q⟩ | ⟨t, ty, hk, q⟩
    · refine ⟨.ref o, rfl, .ref o, .ref C, .ref C, .ref C, true, rfl, .own C, .base (.ins f1 T.cl T.ha T.hn T.htk T.hm), T.me, true, rfl, ?_⟩
      exact ⟨.ref p, rfl, p, C, dx, _, _, rfl, e1, T.cl, T.nP, pF_p a, .ref o, rfl, o, C, dy, _, _, rfl, f1, T.cl, T.nP, pF_p c, a, c, as, cs, xs, ys, rfl, rfl, .inl (.inl e2), .inl (.inl f2), e3, f3, q⟩
    · exact ⟨y, rfl, y, .ref C, t, .ref C, false, rfl, .own C, ty, hk, false, rfl, q⟩
end
end K01

set_option pp.maxSteps 400
namespace K01
open PySem PySem.Spec PyProof.Rows L2 FsSet FsEq FsOwn FsRev
abbrev sLaw : Stmt := topS 10
theorem scLaw : FnScope ["script", "numbers", "left", "right", "k", "parts", "sides", "due", "made", "again", "i", "j", "other", "bent", "part"] ["script"] (defScope sLaw) := ⟨rfl, rfl, rfl, by decide +kernel, rfl, by decide +kernel, by decide +kernel⟩
/-- a class of the program: how it is made, what its == promises -/
structure OwnC (P : Program) (w : World) (K : PySem.W.Frag) (mg : Str → Option Value) (base : Heap) (nm : Str) (ps : List Str) (spI spE : Addr → Sp) where
  C : Addr
  fI : Addr
  fE : Addr
  fdI : FuncData
  fdE : FuncData
  mkC : Mk K C fI
  okI : FnOk P w K mg base CX0 2 fI fdI ps (spI C)
  bI : Binds K fdI ps []
  okE : FnOk P w K mg base CX0 1 fE fdE ["self", "other"] (spE C)
  bE : Binds K fdE ["self", "other"] []
  hs : PySem.W.findIn K (.ref C) "__eq__" = some (some (.ref fE))
  hf : PySem.W.isFn K (.ref fE) = true
  g : mg nm = some (.ref C)
structure Other (K : PySem.W.Frag) (C : Addr) (t : Value) : Prop where
  k : PySem.W.kitOne K t (.ref C) = some false
  n : PySem.W.notFirst K C t = true
structure Callees (P : Program) (w : World) (K : PySem.W.Frag) (mg : Str → Option Value) (base : Heap) where
  numbers : Callee P w K mg base 1 "_law_numbers" ["script", "count"] (spNumbers K)
  list : Callee P w K mg base 1 "_law_list" ["number"] spList
  set : Callee P w K mg base 1 "_law_set" ["columns"] (spSet K)
  fd : OwnC P w K mg base "Fd" ["self", "left", "right"] (spSideI K) (spSideE K)
  mvd : OwnC P w K mg base "Mvd" ["self", "left", "right"] (spSideI K) (spSideE K)
  jd : OwnC P w K mg base "Jd" ["self", "parts"] (spJdI K) (spJdE K)
  t1 : ClsLR K fd.C
  t2 : ClsLR K mvd.C
  t3 : ClsP K jd.C
  o12 : Other K fd.C (.ref mvd.C)
  o13 : Other K fd.C (.ref jd.C)
  o1t : Other K fd.C (.type "tuple")
  o21 : Other K mvd.C (.ref fd.C)
  o23 : Other K mvd.C (.ref jd.C)
  o31 : Other K jd.C (.ref fd.C)
  o32 : Other K jd.C (.ref mvd.C)
  o3t : Other K jd.C (.type "tuple")
section
variable {P : Program} {w : World} {K : PySem.W.Frag} {mg : Str → Option Value} {base : Heap}
/-- == of two of the three classes -/
def rEq3 (K : PySem.W.Frag) (C1 C2 C3 : Addr) : R2 := fun x y H Q => (rEqO K C1 (spSideE K C1) E0 x y H Q ∨ rEqO K C2 (spSideE K C2) E0 x y H Q) ∨ rEqO K C3 (spJdE K C3) E0 x y H Q
theorem op_eq3 {X : Cx} (C : Callees X.prog X.w X.K X.mg X.base) {n : Nat} (hr : Room (n + 1) X.A) : OpR X (compareOp .Eq) (rEq3 X.K C.fd.C C.mvd.C C.jd.C) :=
  op_or (op_or (op_eqO C.fd.okE (hr.mono (by omega)) C.fd.hs C.fd.hf C.fd.bE pass0) (op_eqO C.mvd.okE (hr.mono (by omega)) C.mvd.hs C.mvd.hf C.mvd.bE pass0)) (op_eqO C.jd.okE (hr.mono (by omega)) C.jd.hs C.jd.hf C.jd.bE pass0)
theorem nf_self (K : PySem.W.Frag) (C : Addr) : PySem.W.notFirst K C (.ref C) = true := by simp [PySem.W.notFirst]
theorem ty_ins {H : Hp} {C x : Addr} {dx : Addr} {fs : List (Str × V)} (T : C8.InsC K C) (e : H x = some (.ins C dx fs)) : TyX K H (.ref x) (.ref C) := .base (.ins e T.cl T.ha T.hn T.htk T.hm)
theorem ty_tup {H : Hp} {a : Addr} {xs : List V} (e : H a = some (.tup xs)) : TyX K H (.ref a) (.type "tuple") := .base (.tup e)
theorem eqS {H : Hp} {Q : VK} {C a b : Addr} {ss ts us ws : List Int} (T : ClsLR K C) (S : SideAt H C a ss ts) (S' : SideAt H C b us ws) (q : Q (.bl (decide (ss = us) && decide (ts = ws))) H) : rEqO K C (spSideE K C) E0 (.ref a) (.ref b) H Q := by
  obtain ⟨dx, c, d, e1, e2, e3⟩ := id S
  obtain ⟨dy, c', d', f1, f2, f3⟩ := id S'
  exact ⟨a, dx, _, .ref C, rfl, e1, ty_ins T.toInsC f1, nf_self K C, a, .ref b, ss, ts, rfl, S, .inl ⟨b, us, ws, rfl, S', q⟩⟩
theorem eqSo {H : Hp} {Q : VK} {C a : Addr} {y : V} {t : Value} {ss ts : List Int} (S : SideAt H C a ss ts) (ty : TyX K H y t) (o : Other K C t) (q : Q (.bl false) H) : rEqO K C (spSideE K C) E0 (.ref a) y H Q := by
  obtain ⟨dx, c, d, e1, e2, e3⟩ := id S
  exact ⟨a, dx, _, t, rfl, e1, ty, o.n, a, y, ss, ts, rfl, S, .inr ⟨t, ty, o.k, q⟩⟩
theorem eqJ {H : Hp} {Q : VK} {C a b : Addr} {xs ys : List (List Int)} (T : ClsP K C) (S : JdAt K H C a xs) (S' : JdAt K H C b ys) (q : Q (.bl (decide (xs = ys))) H) : rEqO K C (spJdE K C) E0 (.ref a) (.ref b) H Q := by
  obtain ⟨dx, c, d, e1, e2, e3⟩ := id S
  obtain ⟨dy, c', d', f1, f2, f3⟩ := id S'
  exact ⟨a, dx, _, .ref C, rfl, e1, ty_ins T.toInsC f1, nf_self K C, a, .ref b, xs, rfl, S, .inl ⟨b, ys, rfl, S', q⟩⟩
theorem eqJo {H : Hp} {Q : VK} {C a : Addr} {y : V} {t : Value} {xs : List (List Int)} (S : JdAt K H C a xs) (ty : TyX K H y t) (o : Other K C t) (q : Q (.bl false) H) : rEqO K C (spJdE K C) E0 (.ref a) y H Q := by
  obtain ⟨dx, c, d, e1, e2, e3⟩ := id S
  exact ⟨a, dx, _, t, rfl, e1, ty, o.n, a, y, xs, rfl, S, .inr ⟨t, ty, o.k, q⟩⟩
theorem SideAt.ty {H : Hp} {C a : Addr} {ss ts : List Int} (T : C8.InsC K C) (S : SideAt H C a ss ts) : TyX K H (.ref a) (.ref C) := by
  obtain ⟨dx, c, d, e1, e2, e3⟩ := S
  exact ty_ins T e1
theorem JdAt.ty {H : Hp} {C a : Addr} {xs : List (List Int)} (T : C8.InsC K C) (S : JdAt K H C a xs) : TyX K H (.ref a) (.ref C) := by
  obtain ⟨dx, c, d, e1, e2, e3⟩ := S
  exact ty_ins T e1
/-- the nine pairs -/
theorem eq_ij (C : Callees P w K mg base) {H : Hp} {Q : VK} {f1 f2 f3 g1 g2 g3 : Addr} {A B : List Int} {xs : List (List Int)} (S1 : SideAt H C.fd.C f1 A B) (S2 : SideAt H C.mvd.C f2 A B) (S3 : JdAt K H C.jd.C f3 xs) (R1 : SideAt H C.fd.C g1 A B) (R2 : SideAt H C.mvd.C g2 A B) (R3 : JdAt K H C.jd.C g3 xs) :
    ∀ {i j : Nat} {x y : V}, [V.ref f1, V.ref f2, V.ref f3][i]? = some x → [V.ref g1, V.ref g2, V.ref g3][j]? = some y → Q (.bl (decide (i = j))) H → rEq3 K C.fd.C C.mvd.C C.jd.C x y H Q
  | 0, 0, x, y, hx, hy, q => by
    cases hx; cases hy
    refine .inl (.inl (eqS C.t1 S1 R1 ?_))
    simpa using q
  | 0, 1, x, y, hx, hy, q => by
    cases hx; cases hy
    exact .inl (.inl (eqSo S1 (SideAt.ty C.t2.toInsC R2) C.o12 (by simpa using q)))
  | 0, 2, x, y, hx, hy, q => by
    cases hx; cases hy
    exact .inl (.inl (eqSo S1 (JdAt.ty C.t3.toInsC R3) C.o13 (by simpa using q)))
  | 1, 0, x, y, hx, hy, q => by
    cases hx; cases hy
    exact .inl (.inr (eqSo S2 (SideAt.ty C.t1.toInsC R1) C.o21 (by simpa using q)))
  | 1, 1, x, y, hx, hy, q => by
    cases hx; cases hy
    refine .inl (.inr (eqS C.t2 S2 R2 ?_))
    simpa using q
  | 1, 2, x, y, hx, hy, q => by
    cases hx; cases hy
    exact .inl (.inr (eqSo S2 (JdAt.ty C.t3.toInsC R3) C.o23 (by simpa using q)))
  | 2, 0, x, y, hx, hy, q => by
    cases hx; cases hy
    exact .inr (eqJo S3 (SideAt.ty C.t1.toInsC R1) C.o31 (by simpa using q))
  | 2, 1, x, y, hx, hy, q => by
    cases hx; cases hy
    exact .inr (eqJo S3 (SideAt.ty C.t2.toInsC R2) C.o32 (by simpa using q))
  | 2, 2, x, y, hx, hy, q => by
    cases hx; cases hy
    refine .inr (eqJ C.t3 S3 R3 ?_)
    simpa using q
  | i + 3, j, x, y, hx, hy, q => by cases hx
  | 0, j + 3, x, y, hx, hy, q => by cases hy
  | 1, j + 3, x, y, hx, hy, q => by cases hy
  | 2, j + 3, x, y, hx, hy, q => by cases hy
/-- all but lists stay -/
def KeepN (H H' : Hp) : Prop := ∀ b o, H b = some o → (∀ xs, o ≠ .lst xs) → H' b = some o
theorem KeepN.sqT {H H' : Hp} {a : Addr} {xs : List V} (e : KeepN H H') (h : SqT K H a xs) : SqT K H' a xs := by
  rcases h with (h | ⟨o, h⟩) | h
  · exact .inl (.inl (e _ _ h fun xs z => by cases z))
  · exact .inl (.inr ⟨o, e _ _ h fun xs z => by cases z⟩)
  · exact .inr h
theorem KeepN.side {H H' : Hp} {C x : Addr} {ss ts : List Int} (e : KeepN H H') (h : SideAt H C x ss ts) : SideAt H' C x ss ts := by
  obtain ⟨dx, a, b, h1, h2, h3⟩ := h
  exact ⟨dx, a, b, e _ _ h1 (fun xs z => by cases z), e _ _ h2 (fun xs z => by cases z), e _ _ h3 (fun xs z => by cases z)⟩
theorem KeepN.tups {H H' : Hp} {as : List Addr} {xs : List (List Int)} (e : KeepN H H') (h : Tups K H as xs) : Tups K H' as xs := ⟨h.1, fun i a x h1 h2 => e.sqT (h.2 i a x h1 h2)⟩
theorem KeepN.jd {H H' : Hp} {C x : Addr} {xs : List (List Int)} (e : KeepN H H') (h : JdAt K H C x xs) : JdAt K H' C x xs := by
  obtain ⟨dx, p, as, h1, h2, h3⟩ := h
  exact ⟨dx, p, as, e _ _ h1 (fun xs z => by cases z), e _ _ h2 (fun xs z => by cases z), e.tups h3⟩
theorem KeepN.upd {H H' : Hp} {p : Addr} {xs : List V} {o : HO} (e : KeepN H H') (h : H' p = some (.lst xs)) : KeepN H (L2.upd H' p o) := fun b u z hn => by
  have hb : b ≠ p := fun q => by
    rw [q] at z
    have h2 := e _ _ z hn
    rw [h] at h2
    exact hn xs (Option.some.inj h2).symm
  rw [upd_ne hb]
  exact e _ _ z hn
def spLaw (K : PySem.W.Frag) : Sp := fun vs H Q _ => ∃ (a : Addr) (ns : List Int), vs = [.ref a] ∧ SqL K H a (ns.map V.int) ∧ ns.length ≤ 63 ∧ ∀ H', Q (.bl true) H'
theorem ok_law {f : Addr} {fd : FuncData} (F : Fun K "law" "law" sLaw f fd) (B : Blt mg) (C : Callees P w K mg base) : FnOk P w K mg base CX0 4 f fd ["script"] (spLaw K) := by
  refine F.ok scLaw (fun vs H Q E h => ?_) (fun cdv A outer s H vs Q E hr h => ?_)
  · obtain ⟨a, ns, rfl, _⟩ := h
    rfl
  · obtain ⟨sc, ns, rfl, hS, hlen, q⟩ := h
    refine ⟨_, (pss_cons (ps_set (i := 1) scLaw.nd rfl (Or.inr rfl) (pe_call C.numbers.ok (hr.mono (by decide)) (by rfl) C.numbers.g C.numbers.kp C.numbers.b .nil pass0 (pa_cons (pv 0) (pa_cons pe_int pa_nil))))
      (pss_cons (ps_set (i := 2) scLaw.nd rfl (.inl rfl) (pe_call C.list.ok (hr.mono (by decide)) (by rfl) C.list.g C.list.kp C.list.b .nil pass0 (pa_cons (pe_ix ix_list (pv 1) pe_int (fun _ _ => rfl)) pa_nil)))
      (pss_cons (ps_set (i := 3) scLaw.nd rfl (.inl rfl) (pe_call C.list.ok (hr.mono (by decide)) (by rfl) C.list.g C.list.kp C.list.b .nil pass0 (pa_cons (pe_ix ix_list (pv 1) pe_int (fun _ _ => rfl)) pa_nil)))
      (pss_cons (ps_setLc (i := 5) (own := [("k", 4)]) (g := gName 4) (tt := tYes) (te := tCall spList [] E0 (tCons (tOp (rIxL K) (tVar 1) (tOp (rI0 fun i j => .int (i + j)) (tC (V.int 2)) (tVar 4))) tNil)) rfl scLaw.nd rfl (show (defScope sLaw).names.lookup _ = some .local by decide +kernel) (sw_true rfl (show (defScope sLaw).names.lookup _ = some .local by decide +kernel) (by rfl) (by decide +kernel)) (pi_range1 rfl B.range (pa_cons (pe_op op_add (pe_op op_mod (pe_ix ix_list (pv 1) pe_int (fun _ _ => rfl)) pe_int) pe_int) pa_nil)) (blkOk_by (N := ["script", "numbers", "left", "right", "k", "parts", "sides", "due", "made", "again", "i", "j", "other", "bent", "part"]) (sc := defScope sLaw) (by decide +kernel)) (fun _ _ _ _ _ => pg_name (i := 4) scLaw.nd rfl (Or.inl rfl)) (fun _ _ _ _ _ => pts_nil) (fun _ _ _ _ _ => (pe_call C.list.ok (hr.mono (by decide)) (by rfl) C.list.g C.list.kp C.list.b .nil pass0 (pa_cons (pe_ix ix_list (pv 1) (pe_op op_add pe_int (pv 4)) (fun _ _ => rfl)) pa_nil))))
      (pss_cons (ps_set (i := 6) scLaw.nd rfl (.inl rfl) (pe_tup (pa_cons (pe_call C.set.ok (hr.mono (by decide)) (by rfl) C.set.g C.set.kp C.set.b .nil pass0 (pa_cons (pv 2) pa_nil)) (pa_cons (pe_call C.set.ok (hr.mono (by decide)) (by rfl) C.set.g C.set.kp C.set.b .nil pass0 (pa_cons (pv 3) pa_nil)) pa_nil))))
      (pss_cons (ps_set (i := 7) scLaw.nd rfl (.inl rfl) (pe_tupleOf (by rfl) B.tuple (pe_lc (own := [("part", 14)]) (g := gName 14) (tt := tYes) (te := tCall (spSet K) [] E0 (tCons (tVar 14) tNil)) rfl scLaw.nd (pi_list (pv 5)) (blkOk_by (N := ["script", "numbers", "left", "right", "k", "parts", "sides", "due", "made", "again", "i", "j", "other", "bent", "part"]) (sc := defScope sLaw) (by decide +kernel)) (fun _ _ _ _ _ => pg_name (i := 14) scLaw.nd rfl (Or.inl rfl)) (fun _ _ _ _ _ => pts_nil) (fun _ _ _ _ _ => (pe_call C.set.ok (hr.mono (by decide)) (by rfl) C.set.g C.set.kp C.set.b .nil pass0 (pa_cons (pv 14) pa_nil))))))
      (pss_cons (ps_set (i := 8) scLaw.nd rfl (.inl rfl) (pe_lst (pa_cons (pe_make C.fd.mkC C.fd.okI (hr.mono (by decide)) (by rfl) C.fd.g C.fd.bI .nil pass0 (pa_cons (pv 2) (pa_cons (pv 3) pa_nil))) (pa_cons (pe_make C.mvd.mkC C.mvd.okI (hr.mono (by decide)) (by rfl) C.mvd.g C.mvd.bI .nil pass0 (pa_cons (pv 2) (pa_cons (pv 3) pa_nil))) (pa_cons (pe_make C.jd.mkC C.jd.okI (hr.mono (by decide)) (by rfl) C.jd.g C.jd.bI .nil pass0 (pa_cons (pv 5) pa_nil)) pa_nil)))))
      (pss_cons (ps_expr (pe_bm PySem.F.plainAttrs_list PySem.F.slot_list_append PySem.F.type_list_append mt_append (pv 2) (pa_cons pe_int pa_nil)))
      (pss_cons (ps_expr (pe_bm PySem.F.plainAttrs_list PySem.F.slot_list_append PySem.F.type_list_append mt_append (pv 3) (pa_cons pe_int pa_nil)))
      (pss_cons (ps_expr (pe_bm PySem.F.plainAttrs_list PySem.F.slot_list_append PySem.F.type_list_append mt_append (pe_ix ix_list (pv 5) pe_int (fun _ _ => rfl)) (pa_cons pe_int pa_nil)))
      (pss_cons (ps_for PassesOwn.never rfl (pi_range1 rfl B.range (pa_cons pe_int pa_nil)) (pg_name (i := 4) scLaw.nd rfl (.inl rfl)) (pss_one (ps_if (pt_cmpR (op_neTT hr.units) (pe_tup (pa_cons (pe_fld (pe_ix ix_list (pv 8) (pv 4) (fun _ _ => rfl)) rfl) (pa_cons (pe_fld (pe_ix ix_list (pv 8) (pv 4) (fun _ _ => rfl)) rfl) pa_nil))) (pv 6) (nomark _)) (pss_one (ps_ret pe_bl)) pss_nil)))
      (pss_cons (ps_if (pt_cmpR (op_neTT hr.units) (pe_fld (pe_ix ix_list (pv 8) pe_int (fun _ _ => rfl)) rfl) (pv 7) (nomark _)) (pss_one (ps_ret pe_bl)) pss_nil)
      (pss_cons (ps_set (i := 9) scLaw.nd rfl (.inl rfl) (pe_lst (pa_cons (pe_make C.fd.mkC C.fd.okI (hr.mono (by decide)) (by rfl) C.fd.g C.fd.bI .nil pass0 (pa_cons (pe_revT (pe_ix ix_tup (pv 6) pe_int (fun _ _ => rfl))) (pa_cons (pe_op op_catV (pe_ix ix_tup (pv 6) pe_int (fun _ _ => rfl)) (pe_ix ix_tup (pv 6) pe_int (fun _ _ => rfl))) pa_nil))) (pa_cons (pe_make C.mvd.mkC C.mvd.okI (hr.mono (by decide)) (by rfl) C.mvd.g C.mvd.bI .nil pass0 (pa_cons (pe_op op_catV (pe_ix ix_tup (pv 6) pe_int (fun _ _ => rfl)) (pe_ix ix_tup (pv 6) pe_int (fun _ _ => rfl))) (pa_cons (pe_ix ix_tup (pv 6) pe_int (fun _ _ => rfl)) pa_nil))) (pa_cons (pe_make C.jd.mkC C.jd.okI (hr.mono (by decide)) (by rfl) C.jd.g C.jd.bI .nil pass0 (pa_cons (pe_callTy call_list_of (by rfl) B.list (by decide +kernel) (pa_cons (pv 7) pa_nil)) pa_nil)) pa_nil)))))
      (pss_cons (ps_for PassesOwn.never rfl (pi_range1 rfl B.range (pa_cons pe_int pa_nil)) (pg_name (i := 10) scLaw.nd rfl (.inl rfl)) (pss_one (ps_for PassesOwn.never rfl (pi_range1 rfl B.range (pa_cons pe_int pa_nil)) (pg_name (i := 11) scLaw.nd rfl (.inl rfl)) (pss_one (ps_if (pt_cmpR op_ne (pe_cmpR (op_eq3 C hr) (pe_ix ix_list (pv 8) (pv 10) (fun _ _ => rfl)) (pe_ix ix_list (pv 9) (pv 11) (fun _ _ => rfl)) (nomark _)) (pe_cmpR op_eq (pv 10) (pv 11) (nomark _)) (nomark _)) (pss_one (ps_ret pe_bl)) pss_nil)))))
      (pss_cons (ps_set (i := 12) scLaw.nd rfl (Or.inr rfl) (pe_op op_mod (pe_ix ix_list (pv 1) pe_int (fun _ _ => rfl)) pe_int))
      (pss_cons (ps_set (i := 13) scLaw.nd rfl (.inl rfl) (pe_tupleOf (by rfl) B.tuple (pe_lc (own := [("k", 4)]) (g := gName 4)  rfl scLaw.nd (pi_tup (pe_ix ix_tup (pv 6) pe_int (fun _ _ => rfl))) (blkOk_by (N := ["script", "numbers", "left", "right", "k", "parts", "sides", "due", "made", "again", "i", "j", "other", "bent", "part"]) (sc := defScope sLaw) (by decide +kernel)) (fun _ _ _ _ _ => pg_name (i := 4) scLaw.nd rfl (Or.inl rfl)) (fun _ _ _ _ _ => pts_one (pt_cmpR op_ne (pv 4) (pv 12) (nomark _))) (fun _ _ _ _ _ => (pv 4)))))
      (C8.pss_cut (ps_if (pt_cmpR op_notIn_seq (pv 12) (pe_ix ix_tup (pv 6) pe_int (fun _ _ => rfl)) (by rfl)) (pss_one (ps_set (i := 13) scLaw.nd rfl (.inl rfl) (pe_op op_catV (pe_ix ix_tup (pv 6) pe_int (fun _ _ => rfl)) (pe_tup (pa_cons (pv 12) pa_nil))))) pss_nil)
      (pss_cons (ps_if (PW.pt (pw_or (pt_cmpR (op_eq3 C hr) (pe_ix ix_list (pv 8) pe_int (fun _ _ => rfl)) (pe_make C.fd.mkC C.fd.okI (hr.mono (by decide)) (by rfl) C.fd.g C.fd.bI .nil pass0 (pa_cons (pe_ix ix_tup (pv 6) pe_int (fun _ _ => rfl)) (pa_cons (pv 13) pa_nil))) (nomark _)) (pw_or (pt_cmpR (op_eq3 C hr) (pe_ix ix_list (pv 8) pe_int (fun _ _ => rfl)) (pe_make C.mvd.mkC C.mvd.okI (hr.mono (by decide)) (by rfl) C.mvd.g C.mvd.bI .nil pass0 (pa_cons (pe_ix ix_tup (pv 6) pe_int (fun _ _ => rfl)) (pa_cons (pv 13) pa_nil))) (nomark _)) (pw_or1 (PW.pt (pw_and (pt_cmpR (op_eq3 C hr) (pe_ix ix_list (pv 8) pe_int (fun _ _ => rfl)) (pe_make C.fd.mkC C.fd.okI (hr.mono (by decide)) (by rfl) C.fd.g C.fd.bI .nil pass0 (pa_cons (pv 13) (pa_cons (pe_op op_catV (pv 13) (pe_ix ix_tup (pv 6) pe_int (fun _ _ => rfl))) pa_nil))) (nomark _)) (pw_and1 (pt_cmpR (op_neT hr.units) (pv 13) (pe_ix ix_tup (pv 6) pe_int (fun _ _ => rfl)) (nomark _))))))))) (pss_one (ps_ret pe_bl)) pss_nil)
      (pss_cons (ps_if (PW.pt (pw_or (pt_cmpR (op_eq3 C hr) (pe_ix ix_list (pv 8) pe_int (fun _ _ => rfl)) (pe_make C.jd.mkC C.jd.okI (hr.mono (by decide)) (by rfl) C.jd.g C.jd.bI .nil pass0 (pa_cons (pe_op op_catV (pv 7) (pe_tup (pa_cons (pe_tup (pa_cons (pv 12) pa_nil)) pa_nil))) pa_nil)) (nomark _)) (pw_or (pt_cmpR (op_eq3 C hr) (pe_ix ix_list (pv 8) pe_int (fun _ _ => rfl)) (pv 7) (nomark _)) (pw_or1 (pt_cmpR (op_eq3 C hr) (pe_ix ix_list (pv 8) pe_int (fun _ _ => rfl)) (pv 6) (nomark _)))))) (pss_one (ps_ret pe_bl)) pss_nil)
      (pss_one (ps_ret (pe_cmpR op_eq (pe_cmpR (op_eq3 C hr) (pe_ix ix_list (pv 8) pe_int (fun _ _ => rfl)) (pe_make C.jd.mkC C.jd.okI (hr.mono (by decide)) (by rfl) C.jd.g C.jd.bI .nil pass0 (pa_cons (pe_revT (pv 7)) pa_nil)) (nomark _)) (pe_cmpR (op_eqTT hr.units) (pv 7) (pe_revT (pv 7)) (nomark _)) (nomark _))))))))))))))))))))))), ?_⟩
    -- numbers
    refine ⟨.ref sc, rfl, sc, ns, 8, rfl, hS, by omega, by decide, fun H1 pn xs sm1 np1 hxl hxb e1 => ?_⟩
    have num : ∀ k, k < 8 → ∃ z, (xs.map V.int)[k]? = some (.int z) ∧ 0 ≤ z := fun k hk => by
      have hk' : k < xs.length := by rw [hxl]; exact hk
      exact ⟨xs[k], by rw [List.getElem?_map, List.getElem?_eq_getElem hk']; rfl, (hxb _ (List.getElem_mem hk')).1⟩
    obtain ⟨n0, g0, b0⟩ := num 0 (by decide)
    obtain ⟨n1, g1, b1⟩ := num 1 (by decide)
    obtain ⟨n6, g6, b6⟩ := num 6 (by decide)
    obtain ⟨n7, g7, b7⟩ := num 7 (by decide)
    have qn : ∀ {H}, Same H1 H → SqL K H pn (xs.map V.int) := fun z => .inl (.inl (z _ _ e1))
    -- left, right
    refine ⟨.ref pn, rfl, pn, _, 0, .int n0, rfl, rfl, qn (Same.refl _), atI_nat (j := 0) g0, n0, rfl, b0, fun H2 pl fs s2 npl hfl hfb el => ?_⟩
    refine ⟨.ref pn, rfl, pn, _, 1, .int n1, rfl, rfl, qn s2, atI_nat (j := 1) g1, n1, rfl, b1, fun H3 pr gs s3 npr hgl hgb er => ?_⟩
    have cfs : Col fs := hfb
    have cgs : Col gs := hgb
    have k3 : Same H1 H3 := s2.trans s3
    have el3 := s3 _ _ el
    have nlr : pl ≠ pr := ne_of_none el npr
    -- parts
    have hm0 := Int.emod_nonneg n6 (show (4 : Int) ≠ 0 by decide)
    have hm1 := Int.emod_lt_of_pos n6 (show (0 : Int) < 4 by decide)
    refine ⟨.ref pn, rfl, pn, _, 6, .int n6, rfl, rfl, qn k3, atI_nat (j := 6) g6, n6, 4, rfl, rfl, (by show (0 : Int) < 4; decide), _, 1, rfl, rfl, n6 % 4 + 1, rfl, by omega, by omega, fun D hD => ?_⟩
    refine lc_range (lo := 0) (n := (n6 % 4 + 1).toNat) (g := gName 4) (tt := tYes) (vs := [4]) (fun i H4 => Same H3 H4 ∧ ∃ (ps : List Addr) (xss : List (List Int)), ps.length = i ∧ H4 D = some (.lst (ps.map V.ref)) ∧ AllAt (fun H a x => a ≠ D ∧ H3 a = none ∧ H a = some (.lst (x.map V.int))) H4 ps xss ∧ ∀ x ∈ xss, x.length ≤ 6 ∧ Col x)
      ⟨same_upd hD, [], [], rfl, upd_same, AllAt.nil, fun x hx => by simp at hx⟩ (fun i H4 hi hW => ⟨rfl, ?_⟩) (fun H4 hW => ?_)
    · obtain ⟨s4, ps, xss, hpl, eD, hA, hB⟩ := hW
      obtain ⟨z, gz, bz⟩ := num (2 + i) (by omega)
      refine ⟨.ref pn, rfl, .int (0 + i), rfl, 2, (0 : Int) + i, rfl, rfl, pn, _, _, .int z, rfl, rfl, qn (k3.trans s4), (by rw [show (2 : Int) + ((0 : Int) + (i : Int)) = ((2 + i : Nat) : Int) by omega]; exact atI_nat gz), z, rfl, bz, fun H5 p ys s5 np hyl hyb ep => ?_⟩
      have eD5 := s5 _ _ eD
      have npD : p ≠ D := fun e => by rw [e] at np; rw [np] at eD; cases eD
      refine ⟨_, eD5, by rw [List.length_map]; exact small1000 (by omega), fun b u e => ?_, ps ++ [p], xss ++ [ys], by rw [List.length_append, hpl]; rfl, by rw [upd_same, List.map_append]; rfl, ?_, fun x hx => ?_⟩
      · rw [upd_ne (ne_of_none e hD)]
        exact s5 _ _ (s4 _ _ e)
      · refine AllAt.snoc (hA.imp fun a x ⟨h1, h2, h3⟩ => ⟨h1, h2, by rw [upd_ne h1]; exact s5 _ _ h3⟩) ⟨npD, s4.free np, by rw [upd_ne npD]; exact ep⟩
      · rcases List.mem_append.mp hx with h | h
        · exact hB x h
        · rw [List.mem_singleton.mp h]
          exact ⟨hyl, hyb⟩
    obtain ⟨s4, ps, xss, hpl, eD, hA, hB⟩ := hW
    have hps : 1 ≤ ps.length ∧ ps.length ≤ 4 := by omega
    have k4 := k3.trans s4
    have el4 := s4 _ _ el3
    have er4 := s4 _ _ er
    -- sides
    refine ⟨.ref pl, rfl, pl, fs, rfl, .inl (.inl (.inl el4)), fun H5 a1 A s5 na1 hA1 ea1 => ?_⟩
    have hA1' : A = canon fs := hA1
    have er5 := s5 _ _ er4
    refine ⟨.ref pr, rfl, pr, gs, rfl, .inl (.inl (.inl er5)), fun H6 a2 Bs s6 na2 hA2 ea2 => ?_⟩
    have hA2' : Bs = canon gs := hA2
    have upA : Up A := by rw [hA1']; exact canon_up _
    have upB : Up Bs := by rw [hA2']; exact canon_up _
    have coA : Col A := by rw [hA1']; exact canon_col _
    have coB : Col Bs := by rw [hA2']; exact canon_col _
    have caA : canon A = A := by rw [hA1', canon_canon]
    have caB : canon Bs = Bs := by rw [hA2', canon_canon]
    have lA := up_len upA coA
    have lB := up_len upB coB
    refine ⟨by show 2 ≤ sizeLine; decide, fun ts nts => ?_⟩
    obtain ⟨H7, hH7⟩ : ∃ H7, H7 = L2.upd H6 ts (.tup [.ref a1, .ref a2]) := ⟨_, rfl⟩
    have s7 : Same H6 H7 := by rw [hH7]; exact same_upd nts
    have ets : H7 ts = some (.tup [.ref a1, .ref a2]) := by rw [hH7]; exact upd_same
    rw [← hH7]
    have s47 : Same H4 H7 := s5.trans (s6.trans s7)
    have ea1' : H7 a1 = some (.tup (A.map V.int)) := s7 _ _ (s6 _ _ ea1)
    have ea2' : H7 a2 = some (.tup (Bs.map V.int)) := s7 _ _ ea2
    clear hA1 hA2 ea1 ea2
    -- due
    have eD7 := s47 _ _ eD
    refine ⟨.ref D, rfl, D, rfl, ⟨_, .inl (.inl eD7)⟩, fun D2 hD2 => ?_⟩
    refine lc_list (K := K) (a := D) (xs := ps.map V.ref) (g := gName 14) (tt := tYes) (vs := [14]) (fun i H8 => Same H7 H8 ∧ ∃ ds : List Addr, H8 D2 = some (.lst (ds.map V.ref)) ∧ Tups K H8 ds ((xss.map canon).take i)) ⟨same_upd hD2, [], upd_same, by rw [List.take_zero]; exact Tups.nil⟩ (fun i H8 _ z => .inl (.inl (z.1 _ _ eD7))) (fun i x H8 hi z => ⟨rfl, ?_⟩) (fun H8 z => ?_)
    · obtain ⟨s8, ds, e8, hT⟩ := z
      rw [List.getElem?_map] at hi
      obtain ⟨a, ha, rfl⟩ := Option.map_eq_some_iff.mp hi
      have hil : i < xss.length := by rw [← hA.1]; exact (List.getElem?_eq_some_iff.mp ha).1
      obtain ⟨y, hy⟩ : ∃ y, xss[i]? = some y := ⟨_, List.getElem?_eq_getElem hil⟩
      refine ⟨.ref a, rfl, a, y, rfl, .inl (.inl (.inl (s8 _ _ (s47 _ _ (hA.2 i a y ha hy).2.2)))), fun H9 p ss s9 np hss ep => ?_⟩
      have hss' : ss = canon y := hss
      subst hss'
      have z := tups_step (ys := xss.map canon) (y := canon y) hD2 s8 e8 hT (by rw [List.getElem?_map, hy]; rfl) s9 (.inl (.inl ep))
      have hl : ds.length ≤ 4 := by rw [hT.1, List.length_take, List.length_map, ← hA.1]; omega
      exact ⟨_, z.1, by rw [List.length_map]; exact small1000 (by omega), z.2⟩
    obtain ⟨s8, ds, e8, hT⟩ := z
    rw [List.length_map, hA.1, List.take_of_length_le (by rw [List.length_map]; exact Nat.le_refl _)] at hT
    refine .inl ⟨D2, _, rfl, .inl (.inl e8), fun du ndu => ?_⟩
    obtain ⟨H9, hH9⟩ : ∃ H9, H9 = L2.upd H8 du (.tup (ds.map V.ref)) := ⟨_, rfl⟩
    have s9 : Same H8 H9 := by rw [hH9]; exact same_upd ndu
    have edu : H9 du = some (.tup (ds.map V.ref)) := by rw [hH9]; exact upd_same
    rw [← hH9]
    have hT9 := hT.same s9
    have s49 : Same H4 H9 := s47.trans (s8.trans s9)
    have s79 : Same H7 H9 := s8.trans s9
    obtain ⟨Ps, hPs⟩ : ∃ Ps, Ps = xss.map canon := ⟨_, rfl⟩
    rw [← hPs] at hT9
    have coP : ∀ x ∈ Ps, x.length < 64 ∧ Col x := fun x hx => by
      rw [hPs] at hx
      obtain ⟨y, _, rfl⟩ := List.mem_map.mp hx
      exact ⟨by have := canon_len y; omega, canon_col y⟩
    have caP : Ps.map canon = Ps := by
      rw [hPs, List.map_map]
      refine List.map_congr_left fun y _ => ?_
      exact canon_canon y
    have hdl : ds.length ≤ 4 := by rw [hT9.1, hPs, List.length_map, ← hA.1]; omega
    -- made
    have el9 := s49 _ _ el4
    have er9 := s49 _ _ er4
    have eD9 := s49 _ _ eD
    refine ⟨.ref pl, rfl, .ref pr, rfl, fun f1 df1 nf1 ndf1 nef1 => ?_⟩
    refine ⟨H9, f1, df1, pl, pr, fs, gs, rfl, same_make nf1 ndf1, nf1, upd_same, .inl (.inl (.inl el9)), .inl (.inl (.inl er9)), by omega, by omega, cfs, cgs, fun H10 s10 S1 => ⟨rfl, ?_⟩⟩
    refine ⟨.ref pl, rfl, .ref pr, rfl, fun f2 df2 nf2 ndf2 nef2 => ?_⟩
    refine ⟨H10, f2, df2, pl, pr, fs, gs, rfl, same_make nf2 ndf2, nf2, upd_same, .inl (.inl (.inl (s10 _ _ el9))), .inl (.inl (.inl (s10 _ _ er9))), by omega, by omega, cfs, cgs, fun H11 s11 S2 => ⟨rfl, ?_⟩⟩
    have s911 := s10.trans s11
    refine ⟨.ref D, rfl, fun f3 df3 nf3 ndf3 nef3 => ?_⟩
    refine ⟨H11, f3, df3, D, ps, xss, rfl, same_make nf3 ndf3, nf3, upd_same, .inl (.inl (.inl (s911 _ _ eD9))), hA.imp fun a x ⟨_, _, h3⟩ => .inl (.inl (.inl (s911 _ _ (s49 _ _ h3)))), by omega, fun x hx => ⟨by have := (hB x hx).1; omega, (hB x hx).2⟩, fun H12 s12 S3 => ⟨rfl, ?_⟩⟩
    rw [← hPs] at S3
    rw [← hA1', ← hA2'] at S1 S2
    refine ⟨by show 3 ≤ sizeLine; decide, fun md nmd => ?_⟩
    have s912 : Same H9 H12 := s911.trans s12
    have el12 := s912 _ _ el9
    have er12 := s912 _ _ er9
    have eD12 := s912 _ _ eD9
    obtain ⟨p0, r0, rfl⟩ : ∃ p0 r0, ps = p0 :: r0 := by
      cases ps with
      | nil => exact absurd hps.1 (by decide)
      | cons a r => exact ⟨a, r, rfl⟩
    obtain ⟨x0, rx, rfl⟩ : ∃ x0 rx, xss = x0 :: rx := by
      cases xss with
      | nil => exact absurd hA.1 (by simp)
      | cons a r => exact ⟨a, r, rfl⟩
    obtain ⟨nD0, n30, ep0⟩ := hA.2 0 p0 x0 rfl rfl
    have ep12 := s912 _ _ (s49 _ _ ep0)
    have lx0 := (hB x0 List.mem_cons_self).1
    have nlm : pl ≠ md := ne_of_none el12 nmd
    have nrm : pr ≠ md := ne_of_none er12 nmd
    have n0m : p0 ≠ md := ne_of_none ep12 nmd
    have nDm : D ≠ md := ne_of_none eD12 nmd
    have nlD : pl ≠ D := ne_of_none el3 hD
    have nrD : pr ≠ D := ne_of_none er hD
    have nl0 : pl ≠ p0 := ne_of_none el3 n30
    have nr0 : pr ≠ p0 := ne_of_none er n30
    -- left.append(3); right.append(5); parts[0].append(7)
    obtain ⟨Ha, hHa⟩ : ∃ Ha, Ha = L2.upd H12 md (.lst [.ref f1, .ref f2, .ref f3]) := ⟨_, rfl⟩
    have sa : Same H12 Ha := by rw [hHa]; exact same_upd nmd
    have ema : Ha md = some (.lst [.ref f1, .ref f2, .ref f3]) := by rw [hHa]; exact upd_same
    rw [← hHa]
    have ela := sa _ _ el12
    have era := sa _ _ er12
    have eDa := sa _ _ eD12
    have e0a := sa _ _ ep12
    refine ⟨.ref pl, rfl, .inl ⟨rfl, _, .inl (.inl ela)⟩, pl, _, _, rfl, rfl, ela, by rw [List.length_map]; exact small1000 (by omega), ?_⟩
    have kb := KeepN.upd (H := Ha) (H' := Ha) (o := .lst (fs.map V.int ++ [.int 3])) (fun b u z _ => z) ela
    obtain ⟨Hb, hHb⟩ : ∃ Hb, Hb = L2.upd Ha pl (.lst (fs.map V.int ++ [.int 3])) := ⟨_, rfl⟩
    have erb : Hb pr = some (.lst (gs.map V.int)) := by rw [hHb, upd_ne nlr.symm]; exact era
    have eDb : Hb D = some (.lst ((p0 :: r0).map V.ref)) := by rw [hHb, upd_ne nlD.symm]; exact eDa
    have e0b : Hb p0 = some (.lst (x0.map V.int)) := by rw [hHb, upd_ne nl0.symm]; exact e0a
    have emb : Hb md = some (.lst [.ref f1, .ref f2, .ref f3]) := by rw [hHb, upd_ne nlm.symm]; exact ema
    rw [← hHb] at kb ⊢
    refine ⟨.ref pr, rfl, .inl ⟨rfl, _, .inl (.inl erb)⟩, pr, _, _, rfl, rfl, erb, by rw [List.length_map]; exact small1000 (by omega), ?_⟩
    have kc := kb.upd (o := .lst (gs.map V.int ++ [.int 5])) erb
    obtain ⟨Hc, hHc⟩ : ∃ Hc, Hc = L2.upd Hb pr (.lst (gs.map V.int ++ [.int 5])) := ⟨_, rfl⟩
    have eDc : Hc D = some (.lst ((p0 :: r0).map V.ref)) := by rw [hHc, upd_ne nrD.symm]; exact eDb
    have e0c : Hc p0 = some (.lst (x0.map V.int)) := by rw [hHc, upd_ne nr0.symm]; exact e0b
    have emc : Hc md = some (.lst [.ref f1, .ref f2, .ref f3]) := by rw [hHc, upd_ne nrm.symm]; exact emb
    rw [← hHc] at kc ⊢
    refine ⟨.ref D, rfl, D, _, 0, .ref p0, rfl, rfl, .inl (.inl eDc), atI_nat (j := 0) rfl, .inl ⟨rfl, _, .inl (.inl e0c)⟩, p0, _, _, rfl, rfl, e0c, by rw [List.length_map]; exact small1000 (by omega), ?_⟩
    have kd := kc.upd (o := .lst (x0.map V.int ++ [.int 7])) e0c
    obtain ⟨H, hHd⟩ : ∃ H, H = L2.upd Hc p0 (.lst (x0.map V.int ++ [.int 7])) := ⟨_, rfl⟩
    have em : H md = some (.lst [.ref f1, .ref f2, .ref f3]) := by rw [hHd, upd_ne n0m.symm]; exact emc
    rw [← hHd] at kd ⊢
    have nT : ∀ {xs ys : List V}, HO.tup xs ≠ HO.lst ys := fun z => by cases z
    have s9a : Same H9 Ha := s912.trans sa
    have S1 := kd.side ((S1.same (s11.trans s12)).same sa)
    have S2 := kd.side ((S2.same s12).same sa)
    have S3 := kd.jd (S3.same sa)
    have ets := kd _ _ (s9a _ _ (s79 _ _ ets)) fun xs => nT
    have ea1 := kd _ _ (s9a _ _ (s79 _ _ ea1')) fun xs => nT
    have ea2 := kd _ _ (s9a _ _ (s79 _ _ ea2')) fun xs => nT
    have edu := kd _ _ (s9a _ _ edu) fun xs => nT
    have hT := kd.tups (hT9.same s9a)
    have en : H pn = some (.lst (xs.map V.int)) := by
      have e : Ha pn = some (.lst (xs.map V.int)) := s9a _ _ (s49 _ _ (k4 _ _ e1))
      have e12 : H1 pl = none := npl
      have n1 : pn ≠ pl := ne_of_none e1 npl
      have n2 : pn ≠ pr := ne_of_none (s2 _ _ e1) npr
      have n3 : pn ≠ p0 := ne_of_none (k3 _ _ e1) n30
      rw [hHd, upd_ne n3, hHc, upd_ne n2, hHb, upd_ne n1]
      exact e
    clear kb kc kd erb eDb e0b emb eDc e0c emc ela era eDa e0a
    have qm : ∀ {H'}, Same H H' → SqL K H' md [.ref f1, .ref f2, .ref f3] := fun z => .inl (.inl (z _ _ em))
    have qs : ∀ {H'}, Same H H' → SqT K H' ts [.ref a1, .ref a2] := fun z => .inl (.inl (z _ _ ets))
    have q1 : ∀ {H'}, Same H H' → SqT K H' a1 (A.map V.int) := fun z => .inl (.inl (z _ _ ea1))
    have q2 : ∀ {H'}, Same H H' → SqT K H' a2 (Bs.map V.int) := fun z => .inl (.inl (z _ _ ea2))
    have qd : ∀ {H'}, Same H H' → SqT K H' du (ds.map V.ref) := fun z => .inl (.inl (z _ _ edu))
    -- for k in range(2)
    refine ⟨(2 : Int), rfl, by decide, by decide, ?_⟩
    refine for_range (lo := 0) (n := 2) (fun i σ H' => Same H H' ∧ ∃ y4, σ = [some (.ref sc), some (.ref pn), some (.ref pl), some (.ref pr), y4, some (.ref D), some (.ref ts), some (.ref du), some (.ref md), none, none, none, none, none, none]) ⟨Same.refl _, none, rfl⟩ (fun i σ H' hi p => ?_) (fun σ H' p => ?_)
    · obtain ⟨sm, y4, rfl⟩ := p
      obtain ⟨fi, Ci, Ti, hfi, Si⟩ : ∃ fi Ci, ClsLR K Ci ∧ [V.ref f1, V.ref f2, V.ref f3][i]? = some (.ref fi) ∧ SideAt H Ci fi A Bs := by
        match i, hi with
        | 0, _ => exact ⟨f1, _, C.t1, rfl, S1⟩
        | 1, _ => exact ⟨f2, _, C.t2, rfl, S2⟩
      obtain ⟨dx, a, b, h1, h2, h3⟩ := Si.same sm
      have z0 : V.int (0 + (i : Int)) = V.int (i : Int) := by rw [Int.zero_add]
      refine ⟨.ref md, rfl, .int (0 + i), rfl, md, _, (i : Int), .ref fi, rfl, z0, qm sm, atI_nat hfi, fi, Ci, dx, _, _, rfl, h1, Ti.cl, Ti.nL, lrF_l a b, .ref md, rfl, .int (0 + i), rfl, md, _, (i : Int), .ref fi, rfl, z0, qm sm, atI_nat hfi, fi, Ci, dx, _, _, rfl, h1, Ti.cl, Ti.nR, lrF_r a b, by show 2 ≤ sizeLine; decide, fun tq ntq => ?_⟩
      have st := same_upd (o := .tup [.ref a, .ref b]) ntq
      have sm' := sm.trans st
      refine ⟨.ref ts, rfl, tq, ts, [a, b], [a1, a2], [A, Bs], [A, Bs], rfl, rfl, .inl (.inl upd_same), qs sm', tups2 (.inl (.inl (st _ _ h2))) (.inl (.inl (st _ _ h3))), tups2 (q1 sm') (q2 sm'), _, rfl, iteNS rfl ?_⟩
      exact ⟨sm', _, rfl⟩
    obtain ⟨sm, y4, rfl⟩ := p
    -- made[2].parts != due
    obtain ⟨d3, p3, as3, h31, h32, h33⟩ := S3.same sm
    refine ⟨.ref md, rfl, md, _, 2, .ref f3, rfl, rfl, qm sm, atI_nat (j := 2) rfl, f3, _, d3, _, _, rfl, h31, C.t3.cl, C.t3.nP, pF_p p3, .ref du, rfl, p3, du, as3, ds, Ps, Ps, rfl, rfl, .inl (.inl h32), qd sm, h33, hT.same sm, _, rfl, iteNS rfl ?_⟩
    -- again: Fd(sides[0][::-1], sides[1] + sides[1])
    have ia1 : atI [V.ref a1, V.ref a2] 0 = some (.ref a1) := atI_nat (j := 0) rfl
    have ia2 : atI [V.ref a1, V.ref a2] 1 = some (.ref a2) := atI_nat (j := 1) rfl
    have dbl : ∀ xs : List Int, canon (xs ++ xs) = canon xs := fun xs => canon_eq fun k => by simp
    refine ⟨.ref ts, rfl, ts, _, 0, .ref a1, rfl, rfl, qs sm, ia1, a1, _, rfl, q1 sm, fun rv nrv => ?_⟩
    have t1 := sm.trans (same_upd (o := .tup (A.map V.int).reverse) nrv)
    refine ⟨.ref ts, rfl, ts, _, 1, .ref a2, rfl, rfl, qs t1, ia2, .ref ts, rfl, ts, _, 1, .ref a2, rfl, rfl, qs t1, ia2, a2, a2, _, _, rfl, rfl, q2 t1, q2 t1, by rw [List.length_map]; exact Nat.le_of_lt (small1000 (by omega)), fun I2 cc sc2 ecc => ?_⟩
    have t2 := t1.trans sc2
    refine fun g1 dg1 ng1 ndg1 neg1 => ⟨I2, g1, dg1, rv, cc, A.reverse, Bs ++ Bs, rfl, same_make ng1 ndg1, ng1, upd_same, .inr (Same.sqT sc2 (.inl (.inl (by rw [upd_same, List.map_reverse])))), .inr (by rw [List.map_append]; exact ecc), by rw [List.length_reverse]; omega, by rw [List.length_append]; omega, (fun k hk => coA k (List.mem_reverse.mp hk)), (fun k hk => coB k ((List.mem_append.mp hk).elim id id)), fun I3 s3' R1 => ⟨rfl, ?_⟩⟩
    have t3 := t2.trans s3'
    have cr : canon A.reverse = A := (canon_eq fun k => List.mem_reverse).trans caA
    rw [dbl, caB, cr] at R1
    -- Mvd(sides[0] + sides[0], sides[1])
    refine ⟨.ref ts, rfl, ts, _, 0, .ref a1, rfl, rfl, qs t3, ia1, .ref ts, rfl, ts, _, 0, .ref a1, rfl, rfl, qs t3, ia1, a1, a1, _, _, rfl, rfl, q1 t3, q1 t3, by rw [List.length_map]; exact Nat.le_of_lt (small1000 (by omega)), fun I4 cd sc4 ecd => ?_⟩
    have t4 := t3.trans sc4
    refine ⟨.ref ts, rfl, ts, _, 1, .ref a2, rfl, rfl, qs t4, ia2, fun g2 dg2 ng2 ndg2 neg2 => ⟨I4, g2, dg2, cd, a2, A ++ A, Bs, rfl, same_make ng2 ndg2, ng2, upd_same, .inr (by rw [List.map_append]; exact ecd), .inr (q2 t4), by rw [List.length_append]; omega, by omega, (fun k hk => coA k ((List.mem_append.mp hk).elim id id)), coB, fun I5 s5' R2 => ⟨rfl, ?_⟩⟩⟩
    have t5 := t4.trans s5'
    rw [dbl, caB, caA] at R2
    -- Jd(list(due))
    have hTs : AllAt (Seq K) H ds Ps := AllAt.imp (R := fun H a x => SqT K H a (x.map V.int)) hT fun a x h => .inr h
    have hTs' : ∀ {H'}, Same H H' → AllAt (Seq K) H' ds Ps := fun z => hTs.imp fun a x h => h.same z
    refine ⟨.ref du, rfl, du, _, rfl, .inr (qd t5), fun ll nll => ?_⟩
    have t6 := t5.trans (same_upd (o := .lst (ds.map V.ref)) nll)
    refine fun g3 dg3 ng3 ndg3 neg3 => ⟨_, g3, dg3, ll, ds, Ps, rfl, same_make ng3 ndg3, ng3, upd_same, .inl (.inl (.inl upd_same)), hTs' t6, by omega, coP, fun I7 s7' R3 => ⟨rfl, ?_⟩⟩
    have t7 := t6.trans s7'
    rw [caP] at R3
    refine ⟨by show 3 ≤ sizeLine; decide, fun ag nag => ?_⟩
    have u7 := same_upd (o := .lst [.ref g1, .ref g2, .ref g3]) nag
    obtain ⟨J, hJ⟩ : ∃ J, J = L2.upd I7 ag (.lst [.ref g1, .ref g2, .ref g3]) := ⟨_, rfl⟩
    have eag : J ag = some (.lst [.ref g1, .ref g2, .ref g3]) := by rw [hJ]; exact upd_same
    rw [← hJ] at u7 ⊢
    have tJ : Same H J := t7.trans u7
    have S1 := S1.same tJ
    have S2 := S2.same tJ
    have S3 := S3.same tJ
    have R1 := ((R1.same (sc4.trans s5')).same ((same_upd (o := .lst (ds.map V.ref)) nll).trans s7')).same u7
    have R2 := (R2.same ((same_upd (o := .lst (ds.map V.ref)) nll).trans s7')).same u7
    have R3 := R3.same u7
    -- for i, for j
    refine ⟨(3 : Int), rfl, by decide, by decide, ?_⟩
    refine for_range (lo := 0) (n := 3) (fun i σ H' => Same J H' ∧ ∃ y10 y11, σ = [some (.ref sc), some (.ref pn), some (.ref pl), some (.ref pr), y4, some (.ref D), some (.ref ts), some (.ref du), some (.ref md), some (.ref ag), y10, y11, none, none, none]) ⟨Same.refl _, none, none, rfl⟩ (fun i σ H' hi p => ?_) (fun σ H' p => ?_)
    · obtain ⟨sk, y10, y11, rfl⟩ := p
      refine ⟨(3 : Int), rfl, by decide, by decide, ?_⟩
      refine for_range (lo := 0) (n := 3) (fun j σ H' => Same J H' ∧ ∃ y11, σ = [some (.ref sc), some (.ref pn), some (.ref pl), some (.ref pr), y4, some (.ref D), some (.ref ts), some (.ref du), some (.ref md), some (.ref ag), some (.int (0 + i)), y11, none, none, none]) ⟨sk, _, rfl⟩ (fun j σ H' hj p => ?_) (fun σ H' p => ?_)
      · obtain ⟨sk, y11, rfl⟩ := p
        obtain ⟨x, hx⟩ : ∃ x, [V.ref f1, V.ref f2, V.ref f3][i]? = some x := ⟨_, List.getElem?_eq_getElem hi⟩
        obtain ⟨y, hy⟩ : ∃ y, [V.ref g1, V.ref g2, V.ref g3][j]? = some y := ⟨_, List.getElem?_eq_getElem hj⟩
        have z0 : V.int (0 + (i : Int)) = V.int (i : Int) := by rw [Int.zero_add]
        have z1 : V.int (0 + (j : Int)) = V.int (j : Int) := by rw [Int.zero_add]
        refine ⟨.ref md, rfl, .int (0 + i), rfl, md, _, (i : Int), x, rfl, z0, qm (tJ.trans sk), atI_nat hx, .ref ag, rfl, .int (0 + j), rfl, ag, _, (j : Int), y, rfl, z1, .inl (.inl (sk _ _ eag)), atI_nat hy, ?_⟩
        refine eq_ij C (S1.same sk) (S2.same sk) (S3.same sk) (R1.same sk) (R2.same sk) (R3.same sk) hx hy ?_
        refine ⟨.int (0 + i), rfl, .int (0 + j), rfl, rfl, rfl, _, rfl, iteNS ?_ ?_⟩
        · congr 1
          refine decide_eq_decide.mpr ⟨fun z => by rw [z], fun z => ?_⟩
          have := V.int.inj z
          omega
        · exact ⟨sk, _, rfl⟩
      · obtain ⟨sk, y11, rfl⟩ := p
        exact ⟨sk, _, _, rfl⟩
    obtain ⟨sk, y10, y11, rfl⟩ := p
    have tK : Same H H' := tJ.trans sk
    have S1 := S1.same sk
    have S2 := S2.same sk
    have S3 := S3.same sk
    have qg : SqL K H' pn (xs.map V.int) := .inl (.inl (tK _ _ en))
    clear R1 R2 R3 sk
    -- other, bent
    have ho0 := Int.emod_nonneg n7 (show (10 : Int) ≠ 0 by decide)
    have ho1 := Int.emod_lt_of_pos n7 (show (0 : Int) < 10 by decide)
    refine ⟨.ref pn, rfl, pn, _, 7, .int n7, rfl, rfl, qg, atI_nat (j := 7) g7, n7, 10, rfl, rfl, (by show (0 : Int) < 10; decide), ?_⟩
    refine ⟨.ref ts, rfl, ts, _, 1, .ref a2, rfl, rfl, qs tK, ia2, a2, rfl, ⟨_, q2 tK⟩, fun Db hDb => ?_⟩
    refine lc_filtT (fun k => !decide (k = (n7 % 10))) hDb (q2 tK) (by omega) (fun _ => rfl) (fun _ => rfl) (fun x H2' Q2 hx s2' q2' => ?_) (fun Hf sf ef => ?_)
    · refine ⟨.int x, rfl, .int (n7 % 10), rfl, rfl, _, rfl, ?_⟩
      have e : decide (V.int x = V.int (n7 % 10)) = decide (x = (n7 % 10)) := decide_eq_decide.mpr ⟨fun z => V.int.inj z, fun z => by rw [z]⟩
      rw [e]
      exact q2' _ (Same.refl _)
    refine .inl ⟨Db, _, rfl, .inl (.inl ef), fun b1 nb1 => ?_⟩
    have uf := same_upd (o := .tup ((Bs.filter fun k => !decide (k = (n7 % 10))).map V.int)) nb1
    have tF := sf.trans uf
    have hF : ∀ k, k ∈ (Bs.filter fun k => !decide (k = (n7 % 10))) ↔ k ∈ Bs ∧ k ≠ (n7 % 10) := fun k => by rw [List.mem_filter, Bool.not_eq_true', decide_eq_false_iff_not]
    -- if other not in sides[1]: bent = sides[1] + (other,)
    refine ⟨fun σ H3 => ∃ (bt : Addr) (bs : List Int), σ = [some (.ref sc), some (.ref pn), some (.ref pl), some (.ref pr), y4, some (.ref D), some (.ref ts), some (.ref du), some (.ref md), some (.ref ag), y10, y11, some (.int (n7 % 10)), some (.ref bt), none] ∧ Same H' H3 ∧ SqT K H3 bt (bs.map V.int) ∧ bs.length ≤ 11 ∧ Col bs ∧ canon bs ≠ Bs, ?_, ?_⟩
    · refine ⟨.int (n7 % 10), rfl, .ref ts, rfl, ts, _, 1, .ref a2, rfl, rfl, qs (tK.trans tF), ia2, a2, _, rfl, .inr (q2 (tK.trans tF)), rfl, flat_ints _, _, rfl, ite2 (fun z => ?_) (fun z => ?_)⟩
      · have hn : (n7 % 10) ∉ Bs := by
          have e : inV (.int (n7 % 10)) (Bs.map V.int) = decide ((n7 % 10) ∈ Bs) := inV_int _
          have z' : (!inV (.int (n7 % 10)) (Bs.map V.int)) = true := z
          rw [e] at z'
          simpa using z'
        refine ⟨.ref ts, rfl, ts, _, 1, .ref a2, rfl, rfl, qs (tK.trans tF), ia2, .int (n7 % 10), rfl, by show 1 ≤ sizeLine; decide, fun o1 no1 => ?_⟩
        have uo := same_upd (o := .tup [.int (n7 % 10)]) no1
        refine ⟨a2, o1, _, _, rfl, rfl, q2 (tK.trans (tF.trans uo)), .inl (.inl upd_same), by rw [List.length_map]; exact Nat.le_of_lt (small1000 (by simp; omega)), fun H4 p4 s4' e4 => ?_⟩
        refine ⟨p4, Bs ++ [(n7 % 10)], rfl, tF.trans (uo.trans s4'), by rw [List.map_append]; exact e4, by rw [List.length_append, List.length_singleton]; omega, fun k hk => ?_, fun e => hn ?_⟩
        · rcases List.mem_append.mp hk with h | h
          · exact coB k h
          · rw [List.mem_singleton.mp h]
            exact ⟨ho0, ho1⟩
        · rw [← e, canon_mem fun k hk => ?_]
          · exact List.mem_append_right _ (List.mem_singleton.mpr rfl)
          · rcases List.mem_append.mp hk with h | h
            · exact coB k h
            · rw [List.mem_singleton.mp h]
              exact ⟨ho0, ho1⟩
      · have hy : (n7 % 10) ∈ Bs := by
          have e : inV (.int (n7 % 10)) (Bs.map V.int) = decide ((n7 % 10) ∈ Bs) := inV_int _
          have z' : ¬ (!inV (.int (n7 % 10)) (Bs.map V.int)) = true := z
          rw [e] at z'
          simpa using z'
        have cF : Col (Bs.filter fun k => !decide (k = (n7 % 10))) := fun k hk => coB k ((hF k).1 hk).1
        refine ⟨b1, _, rfl, tF, .inl (.inl upd_same), Nat.le_trans (List.length_filter_le _ _) (by omega), cF, fun e => ?_⟩
        have h1 : (n7 % 10) ∈ canon (Bs.filter fun k => !decide (k = (n7 % 10))) := by rw [e]; exact hy
        rw [canon_mem cF] at h1
        exact ((hF (n7 % 10)).1 h1).2 rfl
    rintro σ H3 ⟨bt, bs, rfl, sb, eb, lb, cb, nb⟩
    have t3 := tK.trans sb
    have S1 := S1.same sb
    have S2 := S2.same sb
    have S3 := S3.same sb
    -- made[0] == Fd(sides[0], bent)
    have im0 : atI [V.ref f1, V.ref f2, V.ref f3] 0 = some (.ref f1) := atI_nat (j := 0) rfl
    have im1 : atI [V.ref f1, V.ref f2, V.ref f3] 1 = some (.ref f2) := atI_nat (j := 1) rfl
    have im2 : atI [V.ref f1, V.ref f2, V.ref f3] 2 = some (.ref f3) := atI_nat (j := 2) rfl
    refine ⟨.ref md, rfl, md, _, 0, .ref f1, rfl, rfl, qm t3, im0, .ref ts, rfl, ts, _, 0, .ref a1, rfl, rfl, qs t3, ia1, .ref bt, rfl, fun o1 d1 no1 nd1 ne1 => ?_⟩
    refine ⟨H3, o1, d1, a1, bt, A, bs, rfl, same_make no1 nd1, no1, upd_same, .inr (q1 t3), .inr eb, by omega, by omega, coA, cb, fun H4 s4' R => ⟨rfl, .inl (.inl (eqS C.t1 (S1.same s4') R ?_))⟩⟩
    rw [decide_eq_false (fun e => nb e.symm : ¬ Bs = canon bs), Bool.and_false]
    refine ⟨_, rfl, iteF ?_⟩
    have t4 := t3.trans s4'
    have eb := Same.sqT s4' eb
    have S1 := S1.same s4'
    have S2 := S2.same s4'
    have S3 := S3.same s4'
    clear R
    -- made[1] == Mvd(sides[0], bent)
    refine ⟨.ref md, rfl, md, _, 1, .ref f2, rfl, rfl, qm t4, im1, .ref ts, rfl, ts, _, 0, .ref a1, rfl, rfl, qs t4, ia1, .ref bt, rfl, fun o2 d2 no2 nd2 ne2 => ?_⟩
    refine ⟨H4, o2, d2, a1, bt, A, bs, rfl, same_make no2 nd2, no2, upd_same, .inr (q1 t4), .inr eb, by omega, by omega, coA, cb, fun H5 s5' R => ⟨rfl, .inl (.inr (eqS C.t2 (S2.same s5') R ?_))⟩⟩
    rw [decide_eq_false (fun e => nb e.symm : ¬ Bs = canon bs), Bool.and_false]
    refine ⟨_, rfl, iteF ?_⟩
    have t5 := t4.trans s5'
    have eb := Same.sqT s5' eb
    have S1 := S1.same s5'
    have S3 := S3.same s5'
    clear R
    -- made[0] == Fd(bent, bent + sides[0]) and bent != sides[0]
    refine ⟨.ref md, rfl, md, _, 0, .ref f1, rfl, rfl, qm t5, im0, .ref bt, rfl, .ref bt, rfl, .ref ts, rfl, ts, _, 0, .ref a1, rfl, rfl, qs t5, ia1, bt, a1, _, _, rfl, rfl, eb, q1 t5, by rw [List.length_map, List.length_map]; exact Nat.le_of_lt (small1000 (by omega)), fun H6 c6 s6' e6 => ?_⟩
    have t6 := t5.trans s6'
    refine fun o3 d3' no3 nd3 ne3 => ⟨H6, o3, d3', bt, c6, bs, bs ++ A, rfl, same_make no3 nd3, no3, upd_same, .inr (Same.sqT s6' eb), .inr (by rw [List.map_append]; exact e6), by omega, by rw [List.length_append]; omega, cb, (fun k hk => (List.mem_append.mp hk).elim (cb k) (coA k)), fun H7 s7' R => ⟨rfl, .inl (.inl (eqS C.t1 (S1.same (s6'.trans s7')) R ?_))⟩⟩
    have hno : (decide (A = canon bs) && decide (Bs = canon (bs ++ A))) = false := by
      by_cases hAb : A = canon bs
      · have e1 : canon (bs ++ A) = canon bs := canon_eq fun k => by
          rw [List.mem_append, hAb, canon_mem cb]
          exact ⟨fun h => h.elim id id, .inl⟩
        rw [e1, decide_eq_false (fun e => nb e.symm : ¬ Bs = canon bs), Bool.and_false]
      · rw [decide_eq_false hAb, Bool.false_and]
    rw [hno]
    refine ⟨_, rfl, iteF ?_⟩
    refine iteF ?_
    have t7 := t6.trans s7'
    have S1 := S1.same (s6'.trans s7')
    have S3 := S3.same (s6'.trans s7')
    clear R
    -- made[2] == Jd(due + ((other,),))
    refine ⟨.ref md, rfl, md, _, 2, .ref f3, rfl, rfl, qm t7, im2, .ref du, rfl, .int (n7 % 10), rfl, by show 1 ≤ sizeLine; decide, fun o4 no4 => ?_⟩
    have u8 := same_upd (o := .tup [.int (n7 % 10)]) no4
    have t8 := t7.trans u8
    refine ⟨by show 1 ≤ sizeLine; decide, fun o5 no5 => ?_⟩
    have u9 := same_upd (o := .tup [.ref o4]) no5
    have t9 := t8.trans u9
    refine ⟨du, o5, _, _, rfl, rfl, qd t9, .inl (.inl upd_same), by rw [List.length_map]; exact Nat.le_of_lt (small1000 (by simp; omega)), fun H8 c8 s8' e8' => ?_⟩
    have t10 := t9.trans s8'
    refine fun o6 d6 no6 nd6 ne6 => ⟨H8, o6, d6, c8, ds ++ [o4], Ps ++ [[(n7 % 10)]], rfl, same_make no6 nd6, no6, upd_same, .inr (by rw [List.map_append]; exact e8'), AllAt.snoc (hTs' t10) (.inr (.inl (.inl (s8' _ _ (u9 _ _ upd_same))))), by rw [List.length_append, List.length_singleton]; omega, fun x hx => ?_, fun H9 s9' R => ⟨rfl, .inr (eqJ C.t3 (S3.same (u8.trans (u9.trans (s8'.trans s9')))) R ?_)⟩⟩
    · rcases List.mem_append.mp hx with h | h
      · exact coP x h
      · rw [List.mem_singleton.mp h]
        exact ⟨by show 1 < 64; decide, fun k hk => by rw [List.mem_singleton.mp hk]; exact ⟨ho0, ho1⟩⟩
    have hno2 : ¬ Ps = (Ps ++ [[(n7 % 10)]]).map canon := fun e => by
      have := congrArg List.length e
      rw [List.length_map, List.length_append, List.length_singleton] at this
      omega
    rw [decide_eq_false hno2]
    refine ⟨_, rfl, iteF ?_⟩
    have t11 := t10.trans s9'
    have S1 := S1.same (u8.trans (u9.trans (s8'.trans s9')))
    have S3 := S3.same (u8.trans (u9.trans (s8'.trans s9')))
    clear R
    -- made[2] == due, made[0] == sides
    refine ⟨.ref md, rfl, md, _, 2, .ref f3, rfl, rfl, qm t11, im2, .ref du, rfl, .inr (eqJo S3 (ty_tup (t11 _ _ edu)) C.o3t ?_)⟩
    refine ⟨_, rfl, iteF ?_⟩
    refine ⟨.ref md, rfl, md, _, 0, .ref f1, rfl, rfl, qm t11, im0, .ref ts, rfl, .inl (.inl (eqSo S1 (ty_tup (t11 _ _ ets)) C.o1t ?_))⟩
    refine ⟨_, rfl, iteF ?_⟩
    -- (made[2] == Jd(due[::-1])) == (due == due[::-1])
    refine ⟨.ref md, rfl, md, _, 2, .ref f3, rfl, rfl, qm t11, im2, .ref du, rfl, du, _, rfl, qd t11, fun r1 nr1 => ?_⟩
    have t12 := t11.trans (same_upd (o := .tup (ds.map V.ref).reverse) nr1)
    refine fun o7 d7 no7 nd7 ne7 => ⟨_, o7, d7, r1, ds.reverse, Ps.reverse, rfl, same_make no7 nd7, no7, upd_same, .inr (.inl (.inl (by rw [upd_same, List.map_reverse]))), (hTs' t12).rev, by rw [List.length_reverse]; omega, fun x hx => coP x (List.mem_reverse.mp hx), fun H10 s10' R => ⟨rfl, .inr (eqJ C.t3 (S3.same ((same_upd nr1).trans s10')) R ?_)⟩⟩
    have t13 := t12.trans s10'
    refine ⟨.ref du, rfl, .ref du, rfl, du, _, rfl, qd t13, fun r2 nr2 => ?_⟩
    have t14 := t13.trans (same_upd (o := .tup (ds.map V.ref).reverse) nr2)
    have hTr : Tups K H ds.reverse Ps.reverse := AllAt.rev (R := fun H a x => SqT K H a (x.map V.int)) hT
    refine ⟨du, r2, ds, ds.reverse, Ps, Ps.reverse, rfl, rfl, qd t14, .inl (.inl (by rw [upd_same, List.map_reverse])), hT.same t14, hTr.same t14, rfl, ?_⟩
    have e : Ps.reverse.map canon = Ps.reverse := by rw [List.map_reverse, caP]
    rw [e, decide_eq_true rfl]
    exact q _
end
end K01

namespace K01
open PySem PySem.Spec PyProof.Rows L2 FsSet

theorem kit_self (K : PySem.W.Frag) (C : Addr) : PySem.W.kitOne K (.ref C) (.ref C) = some true := by
  unfold PySem.W.kitOne
  rw [if_pos (beq_self_eq_true _)]
theorem other_mk {K : PySem.W.Frag} {C : Addr} {t : Value} (hs : PySem.W.subIn K t (.ref C) = some false) (hc : PySem.W.isClsIn K C = true) (ht : PySem.W.typeIn K (.ref C) = some (.type "type")) (hm : PySem.W.mroIn K C (.ref C) = some true) : Other K C t := by
  refine ⟨?_, ?_⟩
  · unfold PySem.W.kitOne
    have hne : ¬ (t == Value.ref C) = true := fun e => by
      have e' : t = .ref C := eq_of_beq e
      subst e'
      have h2 : PySem.W.mroIn K C (.ref C) = some false := hs
      rw [hm] at h2
      cases h2
    rw [if_neg hne]
    show (if ((PySem.W.clsIn K C).isSome && PySem.W.typeIn K (.ref C) == some (.type "type")) = true then PySem.W.subIn K t (.ref C) else none) = some false
    rw [ht, show (PySem.W.clsIn K C).isSome = true from hc, if_pos (by rw [beq_self_eq_true]; rfl)]
    exact hs
  · unfold PySem.W.notFirst
    rw [hs, beq_self_eq_true, Bool.or_true]
theorem all_mk {l : PySem.W.OpenLaw} {w : World} {K : PySem.W.Frag} {h : Heap} {mg : Str → Option Value} {fa fnumbers flist fset fas_set flaw Cfd ffdI ffdE Cmvd fmvdI fmvdE Cjd fjdI fjdE : Addr} (X : K.In h) (G0 : h.Ns mainGlobals mg) (hfa : mg "law" = some (.ref fa))
    {odnumbers odlist odset odas_set odlaw odfdI odfdE odmvdI odmvdE odjdI odjdE annumbers anlist anset anas_set anlaw anfdI anfdE anmvdI anmvdE anjdI anjdE : Option Addr} {slnumbers sllist slset slas_set sllaw slfdI slfdE slmvdI slmvdE sljdI sljdE : Array (Option Value)} {ocnumbers oclist ocset ocas_set oclaw ocfdI ocfdE ocmvdI ocmvdE ocjdI ocjdE kVnumbers kVlist kVset kVas_set kVlaw kVfdI kVfdE kVmvdI kVmvdE kVjdI kVjdE dcnumbers dclist dcset dcas_set dclaw dcfdI dcfdE dcmvdI dcmvdE dcjdI dcjdE pmnumbers pmlist pmset pmas_set pmlaw pmfdI pmfdE pmmvdI pmmvdE pmjdI pmjdE cdnumbers cdlist cdset cdas_set cdlaw cdfdI cdfdE cdmvdI cdmvdE cdjdI cdjdE ctnumbers ctlist ctset ctas_set ctlaw ctfdI ctfdE ctmvdI ctmvdE ctjdI ctjdE : Value}
    (anumbers : PySem.W.nsIn K mainGlobals "_law_numbers" = some (some (.ref fnumbers)))
    (lnumbers : K.lookup fnumbers = some ⟨ocnumbers, odnumbers, .func (PySem.W.fnOf "_law_numbers" "_law_numbers" (defArgs sNumbers) (defBody sNumbers) (defScope sNumbers) .none kVnumbers dcnumbers pmnumbers annumbers cdnumbers ctnumbers), slnumbers⟩)
    (cnumbers : PySem.W.codeIn K cdnumbers "_law_numbers" = true)
    (knumbers : PySem.W.keepIn K (.ref fnumbers) = true)
    (alist : PySem.W.nsIn K mainGlobals "_law_list" = some (some (.ref flist)))
    (llist : K.lookup flist = some ⟨oclist, odlist, .func (PySem.W.fnOf "_law_list" "_law_list" (defArgs sList) (defBody sList) (defScope sList) .none kVlist dclist pmlist anlist cdlist ctlist), sllist⟩)
    (clist : PySem.W.codeIn K cdlist "_law_list" = true)
    (klist : PySem.W.keepIn K (.ref flist) = true)
    (aset : PySem.W.nsIn K mainGlobals "_law_set" = some (some (.ref fset)))
    (lset : K.lookup fset = some ⟨ocset, odset, .func (PySem.W.fnOf "_law_set" "_law_set" (defArgs sSet) (defBody sSet) (defScope sSet) .none kVset dcset pmset anset cdset ctset), slset⟩)
    (cset : PySem.W.codeIn K cdset "_law_set" = true)
    (kset : PySem.W.keepIn K (.ref fset) = true)
    (aas_set : PySem.W.nsIn K mainGlobals "as_set" = some (some (.ref fas_set)))
    (las_set : K.lookup fas_set = some ⟨ocas_set, odas_set, .func (PySem.W.fnOf "as_set" "as_set" (defArgs sAsSet) (defBody sAsSet) (defScope sAsSet) .none kVas_set dcas_set pmas_set anas_set cdas_set ctas_set), slas_set⟩)
    (cas_set : PySem.W.codeIn K cdas_set "as_set" = true)
    (kas_set : PySem.W.keepIn K (.ref fas_set) = true)
    (alaw : PySem.W.nsIn K mainGlobals "law" = some (some (.ref flaw)))
    (llaw : K.lookup flaw = some ⟨oclaw, odlaw, .func (PySem.W.fnOf "law" "law" (defArgs sLaw) (defBody sLaw) (defScope sLaw) .none kVlaw dclaw pmlaw anlaw cdlaw ctlaw), sllaw⟩)
    (claw : PySem.W.codeIn K cdlaw "law" = true)
    (klaw : PySem.W.keepIn K (.ref flaw) = true)
    (aCfd : PySem.W.nsIn K mainGlobals "Fd" = some (some (.ref Cfd)))
    (afdI : PySem.W.findIn K (.ref Cfd) "__init__" = some (some (.ref ffdI)))
    (ifdI : PySem.W.isFn K (.ref ffdI) = true)
    (lfdI : K.lookup ffdI = some ⟨ocfdI, odfdI, .func (PySem.W.fnOf "__init__" "Fd.__init__" (defArgs sFdI) (defBody sFdI) (defScope sFdI) .none kVfdI dcfdI pmfdI anfdI cdfdI ctfdI), slfdI⟩)
    (cfdI : PySem.W.codeIn K cdfdI "Fd.__init__" = true)
    (kfdI : PySem.W.keepIn K (.ref ffdI) = true)
    (afdE : PySem.W.findIn K (.ref Cfd) "__eq__" = some (some (.ref ffdE)))
    (ifdE : PySem.W.isFn K (.ref ffdE) = true)
    (lfdE : K.lookup ffdE = some ⟨ocfdE, odfdE, .func (PySem.W.fnOf "__eq__" "Fd.__eq__" (defArgs sFdE) (defBody sFdE) (defScope sFdE) .none kVfdE dcfdE pmfdE anfdE cdfdE ctfdE), slfdE⟩)
    (cfdE : PySem.W.codeIn K cdfdE "Fd.__eq__" = true)
    (kfdE : PySem.W.keepIn K (.ref ffdE) = true)
    (pgfd : PySem.W.plainGet K Cfd Str.empty = true)
    (hdfd : PySem.W.hasDictIn K Cfd = true)
    (pofd : PySem.W.plainOver K Cfd = true)
    (safd : PySem.W.findIn K (.ref Cfd) "__setattr__" = some (some (.builtin "object.__setattr__")))
    (mkfd : PySem.W.makesIn K Cfd = true)
    (kcfd : PySem.W.keepIn K (.ref Cfd) = true)
    (hafd : PySem.W.findIn K (.ref Cfd) "__class__" = some (some (.builtin "object.__class__")))
    (hmfd : PySem.W.mroIn K Cfd (.type "object") = some true)
    (icfd : PySem.W.isClsIn K Cfd = true)
    (tcfd : PySem.W.typeIn K (.ref Cfd) = some (.type "type"))
    (msfd : PySem.W.mroIn K Cfd (.ref Cfd) = some true)
    (nfdleft : PySem.W.findIn K (.ref Cfd) "left" = some none)
    (nfdright : PySem.W.findIn K (.ref Cfd) "right" = some none)
    (aCmvd : PySem.W.nsIn K mainGlobals "Mvd" = some (some (.ref Cmvd)))
    (amvdI : PySem.W.findIn K (.ref Cmvd) "__init__" = some (some (.ref fmvdI)))
    (imvdI : PySem.W.isFn K (.ref fmvdI) = true)
    (lmvdI : K.lookup fmvdI = some ⟨ocmvdI, odmvdI, .func (PySem.W.fnOf "__init__" "Mvd.__init__" (defArgs sMvI) (defBody sMvI) (defScope sMvI) .none kVmvdI dcmvdI pmmvdI anmvdI cdmvdI ctmvdI), slmvdI⟩)
    (cmvdI : PySem.W.codeIn K cdmvdI "Mvd.__init__" = true)
    (kmvdI : PySem.W.keepIn K (.ref fmvdI) = true)
    (amvdE : PySem.W.findIn K (.ref Cmvd) "__eq__" = some (some (.ref fmvdE)))
    (imvdE : PySem.W.isFn K (.ref fmvdE) = true)
    (lmvdE : K.lookup fmvdE = some ⟨ocmvdE, odmvdE, .func (PySem.W.fnOf "__eq__" "Mvd.__eq__" (defArgs sMvE) (defBody sMvE) (defScope sMvE) .none kVmvdE dcmvdE pmmvdE anmvdE cdmvdE ctmvdE), slmvdE⟩)
    (cmvdE : PySem.W.codeIn K cdmvdE "Mvd.__eq__" = true)
    (kmvdE : PySem.W.keepIn K (.ref fmvdE) = true)
    (pgmvd : PySem.W.plainGet K Cmvd Str.empty = true)
    (hdmvd : PySem.W.hasDictIn K Cmvd = true)
    (pomvd : PySem.W.plainOver K Cmvd = true)
    (samvd : PySem.W.findIn K (.ref Cmvd) "__setattr__" = some (some (.builtin "object.__setattr__")))
    (mkmvd : PySem.W.makesIn K Cmvd = true)
    (kcmvd : PySem.W.keepIn K (.ref Cmvd) = true)
    (hamvd : PySem.W.findIn K (.ref Cmvd) "__class__" = some (some (.builtin "object.__class__")))
    (hmmvd : PySem.W.mroIn K Cmvd (.type "object") = some true)
    (icmvd : PySem.W.isClsIn K Cmvd = true)
    (tcmvd : PySem.W.typeIn K (.ref Cmvd) = some (.type "type"))
    (msmvd : PySem.W.mroIn K Cmvd (.ref Cmvd) = some true)
    (nmvdleft : PySem.W.findIn K (.ref Cmvd) "left" = some none)
    (nmvdright : PySem.W.findIn K (.ref Cmvd) "right" = some none)
    (aCjd : PySem.W.nsIn K mainGlobals "Jd" = some (some (.ref Cjd)))
    (ajdI : PySem.W.findIn K (.ref Cjd) "__init__" = some (some (.ref fjdI)))
    (ijdI : PySem.W.isFn K (.ref fjdI) = true)
    (ljdI : K.lookup fjdI = some ⟨ocjdI, odjdI, .func (PySem.W.fnOf "__init__" "Jd.__init__" (defArgs sJdI) (defBody sJdI) (defScope sJdI) .none kVjdI dcjdI pmjdI anjdI cdjdI ctjdI), sljdI⟩)
    (cjdI : PySem.W.codeIn K cdjdI "Jd.__init__" = true)
    (kjdI : PySem.W.keepIn K (.ref fjdI) = true)
    (ajdE : PySem.W.findIn K (.ref Cjd) "__eq__" = some (some (.ref fjdE)))
    (ijdE : PySem.W.isFn K (.ref fjdE) = true)
    (ljdE : K.lookup fjdE = some ⟨ocjdE, odjdE, .func (PySem.W.fnOf "__eq__" "Jd.__eq__" (defArgs sJdE) (defBody sJdE) (defScope sJdE) .none kVjdE dcjdE pmjdE anjdE cdjdE ctjdE), sljdE⟩)
    (cjdE : PySem.W.codeIn K cdjdE "Jd.__eq__" = true)
    (kjdE : PySem.W.keepIn K (.ref fjdE) = true)
    (pgjd : PySem.W.plainGet K Cjd Str.empty = true)
    (hdjd : PySem.W.hasDictIn K Cjd = true)
    (pojd : PySem.W.plainOver K Cjd = true)
    (sajd : PySem.W.findIn K (.ref Cjd) "__setattr__" = some (some (.builtin "object.__setattr__")))
    (mkjd : PySem.W.makesIn K Cjd = true)
    (kcjd : PySem.W.keepIn K (.ref Cjd) = true)
    (hajd : PySem.W.findIn K (.ref Cjd) "__class__" = some (some (.builtin "object.__class__")))
    (hmjd : PySem.W.mroIn K Cjd (.type "object") = some true)
    (icjd : PySem.W.isClsIn K Cjd = true)
    (tcjd : PySem.W.typeIn K (.ref Cjd) = some (.type "type"))
    (msjd : PySem.W.mroIn K Cjd (.ref Cjd) = some true)
    (njdparts : PySem.W.findIn K (.ref Cjd) "parts" = some none)
    (hn : PySem.W.specialIn K (.builtin "object.__class__") "__get__" = some (some (.builtin "getset_descriptor.__get__")))
    (htk : PySem.W.takesIn K (.builtin "object.__class__") = some true)
    (o12 : PySem.W.subIn K (.ref Cmvd) (.ref Cfd) = some false)
    (o13 : PySem.W.subIn K (.ref Cjd) (.ref Cfd) = some false)
    (o1t : PySem.W.subIn K (.type "tuple") (.ref Cfd) = some false)
    (o21 : PySem.W.subIn K (.ref Cfd) (.ref Cmvd) = some false)
    (o23 : PySem.W.subIn K (.ref Cjd) (.ref Cmvd) = some false)
    (o31 : PySem.W.subIn K (.ref Cfd) (.ref Cjd) = some false)
    (o32 : PySem.W.subIn K (.ref Cmvd) (.ref Cjd) = some false)
    (o3t : PySem.W.subIn K (.type "tuple") (.ref Cjd) = some false)
    (zlen : PySem.W.nsIn K mainGlobals "len" = some none)
    (zrange : PySem.W.nsIn K mainGlobals "range" = some none)
    (ztuple : PySem.W.nsIn K mainGlobals "tuple" = some none)
    (zsorted : PySem.W.nsIn K mainGlobals "sorted" = some none)
    (zset : PySem.W.nsIn K mainGlobals "set" = some none)
    (zlist : PySem.W.nsIn K mainGlobals "list" = some none)
    (zisinstance : PySem.W.nsIn K mainGlobals "isinstance" = some none) :
    ∃ fd : FuncData, (∀ (s : Shared) (v : Value), BindsTo s fd ⟨[v], []⟩ [("script", v)]) ∧ ∀ base : Heap, K.In base → base.Ns mainGlobals mg → FnOk l.prog w K mg base CX0 4 fa fd ["script"] (spLaw K) := by
  have e := hfa.symm.trans (PySem.W.mg_of X G0 alaw)
  cases e
  have Fnumbers := fun_mk (st := sNumbers) lnumbers cnumbers knumbers
  have bnumbers := Fnumbers.binds (ps := ["script", "count"]) fun _ _ _ _ _ _ us hl => match us, hl with | [_, _], _ => rfl
  have Flist := fun_mk (st := sList) llist clist klist
  have blist := Flist.binds (ps := ["number"]) fun _ _ _ _ _ _ us hl => match us, hl with | [_], _ => rfl
  have Fset := fun_mk (st := sSet) lset cset kset
  have bset := Fset.binds (ps := ["columns"]) fun _ _ _ _ _ _ us hl => match us, hl with | [_], _ => rfl
  have Fas_set := fun_mk (st := sAsSet) las_set cas_set kas_set
  have bas_set := Fas_set.binds (ps := ["columns"]) fun _ _ _ _ _ _ us hl => match us, hl with | [_], _ => rfl
  have Flaw := fun_mk (st := sLaw) llaw claw klaw
  have FfdI := fun_mk (st := sFdI) lfdI cfdI kfdI
  have bfdI := FfdI.binds (ps := ["self", "left", "right"]) fun _ _ _ _ _ _ us hl => match us, hl with | [_, _, _], _ => rfl
  have FfdE := fun_mk (st := sFdE) lfdE cfdE kfdE
  have bfdE := FfdE.binds (ps := ["self", "other"]) fun _ _ _ _ _ _ us hl => match us, hl with | [_, _], _ => rfl
  have Tfd : ClsLR K Cfd := ⟨⟨⟨pgfd, hdfd, pofd, safd⟩, hafd, hn, htk, hmfd, kit_self K _⟩, nfdleft, nfdright⟩
  have gfd := PySem.W.mg_of X G0 aCfd
  have FmvdI := fun_mk (st := sMvI) lmvdI cmvdI kmvdI
  have bmvdI := FmvdI.binds (ps := ["self", "left", "right"]) fun _ _ _ _ _ _ us hl => match us, hl with | [_, _, _], _ => rfl
  have FmvdE := fun_mk (st := sMvE) lmvdE cmvdE kmvdE
  have bmvdE := FmvdE.binds (ps := ["self", "other"]) fun _ _ _ _ _ _ us hl => match us, hl with | [_, _], _ => rfl
  have Tmvd : ClsLR K Cmvd := ⟨⟨⟨pgmvd, hdmvd, pomvd, samvd⟩, hamvd, hn, htk, hmmvd, kit_self K _⟩, nmvdleft, nmvdright⟩
  have gmvd := PySem.W.mg_of X G0 aCmvd
  have FjdI := fun_mk (st := sJdI) ljdI cjdI kjdI
  have bjdI := FjdI.binds (ps := ["self", "parts"]) fun _ _ _ _ _ _ us hl => match us, hl with | [_, _], _ => rfl
  have FjdE := fun_mk (st := sJdE) ljdE cjdE kjdE
  have bjdE := FjdE.binds (ps := ["self", "other"]) fun _ _ _ _ _ _ us hl => match us, hl with | [_, _], _ => rfl
  have Tjd : ClsP K Cjd := ⟨⟨⟨pgjd, hdjd, pojd, sajd⟩, hajd, hn, htk, hmjd, kit_self K _⟩, njdparts⟩
  have gjd := PySem.W.mg_of X G0 aCjd
  have B : Blt mg := ⟨PySem.W.mg_none_of X G0 zlen, PySem.W.mg_none_of X G0 zrange, PySem.W.mg_none_of X G0 ztuple, PySem.W.mg_none_of X G0 zsorted, PySem.W.mg_none_of X G0 zset, PySem.W.mg_none_of X G0 zlist, PySem.W.mg_none_of X G0 zisinstance⟩
  refine ⟨PySem.W.fnOf "law" "law" (defArgs sLaw) (defBody sLaw) (defScope sLaw) .none kVlaw dclaw pmlaw anlaw cdlaw ctlaw, fun s v => .of_eq rfl, fun base _ _ => ?_⟩
  have G : Callee l.prog w K mg base 1 "as_set" ["columns"] (spAsSet K) := ⟨fas_set, _, ok_as_set Fas_set B, PySem.W.mg_of X G0 aas_set, kas_set, bas_set⟩
  exact ok_law Flaw B ⟨⟨fnumbers, _, ok_numbers Fnumbers B.len B.range, PySem.W.mg_of X G0 anumbers, knumbers, bnumbers⟩,
    ⟨flist, _, ok_list Flist B, PySem.W.mg_of X G0 alist, klist, blist⟩,
    ⟨fset, _, ok_set Fset B, PySem.W.mg_of X G0 aset, kset, bset⟩,
    ⟨Cfd, ffdI, ffdE, _, _, ⟨mkfd, afdI, ifdI, kcfd⟩, ok_FdI FfdI Tfd G, bfdI, ok_FdE FfdE Tfd gfd B, bfdE, afdE, ifdE, gfd⟩,
    ⟨Cmvd, fmvdI, fmvdE, _, _, ⟨mkmvd, amvdI, imvdI, kcmvd⟩, ok_MvI FmvdI Tmvd G, bmvdI, ok_MvE FmvdE Tmvd gmvd B, bmvdE, amvdE, imvdE, gmvd⟩,
    ⟨Cjd, fjdI, fjdE, _, _, ⟨mkjd, ajdI, ijdI, kcjd⟩, ok_JdI FjdI Tjd B G, bjdI, ok_JdE FjdE Tjd gjd B, bjdE, ajdE, ijdE, gjd⟩,
    Tfd,
    Tmvd,
    Tjd,
    other_mk o12 icfd tcfd msfd,
    other_mk o13 icfd tcfd msfd,
    other_mk o1t icfd tcfd msfd,
    other_mk o21 icmvd tcmvd msmvd,
    other_mk o23 icmvd tcmvd msmvd,
    other_mk o31 icjd tcjd msjd,
    other_mk o32 icjd tcjd msjd,
    other_mk o3t icjd tcjd msjd⟩
end K01
open PySem PySem.W PyProof.Rows
set_option maxHeartbeats 0 in
theorem PySem.Challenge.cw_followsortable_k01_dependencies_kept_holds : PySem.Challenge.rw_followsortable_k01_dependencies_kept.Holds := by
  w_on; o_law; k_head; (case hw => w_witness2)
  k_fill
  refine L2.walk_of (l := PySem.Challenge.rw_followsortable_k01_dependencies_kept) (n := 63) (k := 4) (x := "script") (CX := fun _ => L2.CX0) (sp := fun w => K01.spLaw _) rfl (by decide) rfl ⟨rfl, by decide, by decide⟩ (fun w h Y => PySem.W.kIn_of Y) ?F (fun _ _ a ns hl _ hS => ⟨a, ns, rfl, hS, hl, fun _ => rfl⟩) (fun _ _ _ _ _ h => h)
  case F =>
    intro w mg fa h KX G hmg
    refine' K01.all_mk KX G hmg ?anumbers ?lnumbers ?cnumbers ?knumbers ?alist ?llist ?clist ?klist ?aset ?lset ?cset ?kset ?aas_set ?las_set ?cas_set ?kas_set ?alaw ?llaw ?claw ?klaw ?aCfd ?afdI ?ifdI ?lfdI ?cfdI ?kfdI ?afdE ?ifdE ?lfdE ?cfdE ?kfdE ?pgfd ?hdfd ?pofd ?safd ?mkfd ?kcfd ?hafd ?hmfd ?icfd ?tcfd ?msfd ?nfdleft ?nfdright ?aCmvd ?amvdI ?imvdI ?lmvdI ?cmvdI ?kmvdI ?amvdE ?imvdE ?lmvdE ?cmvdE ?kmvdE ?pgmvd ?hdmvd ?pomvd ?samvd ?mkmvd ?kcmvd ?hamvd ?hmmvd ?icmvd ?tcmvd ?msmvd ?nmvdleft ?nmvdright ?aCjd ?ajdI ?ijdI ?ljdI ?cjdI ?kjdI ?ajdE ?ijdE ?ljdE ?cjdE ?kjdE ?pgjd ?hdjd ?pojd ?sajd ?mkjd ?kcjd ?hajd ?hmjd ?icjd ?tcjd ?msjd ?njdparts ?hn ?htk ?o12 ?o13 ?o1t ?o21 ?o23 ?o31 ?o32 ?o3t ?zlen ?zrange ?ztuple ?zsorted ?zset ?zlist ?zisinstance
    (case anumbers => k_is); (case lnumbers => k_is); (case cnumbers => k_is); (case knumbers => k_is); (case alist => k_is); (case llist => k_is); (case clist => k_is); (case klist => k_is); (case aset => k_is); (case lset => k_is); (case cset => k_is); (case kset => k_is); (case aas_set => k_is); (case las_set => k_is); (case cas_set => k_is); (case kas_set => k_is); (case alaw => k_is); (case llaw => k_is); (case claw => k_is); (case klaw => k_is); (case aCfd => k_is); (case afdI => k_is); (case ifdI => k_is); (case lfdI => k_is); (case cfdI => k_is); (case kfdI => k_is); (case afdE => k_is); (case ifdE => k_is); (case lfdE => k_is); (case cfdE => k_is); (case kfdE => k_is); (case pgfd => k_is); (case hdfd => k_is); (case pofd => k_is); (case safd => k_is); (case mkfd => k_is); (case kcfd => k_is); (case hafd => k_is); (case hmfd => k_is); (case icfd => k_is); (case tcfd => k_is); (case msfd => k_is); (case nfdleft => k_is); (case nfdright => k_is); (case aCmvd => k_is); (case amvdI => k_is); (case imvdI => k_is); (case lmvdI => k_is); (case cmvdI => k_is); (case kmvdI => k_is); (case amvdE => k_is); (case imvdE => k_is); (case lmvdE => k_is); (case cmvdE => k_is); (case kmvdE => k_is); (case pgmvd => k_is); (case hdmvd => k_is); (case pomvd => k_is); (case samvd => k_is); (case mkmvd => k_is); (case kcmvd => k_is); (case hamvd => k_is); (case hmmvd => k_is); (case icmvd => k_is); (case tcmvd => k_is); (case msmvd => k_is); (case nmvdleft => k_is); (case nmvdright => k_is); (case aCjd => k_is); (case ajdI => k_is); (case ijdI => k_is); (case ljdI => k_is); (case cjdI => k_is); (case kjdI => k_is); (case ajdE => k_is); (case ijdE => k_is); (case ljdE => k_is); (case cjdE => k_is); (case kjdE => k_is); (case pgjd => k_is); (case hdjd => k_is); (case pojd => k_is); (case sajd => k_is); (case mkjd => k_is); (case kcjd => k_is); (case hajd => k_is); (case hmjd => k_is); (case icjd => k_is); (case tcjd => k_is); (case msjd => k_is); (case njdparts => k_is); (case hn => k_is); (case htk => k_is); (case o12 => k_is); (case o13 => k_is); (case o1t => k_is); (case o21 => k_is); (case o23 => k_is); (case o31 => k_is); (case o32 => k_is); (case o3t => k_is); (case zlen => k_is); (case zrange => k_is); (case ztuple => k_is); (case zsorted => k_is); (case zset => k_is); (case zlist => k_is); (case zisinstance => k_is)
