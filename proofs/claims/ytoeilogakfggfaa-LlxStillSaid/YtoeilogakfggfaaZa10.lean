/-
  LlxStill's worlds: one line of states, by how many changes are done and how far the next one is; what each touch makes of them.
-/
import Derived.Test.YtoeilogakfggfaaHn10
import Derived.Test.YtoeilogakfggfaaLv10
namespace Go.Proofs.Ytoeilogakfggfaa
open Go.ChangeShapes Go.WideShapes Go.ChangeAt Go.RowKit
set_option linter.unusedVariables false
set_option linter.unusedSimpArgs false
set_option maxRecDepth 20000

/-- The number of the last change of node x among the first i; 0: none. -/
def zla (X : Nat → Nat) (x : Nat) : Nat → Nat
  | 0 => 0
  | i + 1 => if X i = x then i + 1 else zla X x i
/-- Way 0 of node x behind change n. -/
def zwv (x n : Nat) : Int := if n = 0 then 200 + 10 * (x : Int) else 299 + (n : Int)
def zrc (X : Nat → Nat) (j : Nat) : Rc := rcN [X j] [(zla X (X j) j : Int)] 1 0 (zwv (X j) (zla X (X j) j)) (300 + (j : Int))
def zre (X : Nat → Nat) (t j : Nat) : Re := ⟨zrc X j, if 5 * j + 5 ≤ t then 2 else 1, decide (5 * j + 3 ≤ t)⟩
def zf (X : Nat → Nat) (t : Nat) (x : Nat) : Ns := ⟨(zla X x ((t + 3) / 5) : Int), false, zwv x (zla X x ((t + 1) / 5)), 201 + 10 * (x : Int)⟩
def zrs (X : Nat → Nat) (t : Nat) : List Re := (List.range ((t + 4) / 5)).map (zre X t)
/-- All that is shared at time t: of each change: made, taken, all, way, done. -/
def zS (X : Nat → Nat) (t : Nat) : Sig := sN 2 2 (zf X t) (zrs X t)
section
variable {X : Nat → Nat} {x i j t t' n : Nat}
theorem zla_le : zla X x i ≤ i := by
  induction i with
  | zero => exact Nat.le_refl _
  | succ i ih =>
    show (if X i = x then i + 1 else zla X x i) ≤ i + 1
    split <;> omega
theorem zla_mono (h : i ≤ j) : zla X x i ≤ zla X x j := by
  induction j with
  | zero => obtain rfl : i = 0 := by omega
            exact Nat.le_refl _
  | succ j ih =>
    by_cases e : i = j + 1
    · rw [e]; exact Nat.le_refl _
    · have := ih (by omega)
      have h2 : zla X x j ≤ j := zla_le
      show _ ≤ (if X j = x then j + 1 else zla X x j)
      split <;> omega
theorem zla_stay (h : i ≤ j) (k : zla X x j ≤ i) : zla X x i = zla X x j := by
  induction j with
  | zero => obtain rfl : i = 0 := by omega
            rfl
  | succ j ih =>
    by_cases e : i = j + 1
    · rw [e]
    · have e2 : zla X x (j + 1) = if X j = x then j + 1 else zla X x j := rfl
      rw [e2] at k ⊢
      split at k
      · omega
      · rename_i h3
        rw [if_neg h3]
        exact ih (by omega) k
theorem zla_hit (h : X i = x) : zla X x (i + 1) = i + 1 := if_pos h
theorem zla_off (h : ¬ X i = x) : zla X x (i + 1) = zla X x i := if_neg h
theorem zre_eq (h1 : 5 * i + 5 ≤ t ↔ 5 * i + 5 ≤ t') (h2 : 5 * i + 3 ≤ t ↔ 5 * i + 3 ≤ t') : zre X t' i = zre X t i := by
  unfold zre
  simp only [h1, h2]
theorem zf_eq (h1 : (t + 3) / 5 = (t' + 3) / 5) (h2 : (t + 1) / 5 = (t' + 1) / 5) : zf X t' = zf X t := by
  funext x
  unfold zf
  rw [h1, h2]
theorem zrs_at (h : 5 * j + 1 ≤ t) : rcAt (zrs X t) ((j : Int) + 1) = some (j, zre X t j) := by
  unfold rcAt
  rw [if_neg (by omega), show ((j : Int) + 1 - 1).toNat = j from by omega]
  have : (zrs X t)[j]? = some (zre X t j) := by
    unfold zrs
    rw [List.getElem?_map, List.getElem?_range (by omega)]; rfl
  rw [this]
theorem zrs_set (F : Re → Re) (h : 5 * j + 1 ≤ t) (ht : (t + 4) / 5 = (t' + 4) / 5) (hF : F (zre X t j) = zre X t' j) (ho : ∀ i, i ≠ j → i < (t + 4) / 5 → (5 * i + 5 ≤ t ↔ 5 * i + 5 ≤ t') ∧ (5 * i + 3 ≤ t ↔ 5 * i + 3 ≤ t')) : setRe (zrs X t) ((j : Int) + 1) F = zrs X t' := by
  unfold setRe
  rw [zrs_at h]
  simp only [hF]
  apply List.ext_getElem?
  intro i
  rw [List.getElem?_set]
  have hl : (zrs X t).length = (t + 4) / 5 := by simp [zrs]
  have at_ : ∀ t0 i, i < (t0 + 4) / 5 → (zrs X t0)[i]? = some (zre X t0 i) := fun t0 i hi => by
    unfold zrs; rw [List.getElem?_map, List.getElem?_range hi]; rfl
  by_cases e : j = i
  · subst e
    rw [if_pos rfl, if_pos (by rw [hl]; omega), at_ t' j (by omega)]
  · rw [if_neg e]
    by_cases hi : i < (t + 4) / 5
    · rw [at_ t i hi, at_ t' i (by omega), zre_eq (ho i (fun q => e q.symm) hi).1 (ho i (fun q => e q.symm) hi).2]
    · rw [List.getElem?_eq_none (by rw [hl]; omega), List.getElem?_eq_none (by simp [zrs]; omega)]
theorem z_rc (h : 5 * j + 1 ≤ t) : rcOf (zS X t).rs ((j : Int) + 1) = zrc X j := by
  unfold rcOf
  show (match rcAt (zrs X t) ((j : Int) + 1) with | some (_, x) => x.rc | none => Rc.nil) = _
  rw [zrs_at h]
  rfl
theorem z_make (hi : i < 40) : gRMake 40 (zrc X i) (zS X (5 * i)) = ((i : Int) + 1, zS X (5 * i + 1)) := by
  have e1 : (zS X (5 * i)).rs.length = i := by simp [zS, sN, zrs]; omega
  have e2 : zrs X (5 * i) ++ [⟨zrc X i, 1, false⟩] = zrs X (5 * i + 1) := by
    unfold zrs
    rw [show (5 * i + 4) / 5 = i from by omega, show (5 * i + 1 + 4) / 5 = i + 1 from by omega, List.range_succ, List.map_append]
    congr 1
    · apply List.map_congr_left
      intro j hj
      have := List.mem_range.1 hj
      exact zre_eq (by omega) (by omega)
    · have h1 : ¬ 5 * i + 5 ≤ 5 * i + 1 := by omega
      have h2 : ¬ 5 * i + 3 ≤ 5 * i + 1 := by omega
      simp [zre, h1, h2]
  unfold gRMake
  rw [if_pos ⟨by show (0 : Int) ≤ 1; omega, rfl, by rw [e1]; exact hi⟩, e1]
  refine Prod.ext rfl ?_
  show sN 2 2 (zf X (5 * i)) (zrs X (5 * i) ++ [⟨zrc X i, 1, false⟩]) = sN 2 2 (zf X (5 * i + 1)) (zrs X (5 * i + 1))
  rw [e2, zf_eq (X := X) (t := 5 * i) (t' := 5 * i + 1) (by omega) (by omega)]
theorem z_info (hx : x < 2) : gInfo (rfN x) (zS X t) = ((zla X x ((t + 3) / 5) : Int), zS X t) := g_info hx (by omega)
theorem z_mark (hx : x < 2) : gMark (rfN x) (zS X t) = (0, zS X t) := by
  simp only [gMark, gAr, As.with, zS, sN, arN_hit hx (by omega : 2 ≤ 1000)]
  rfl
theorem z_way0 (hx : x < 2) : gWay (rfN x) 0 (zS X t) = (zwv x (zla X x ((t + 1) / 5)), zS X t) := by
  simp only [gWay, gAr, As.with, zS, sN, arN_hit hx (by omega : 2 ≤ 1000)]
  rfl
theorem z_way1 (hx : x < 2) : gWay (rfN x) 1 (zS X t) = (201 + 10 * (x : Int), zS X t) := by
  simp only [gWay, gAr, As.with, zS, sN, arN_hit hx (by omega : 2 ≤ 1000)]
  rfl
theorem z_state0 : gState 0 (zS X t) = (0, zS X t) := rfl
theorem z_state (h : 5 * j + 1 ≤ t) : gState ((j : Int) + 1) (zS X t) = (if 5 * j + 5 ≤ t then 2 else 1, zS X t) := by
  have e : rcAt (zS X t).rs ((j : Int) + 1) = some (j, zre X t j) := zrs_at h
  unfold gState
  rw [e]
  refine Prod.ext ?_ rfl
  show IntKind.i64.wrap (zre X t j).st = _
  unfold zre
  split <;> rfl
theorem z_swap (hx : X i < 2) (h : 5 * i + 1 ≤ t) : gSwapInfo (rfN (X i)) (zla X (X i) i : Int) ((i : Int) + 1) (zS X t) = if t = 5 * i + 1 then (1, zS X (t + 1)) else (0, zS X t) := by
  have e := g_swapInfo (L := 2) (f := zf X t) (rs := zrs X t) hx (by omega : 2 ≤ 1000) (zla X (X i) i : Int) ((i : Int) + 1)
  rw [show zS X t = sN 2 2 (zf X t) (zrs X t) from rfl, e]
  by_cases ht : t = 5 * i + 1
  · subst ht
    rw [if_pos rfl, if_pos (by unfold zf; rw [show (5 * i + 1 + 3) / 5 = i from by omega])]
    refine Prod.ext rfl ?_
    show sN 2 2 (upd (zf X (5 * i + 1)) (X i) _) (zrs X (5 * i + 1)) = sN 2 2 (zf X (5 * i + 1 + 1)) (zrs X (5 * i + 1 + 1))
    have e1 : zrs X (5 * i + 1 + 1) = zrs X (5 * i + 1) := by
      unfold zrs
      rw [show (5 * i + 1 + 1 + 4) / 5 = i + 1 from by omega, show (5 * i + 1 + 4) / 5 = i + 1 from by omega]
      apply List.map_congr_left
      intro j hj
      have := List.mem_range.1 hj
      exact zre_eq (by omega) (by omega)
    have e2 : upd (zf X (5 * i + 1)) (X i) { zf X (5 * i + 1) (X i) with inf := (i : Int) + 1 } = zf X (5 * i + 1 + 1) := by
      funext y
      unfold upd zf
      by_cases hy : y = X i
      · subst hy
        rw [if_pos rfl, show (5 * i + 1 + 1 + 3) / 5 = i + 1 from by omega, zla_hit rfl, show (5 * i + 1 + 1 + 1) / 5 = i from by omega, show (5 * i + 1 + 1) / 5 = i from by omega]
        simp
      · rw [if_neg hy, show (5 * i + 1 + 1 + 3) / 5 = i + 1 from by omega, zla_off (fun q => hy q.symm), show (5 * i + 1 + 1 + 1) / 5 = i from by omega, show (5 * i + 1 + 1) / 5 = i from by omega, show (5 * i + 1 + 3) / 5 = i from by omega]
    rw [e1, e2]
  · rw [if_neg ht, if_neg]
    have h1 : zla X (X i) (i + 1) ≤ zla X (X i) ((t + 3) / 5) := zla_mono (by omega)
    rw [zla_hit rfl] at h1
    have h2 : zla X (X i) i ≤ i := zla_le
    show ¬ ((zla X (X i) ((t + 3) / 5) : Nat) : Int) = (zla X (X i) i : Int)
    omega
theorem z_all (h : 5 * i + 3 ≤ t) : gAll ((i : Int) + 1) (zS X t) = (1, zS X t) := by
  have e : rcAt (zS X t).rs ((i : Int) + 1) = some (i, zre X t i) := zrs_at (by omega)
  unfold gAll
  rw [e]
  refine Prod.ext ?_ rfl
  show b2i (zre X t i).all = 1
  unfold zre
  simp only [decide_eq_true h]
  rfl
theorem z_setAll (h : 5 * i + 2 ≤ t) : gSetAll ((i : Int) + 1) (zS X t) = (0, if t = 5 * i + 2 then zS X (t + 1) else zS X t) := by
  have k : ∀ t', (t + 4) / 5 = (t' + 4) / 5 → (t + 3) / 5 = (t' + 3) / 5 → (t + 1) / 5 = (t' + 1) / 5 → (5 * i + 5 ≤ t ↔ 5 * i + 5 ≤ t') → 5 * i + 3 ≤ t' → (∀ j, j ≠ i → j < (t + 4) / 5 → (5 * j + 5 ≤ t ↔ 5 * j + 5 ≤ t') ∧ (5 * j + 3 ≤ t ↔ 5 * j + 3 ≤ t')) → gSetAll ((i : Int) + 1) (zS X t) = (0, zS X t') := fun t' h1 h2 h3 h4 h5 h6 => by
    refine Prod.ext rfl ?_
    show sN 2 2 (zf X t) (setRe (zrs X t) ((i : Int) + 1) _) = sN 2 2 (zf X t') (zrs X t')
    rw [zrs_set (t' := t') _ (by omega) h1 _ h6, zf_eq (X := X) h2 h3]
    unfold zre
    simp only [h4, decide_eq_true h5]
  by_cases e : t = 5 * i + 2
  · rw [if_pos e]
    exact k _ (by omega) (by omega) (by omega) (by omega) (by omega) fun j h1 h2 => by omega
  · rw [if_neg e]
    exact k _ rfl rfl rfl Iff.rfl (by omega) fun j h1 h2 => ⟨Iff.rfl, Iff.rfl⟩
theorem z_set (h : 5 * i + 4 ≤ t) : gSet ((i : Int) + 1) 2 (zS X t) = (0, if t = 5 * i + 4 then zS X (t + 1) else zS X t) := by
  have k : ∀ t', (t + 4) / 5 = (t' + 4) / 5 → (t + 3) / 5 = (t' + 3) / 5 → (t + 1) / 5 = (t' + 1) / 5 → 5 * i + 5 ≤ t' → (5 * i + 3 ≤ t ↔ 5 * i + 3 ≤ t') → (∀ j, j ≠ i → j < (t + 4) / 5 → (5 * j + 5 ≤ t ↔ 5 * j + 5 ≤ t') ∧ (5 * j + 3 ≤ t ↔ 5 * j + 3 ≤ t')) → gSet ((i : Int) + 1) 2 (zS X t) = (0, zS X t') := fun t' h1 h2 h3 h4 h5 h6 => by
    refine Prod.ext rfl ?_
    show sN 2 2 (zf X t) (setRe (zrs X t) ((i : Int) + 1) _) = sN 2 2 (zf X t') (zrs X t')
    rw [zrs_set (t' := t') _ (by omega) h1 _ h6, zf_eq (X := X) h2 h3]
    unfold zre
    simp only [h5, if_pos h4]
  by_cases e : t = 5 * i + 4
  · rw [if_pos e]
    exact k _ (by omega) (by omega) (by omega) (by omega) (by omega) fun j h1 h2 => by omega
  · rw [if_neg e]
    exact k _ rfl rfl rfl (by omega) Iff.rfl fun j h1 h2 => ⟨Iff.rfl, Iff.rfl⟩
theorem z_swapWay (hx : X i < 2) (h : 5 * i + 3 ≤ t) : ∃ z, gSwapWay (rfN (X i)) 0 (zwv (X i) (zla X (X i) i)) (300 + (i : Int)) (zS X t) = (z, if t = 5 * i + 3 then zS X (t + 1) else zS X t) := by
  have e := g_swapWay (L := 2) (f := zf X t) (rs := zrs X t) hx (by omega : 2 ≤ 1000) 0 (zwv (X i) (zla X (X i) i)) (300 + (i : Int))
  rw [show zS X t = sN 2 2 (zf X t) (zrs X t) from rfl, e]
  refine ⟨_, Prod.ext rfl ?_⟩
  show sN 2 2 (upd (zf X t) (X i) (wayS (zf X t (X i)) 0 (zwv (X i) (zla X (X i) i)) (300 + (i : Int)))) (zrs X t) = _
  have h2 : zla X (X i) i ≤ i := zla_le
  by_cases ht : t = 5 * i + 3
  · subst ht
    rw [if_pos rfl]
    have e1 : zrs X (5 * i + 3 + 1) = zrs X (5 * i + 3) := by
      unfold zrs
      rw [show (5 * i + 3 + 1 + 4) / 5 = i + 1 from by omega, show (5 * i + 3 + 4) / 5 = i + 1 from by omega]
      apply List.map_congr_left
      intro j hj
      have := List.mem_range.1 hj
      exact zre_eq (by omega) (by omega)
    have e2 : upd (zf X (5 * i + 3)) (X i) (wayS (zf X (5 * i + 3) (X i)) 0 (zwv (X i) (zla X (X i) i)) (300 + (i : Int))) = zf X (5 * i + 3 + 1) := by
      have e3 : wayS (zf X (5 * i + 3) (X i)) 0 (zwv (X i) (zla X (X i) i)) (300 + (i : Int)) = { zf X (5 * i + 3) (X i) with w0 := 300 + (i : Int) } := by
        unfold wayS
        rw [if_pos ⟨rfl, by unfold zf; rw [show (5 * i + 3 + 1) / 5 = i from by omega]⟩]
      rw [e3]
      funext y
      unfold upd zf
      by_cases hy : y = X i
      · subst hy
        rw [if_pos rfl, show (5 * i + 3 + 1 + 3) / 5 = i + 1 from by omega, show (5 * i + 3 + 3) / 5 = i + 1 from by omega, show (5 * i + 3 + 1 + 1) / 5 = i + 1 from by omega, zla_hit rfl]
        have e4 : zwv (X i) (i + 1) = 300 + (i : Int) := by unfold zwv; rw [if_neg (by omega)]; omega
        rw [e4]
      · rw [if_neg hy, show (5 * i + 3 + 1 + 3) / 5 = i + 1 from by omega, show (5 * i + 3 + 3) / 5 = i + 1 from by omega, show (5 * i + 3 + 1 + 1) / 5 = i + 1 from by omega, show (5 * i + 3 + 1) / 5 = i from by omega, zla_off (x := y) (fun q => hy q.symm)]
    rw [e2]
    show sN 2 2 (zf X (5 * i + 3 + 1)) (zrs X (5 * i + 3)) = sN 2 2 (zf X (5 * i + 3 + 1)) (zrs X (5 * i + 3 + 1))
    rw [e1]
  · rw [if_neg ht]
    have h1 : zla X (X i) (i + 1) ≤ zla X (X i) ((t + 1) / 5) := zla_mono (by omega)
    rw [zla_hit rfl] at h1
    have hne : ¬ (zf X t (X i)).w0 = zwv (X i) (zla X (X i) i) := by
      show ¬ zwv (X i) (zla X (X i) ((t + 1) / 5)) = zwv (X i) (zla X (X i) i)
      unfold zwv
      rw [if_neg (by omega)]
      split <;> omega
    unfold wayS
    rw [if_neg (fun q => hne q.2), if_neg (fun q => absurd q.1 (by decide)), upd_same]
end
end Go.Proofs.Ytoeilogakfggfaa
