/-
  The law's own fixed fact, Awake: it returns true, and changes nothing that was there.
-/
import Derived.Test.YtfpnchnijfhjhaaHalves
import Derived.Test.YtfpnchnijfhjhaaLawFns2
namespace Go.Proofs.Ytfpnchnijfhjhaa
open Go.ChangeShapes Go.WideShapes Go.ChangeAt Go.RowKit
set_option linter.unusedVariables false

def L3 : List (Int × Int) := [(2, 20), (5, 50), (9, 90)]
theorem lf_three (w : World) : Lf (w.alloc (.cells #[.int .i64 2, .int .i64 20, .int .i64 5, .int .i64 50, .int .i64 9, .int .i64 90] 31)) (some ⟨w.heap.size, 0, none⟩) 3 L3 := by
  refine ⟨rfl, .inr ⟨w.heap.size, 0, rfl, fun j u hj => ?_⟩⟩
  match j, hj with
  | 0, hj => simp [L3, cellsP] at hj; subst hj; simp
  | 1, hj => simp [L3, cellsP] at hj; subst hj; simp
  | 2, hj => simp [L3, cellsP] at hj; subst hj; simp
  | 3, hj => simp [L3, cellsP] at hj; subst hj; simp
  | 4, hj => simp [L3, cellsP] at hj; subst hj; simp
  | 5, hj => simp [L3, cellsP] at hj; subst hj; simp
theorem asc_three : Asc L3 := by unfold Asc L3; decide

set_option maxHeartbeats 1000000 in
theorem awake_walk (w : World) : Calls Try.prog 13 #[] w fun e w' => e = .returned (.bool true) ∧ Below w.heap.size w w' := by
  go_enter Try.func13, Try.ntmps13
  go_wp2_with fail
  refine (halves_some (some ⟨w.heap.size, 0, none⟩) 3 3 L3 _ (lf_three w) (by omega) (by omega) (by omega)).mono ?_
  rintro e w1 ⟨u, v, rfl, hu, hv⟩
  have hlf := (lf_three w).below hu.below
  have hb1 : Below w.heap.size w w1 := ((Below.refl _ w).alloc (Nat.le_refl _) _).trans (hu.below.mono (by simp))
  obtain ⟨A1, c1, eu, _, _, _⟩ := hu.form
  obtain ⟨A2, c2, ev, _, _, _⟩ := hv.form
  have eu' : u = .slice A1 1 c1 := eu
  have ev' : v = .slice A2 2 c2 := ev
  clear eu ev hu hv
  rw [eu', ev', show keyAt L3 (3 / 2) = 5 from rfl]
  clear eu' ev'
  go_wp2_with fail
  refine (get_walk (some ⟨w.heap.size, 0, none⟩) 3 3 L3 5 w1 hlf asc_three (by omega)).mono ?_
  rintro e w2 ⟨rfl, hb2⟩
  rw [show valL L3 5 = 50 from rfl, show hasL L3 5 = true from rfl]
  go_wp2
  go_ret
  exact ⟨rfl, hb1.trans (hb2.mono hb1.size)⟩
end Go.Proofs.Ytfpnchnijfhjhaa
