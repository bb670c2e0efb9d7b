/-
  What is wrong with a node: mend's Look, and what it asks.
-/
import Derived.Test.YtcegianjpifnbaaGreatPa
import Derived.Lib.Hide
namespace Go.Proofs.YtcegianjpifnbaaGreat
open Go.ChangeShapes Go.WideShapes Go.ChangeAt Go.RowKit
set_option linter.unusedVariables false
set_option linter.unusedSimpArgs false
set_option maxRecDepth 20000

/-- How many entries a node has. -/
def sizeW (x : Bool) (n k : Nat) : Int := if x = true then (k : Int) else (n : Int)
/-- How many it is to have. -/
def leastW (a : Int) (x root : Bool) : Int := if root = false then a else if x = true then 2 else 0
/-- What is wrong with it. -/
def lookW (a : Int) (x y : Bool) (n k : Nat) (root : Bool) : Int := if y = true then 1 else if sizeW x n k < leastW a x root then 2 else 0
section
variable {x y root : Bool} {A B C : Option Addr} {n c m d p q : Nat} {a : Int} {w : World}
theorem size_walk (w : World) :
    Calls Tryz.prog 21 #[ndv x y (.slice A n c) (.slice B m d) (.slice C p q)] w fun e w' => e = .returned (.int .i64 (sizeW x n p)) ∧ Below w.heap.size w w' := by
  obtain ⟨W, b0, hW, hb0, hbW, h5⟩ := boxedA w x y (.slice A n c) (.slice B m d) (.slice C p q)
  have HB := Lib.hid (hb0 ▸ hbW : Below b0 w W)
  obtain ⟨b1, b2, b3, b4, b5⟩ := h5.cells
  clear hbW h5
  cases x <;>
  · go_enter Tryz.func21, Tryz.ntmps21
    go_wp2_with fail
    (try rw [hW]); (try rw [hb0]); clear hW hb0
    go_wp2
    go_ret
    exact ⟨rfl, HB.out⟩
theorem least_walk (w : World) :
    Calls Tryz.prog 22 #[.int .i64 a, ndv x y (.slice A n c) (.slice B m d) (.slice C p q), .bool root] w fun e w' => e = .returned (.int .i64 (leastW a x root)) ∧ Below w.heap.size w w' := by
  obtain ⟨W, b0, hW, hb0, hbW, h5⟩ := boxedA w x y (.slice A n c) (.slice B m d) (.slice C p q)
  have HB := Lib.hid (hb0 ▸ hbW : Below b0 w W)
  obtain ⟨b1, b2, b3, b4, b5⟩ := h5.cells
  clear hbW h5
  cases root <;> cases x <;>
  · go_enter Tryz.func22, Tryz.ntmps22
    go_wp2_with fail
    (try rw [hW]); (try rw [hb0]); clear hW hb0
    go_wp2
    go_ret
    exact ⟨rfl, HB.out⟩
theorem look_walk (w : World) :
    Calls Tryz.prog 6 #[.int .i64 a, ndv x y (.slice A n c) (.slice B m d) (.slice C p q), .bool root] w fun e w' => e = .returned (.int .u8 (lookW a x y n p root)) ∧ Below w.heap.size w w' := by
  obtain ⟨W, b0, hW, hb0, hbW, h5⟩ := boxedA w x y (.slice A n c) (.slice B m d) (.slice C p q)
  have HB := Lib.hid (hb0 ▸ hbW : Below b0 w W)
  have HC : Hid (∀ w', Below W.heap.size W w' → (w'.cell? ⟨b0, 0, none⟩ = some (.bool x) ∧ w'.cell? ⟨b0, 1, none⟩ = some (.bool y) ∧ w'.cell? ⟨b0, 2, none⟩ = some (.slice A n c) ∧ w'.cell? ⟨b0, 3, none⟩ = some (.slice B m d) ∧ w'.cell? ⟨b0, 4, none⟩ = some (.slice C p q))) :=
    fun w' h => (h5.below h).cells
  obtain ⟨b1, b2, b3, b4, b5⟩ := h5.cells
  have HBw := Lib.hid hbW
  clear hbW h5
  cases y with
  | true =>
    go_enter Tryz.func6, Tryz.ntmps6
    go_wp2_with fail
    (try rw [hW]); (try rw [hb0]); clear hW hb0
    go_wp2
    go_ret
    exact ⟨rfl, HB.out⟩
  | false =>
    go_enter Tryz.func6, Tryz.ntmps6
    go_wp2_with fail
    (try rw [hW]); (try rw [hb0]); clear hW hb0
    go_wp2_with fail
    refine region_T (fun _ => false) (fun w' => w'.cell? ⟨b0, 0, none⟩ = some (.bool x) ∧ w'.cell? ⟨b0, 1, none⟩ = some (.bool false) ∧ w'.cell? ⟨b0, 2, none⟩ = some (.slice A n c) ∧ w'.cell? ⟨b0, 3, none⟩ = some (.slice B m d) ∧ w'.cell? ⟨b0, 4, none⟩ = some (.slice C p q)) (by kernel_rfl) ?_
    obtain ⟨X0, hX0, hbX0⟩ : ∃ X0 : World, W.drew = X0 ∧ Below W.heap.size W X0 := ⟨_, rfl, (Below.refl _ W).drew⟩
    rw [hX0]
    clear hX0 b1 b2 b3 b4 b5
    have hC := HC.out X0 hbX0
    refine takeT (i := 0) (v := ?_) rfl (by kernel_rfl) (by kernel_rfl) (by kernel_rfl) (by kernel_rfl) (fun _ _ _ h => h) hC (by rfl) ?_ ?_
    rotate_left
    · intro w hSw; (try dsimp only at hSw); go_simp; try (with_reducible rfl)
    try simp only [Act.put, List.setIfInBounds_toArray, List.set_cons_zero, List.set_cons_succ]
    refine takeT (i := 2) (v := ?_) rfl (by kernel_rfl) (by kernel_rfl) (by kernel_rfl) (by kernel_rfl) (fun _ _ _ h => h) hC (by rfl) ?_ ?_
    rotate_left
    · intro w hSw; (try dsimp only at hSw); go_simp; try (with_reducible rfl)
    try simp only [Act.put, List.setIfInBounds_toArray, List.set_cons_zero, List.set_cons_succ]
    refine takeT (i := 3) (v := ?_) rfl (by kernel_rfl) (by kernel_rfl) (by kernel_rfl) (by kernel_rfl) (fun _ _ _ h => h) hC (by rfl) ?_ ?_
    rotate_left
    · intro w hSw; (try dsimp only at hSw); go_simp; try (with_reducible rfl)
    try simp only [Act.put, List.setIfInBounds_toArray, List.set_cons_zero, List.set_cons_succ]
    refine takeT (i := 4) (v := ?_) rfl (by kernel_rfl) (by kernel_rfl) (by kernel_rfl) (by kernel_rfl) (fun _ _ _ h => h) hC (by rfl) ?_ ?_
    rotate_left
    · intro w hSw; (try dsimp only at hSw); go_simp; try (with_reducible rfl)
    try simp only [Act.put, List.setIfInBounds_toArray, List.set_cons_zero, List.set_cons_succ]
    refine oneT (i := 1) (by kernel_rfl) rfl (by rfl) (fun K hK => ?_)
    go_simp
    refine (size_walk X0).mono ?_
    rintro e X1 ⟨rfl, h1⟩
    have hb1 : Below W.heap.size W X1 := hbX0.trans (h1.mono hbX0.size)
    refine hK.out _ _ (fun _ => HC.out X1 hb1) ?_
    clear hK K hC h1
    try simp only [Act.put, List.setIfInBounds_toArray, List.set_cons_zero, List.set_cons_succ]
    refine oneT (i := 5) (by kernel_rfl) rfl (by rfl) (fun K hK => ?_)
    go_simp
    refine (least_walk X1).mono ?_
    rintro e X2 ⟨rfl, h1⟩
    have hb2 : Below W.heap.size W X2 := hb1.trans (h1.mono hb1.size)
    refine hK.out _ _ (fun _ => HC.out X2 hb2) ?_
    clear hK K h1
    try simp only [Act.put, List.setIfInBounds_toArray, List.set_cons_zero, List.set_cons_succ]
    refine oneT (i := 6) (by kernel_rfl) rfl (by rfl) (fun K hK => ?_)
    go_simp
    refine hK.out _ _ (fun _ => HC.out X2 hb2) ?_
    clear hK K
    try simp only [Act.put, List.setIfInBounds_toArray, List.set_cons_zero, List.set_cons_succ]
    refine doneT (by kernel_rfl) ?_
    have HE := Lib.hid (HBw.out.trans (hb2.mono HBw.out.size))
    clear hb1 hb2 hbX0 HC
    by_cases hl : sizeW x n p < leastW a x root
    · have HL : Hid (lookW a x false n p root = 2) := by show lookW _ _ _ _ _ _ = 2; unfold lookW; rw [if_neg (by simp), if_pos hl]
      generalize sizeW x n p = s1 at *
      generalize leastW a x root = s2 at *
      go_wp2
      go_ret
      exact ⟨by rw [HL.out]; rfl, HE.out⟩
    · have HL : Hid (lookW a x false n p root = 0) := by show lookW _ _ _ _ _ _ = 0; unfold lookW; rw [if_neg (by simp), if_neg hl]
      generalize sizeW x n p = s1 at *
      generalize leastW a x root = s2 at *
      go_wp2
      go_ret
      exact ⟨by rw [HL.out]; rfl, HE.out⟩
end
end Go.Proofs.YtcegianjpifnbaaGreat
