/-
  Mend's first: on a way on which all is right there is none that is wrong.
-/
import Derived.Test.YtcegianjpifnbaaGreatPk
import Derived.Test.YtcegianjpifnbaaGreatMl14
namespace Go.Proofs.YtcegianjpifnbaaGreat
open Go.ChangeShapes Go.WideShapes Go.ChangeAt Go.RowKit
set_option linter.unusedVariables false
set_option linter.unusedSimpArgs false
set_option maxRecDepth 20000

/-- All is right on a way, its first node aside. -/
def RightL (da : Int) (l : List Sp) : Prop := ∀ (i : Nat) (x : Sp), l[i]? = some x → 1 ≤ i → lookW da x.nd.inn x.nd.tag x.nd.ps.length x.nd.zs.length (decide (i = 1)) = 0
section
variable {l : List Sp} {Y : Nat → Prop} {w : World} {A : Option Addr} {n c a W me : Nat} {da : Int}
set_option maxHeartbeats 2000000 in
theorem first_walk (h : SpL l Y w (.slice A n c)) (hn : n = l.length) (hl : n ≤ 100000) (hW : w.cell? ⟨W, 3, none⟩ = some (.int .i64 da)) (hr : RightL da l) (hY : ∀ b, Y b → b < w.heap.size) :
    Calls Tryz.prog 45 #[tkV a W me, .slice A n c] w fun e w' => e = .returned (.tuple #[.int .i64 0, .int .u8 0]) ∧ Below w.heap.size w w' := by
  obtain ⟨X, p, hX, hp, bb, tk, hsz⟩ := one_box w a W me
  have HB := Lib.hid bb
  have HSL : Hid (SpL l Y X (.slice A n c)) := h.keep (fun b e => bb.block b (hY b e)) fun b e => e
  have hYX : Hid (∀ b, Y b → b < X.heap.size) := fun b e => Nat.lt_of_lt_of_le (hY b e) bb.size
  have HW : Hid (X.cell? ⟨W, 3, none⟩ = some (.int .i64 da)) := below_read bb hW
  have HTK := Lib.hid tk
  have HR := Lib.hid hr
  have HN := Lib.hid hn
  obtain ⟨t0, t1, t2⟩ := tk
  clear h bb hY hW hr hn hsz
  go_enter Tryz.func45, Tryz.ntmps45
  go_wp2_with fail
  (try rw [hX]); (try rw [hp])
  clear hX hp t0 t1 t2
  go_loopg [6] n (fun gk iv wr => ∃ j : Nat, j + gk = n + 1 ∧ 1 ≤ j ∧ iv = .int .i64 (j : Int) ∧ Hid (Below X.heap.size X wr))
  case atStart => exact ⟨1, by omega, Nat.le_refl _, rfl, Below.refl _ _⟩
  case round =>
    obtain ⟨j, hj, hj1, rfl, HX⟩ := hrel
    by_cases hlt : j < n
    case neg =>
      have i1 : ¬ ((j : Int) < (n : Int)) := by omega
      have HE := Lib.hid (HB.out.trans (HX.out.mono HB.out.size))
      clear HX HB
      go_wp2
      go_ret2
      exact ⟨rfl, HE.out⟩
    have i1 : (j : Int) < (n : Int) := by omega
    have i0 : (0 : Int) ≤ (j : Int) := by omega
    have hkw : IntKind.i64.wrap ((j : Int) + 1) = (j : Int) + 1 := IntWalk.i64_in _ (by omega)
    have hjl : j < l.length := by rw [← HN.out]; exact hlt
    obtain ⟨x, hx⟩ : ∃ x, l[j]? = some x := ⟨_, List.getElem?_eq_getElem hjl⟩
    obtain ⟨g, pv, kv, zv, rfl, -, hYg, hNv, y0, y1, y2, y3, y4, y5, y6⟩ := HSL.out.at_ hx
    obtain ⟨P1, n1, q1, rfl⟩ := hNv.p.shape
    obtain ⟨P2, n2, q2, rfl⟩ := hNv.k.shape
    obtain ⟨P3, n3, q3, rfl⟩ := hNv.z.shape
    have hn1 : n1 = x.nd.ps.length := hNv.p.lp.len
    have hn3 : n3 = x.nd.zs.length := hNv.z.sl.len
    have HL : Hid (lookW da x.nd.inn x.nd.tag n1 n3 (decide (j = 1)) = 0) := by
      show lookW _ _ _ _ _ _ = 0
      rw [hn1, hn3]; exact HR.out j x hx hj1
    have HC : Hid (∀ w', Below X.heap.size X w' → (w'.cell? ⟨p, 1, none⟩ = some (ptr W) ∧ w'.cell? ⟨W, 3, none⟩ = some (.int .i64 da) ∧ w'.cell? ⟨g, j * 7 + 1, none⟩ = some (.bool x.nd.inn) ∧ w'.cell? ⟨g, j * 7 + 2, none⟩ = some (.bool x.nd.tag) ∧ w'.cell? ⟨g, j * 7 + 3, none⟩ = some (.slice P1 n1 q1) ∧ w'.cell? ⟨g, j * 7 + 4, none⟩ = some (.slice P2 n2 q2) ∧ w'.cell? ⟨g, j * 7 + 5, none⟩ = some (.slice P3 n3 q3))) :=
      fun w' h => ⟨below_read h HTK.out.c1, below_read h HW.out, below_read h y1, below_read h y2, below_read h y3, below_read h y4, below_read h y5⟩
    have hdj : ((j : Int) == 1) = decide (j = 1) := by by_cases h : j = 1 <;> simp [h] <;> omega
    clear y0 y1 y2 y3 y4 y5 y6 hNv hYg hjl hn1 hn3
    go_wp2_with fail
    refine region_T (fun _ => false) (fun w' => (w'.cell? ⟨p, 1, none⟩ = some (ptr W) ∧ w'.cell? ⟨W, 3, none⟩ = some (.int .i64 da) ∧ w'.cell? ⟨g, j * 7 + 1, none⟩ = some (.bool x.nd.inn) ∧ w'.cell? ⟨g, j * 7 + 2, none⟩ = some (.bool x.nd.tag) ∧ w'.cell? ⟨g, j * 7 + 3, none⟩ = some (.slice P1 n1 q1) ∧ w'.cell? ⟨g, j * 7 + 4, none⟩ = some (.slice P2 n2 q2) ∧ w'.cell? ⟨g, j * 7 + 5, none⟩ = some (.slice P3 n3 q3))) (by kernel_rfl) ?_
    obtain ⟨X0, hX0, hbX0⟩ : ∃ X0 : World, wr.drew = X0 ∧ Below X.heap.size X X0 := ⟨_, rfl, HX.out.drew⟩
    rw [hX0]
    clear hX0
    have hC := HC.out X0 hbX0
    refine takeT (i := 0) (v := ?_) rfl (by kernel_rfl) (by kernel_rfl) (by kernel_rfl) (by kernel_rfl) (fun _ _ _ h => h) hC (by rfl) ?_ ?_
    rotate_left
    · intro w hSw; (try dsimp only at hSw); go_simp; try (with_reducible rfl)
    try simp only [Act.put, List.setIfInBounds_toArray, List.set_cons_zero, List.set_cons_succ]
    refine takeT (i := 1) (v := ?_) rfl (by kernel_rfl) (by kernel_rfl) (by kernel_rfl) (by kernel_rfl) (fun _ _ _ h => h) hC (by rfl) ?_ ?_
    rotate_left
    · intro w hSw; (try dsimp only at hSw); go_simp; try (with_reducible rfl)
    try simp only [Act.put, List.setIfInBounds_toArray, List.set_cons_zero, List.set_cons_succ]
    refine takeT (i := 2) (v := ?_) rfl (by kernel_rfl) (by kernel_rfl) (by kernel_rfl) (by kernel_rfl) (fun _ _ _ h => h) hC (by rfl) ?_ ?_
    rotate_left
    · intro w hSw; (try dsimp only at hSw); go_simp; try (with_reducible rfl)
    try simp only [Act.put, List.setIfInBounds_toArray, List.set_cons_zero, List.set_cons_succ]
    refine takeT (i := 3) (v := ?_) rfl (by kernel_rfl) (by kernel_rfl) (by kernel_rfl) (by kernel_rfl) (fun _ _ _ h => h) hC (by rfl) ?_ ?_
    rotate_left
    · intro w hSw; (try dsimp only at hSw); go_simp; try (with_reducible rfl)
    try simp only [Act.put, List.setIfInBounds_toArray, List.set_cons_zero, List.set_cons_succ]
    refine takeT (i := 4) (v := ?_) rfl (by kernel_rfl) (by kernel_rfl) (by kernel_rfl) (by kernel_rfl) (fun _ _ _ h => h) hC (by rfl) ?_ ?_
    rotate_left
    · intro w hSw; (try dsimp only at hSw); go_simp; try (with_reducible rfl)
    try simp only [Act.put, List.setIfInBounds_toArray, List.set_cons_zero, List.set_cons_succ]
    refine takeT (i := 5) (v := ?_) rfl (by kernel_rfl) (by kernel_rfl) (by kernel_rfl) (by kernel_rfl) (fun _ _ _ h => h) hC (by rfl) ?_ ?_
    rotate_left
    · intro w hSw; (try dsimp only at hSw); go_simp; try (with_reducible rfl)
    try simp only [Act.put, List.setIfInBounds_toArray, List.set_cons_zero, List.set_cons_succ]
    refine takeT (i := 6) (v := ?_) rfl (by kernel_rfl) (by kernel_rfl) (by kernel_rfl) (by kernel_rfl) (fun _ _ _ h => h) hC (by rfl) ?_ ?_
    rotate_left
    · intro w hSw; (try dsimp only at hSw); go_simp; try (with_reducible rfl)
    try simp only [Act.put, List.setIfInBounds_toArray, List.set_cons_zero, List.set_cons_succ]
    refine takeT (i := 7) (v := ?_) rfl (by kernel_rfl) (by kernel_rfl) (by kernel_rfl) (by kernel_rfl) (fun _ _ _ h => h) hC (by rfl) ?_ ?_
    rotate_left
    · intro w hSw; (try dsimp only at hSw); go_simp; try (with_reducible rfl)
    try simp only [Act.put, List.setIfInBounds_toArray, List.set_cons_zero, List.set_cons_succ]
    refine takeT (i := 8) (v := ?_) rfl (by kernel_rfl) (by kernel_rfl) (by kernel_rfl) (by kernel_rfl) (fun _ _ _ h => h) hC (by rfl) ?_ ?_
    rotate_left
    · intro w hSw; (try dsimp only at hSw); go_simp; try (with_reducible rfl)
    try simp only [Act.put, List.setIfInBounds_toArray, List.set_cons_zero, List.set_cons_succ]
    refine takeT (i := 9) (v := ?_) rfl (by kernel_rfl) (by kernel_rfl) (by kernel_rfl) (by kernel_rfl) (fun _ _ _ h => h) hC (by rfl) ?_ ?_
    rotate_left
    · intro w hSw; (try dsimp only at hSw); go_simp; try (with_reducible rfl)
    try simp only [Act.put, List.setIfInBounds_toArray, List.set_cons_zero, List.set_cons_succ]
    refine takeT (i := 10) (v := ?_) rfl (by kernel_rfl) (by kernel_rfl) (by kernel_rfl) (by kernel_rfl) (fun _ _ _ h => h) hC (by rfl) ?_ ?_
    rotate_left
    · intro w hSw; (try dsimp only at hSw); go_simp; try (with_reducible rfl)
    try simp only [Act.put, List.setIfInBounds_toArray, List.set_cons_zero, List.set_cons_succ]
    refine takeT (i := 11) (v := ?_) rfl (by kernel_rfl) (by kernel_rfl) (by kernel_rfl) (by kernel_rfl) (fun _ _ _ h => h) hC (by rfl) ?_ ?_
    rotate_left
    · intro w hSw; (try dsimp only at hSw); go_simp; try (with_reducible rfl)
    try simp only [Act.put, List.setIfInBounds_toArray, List.set_cons_zero, List.set_cons_succ]
    refine oneT (i := 12) (by kernel_rfl) rfl (by rfl) (fun K hK => ?_)
    go_simp
    try rw [hdj]
    refine (look_walk (x := x.nd.inn) (y := x.nd.tag) (root := decide (j = 1)) X0).mono ?_
    rintro e X2 ⟨rfl, h1⟩
    rw [HL.out]
    have hb2 : Below X.heap.size X X2 := hbX0.trans (h1.mono hbX0.size)
    refine hK.out _ _ (fun _ => HC.out X2 hb2) ?_
    clear hK K h1
    try simp only [Act.put, List.setIfInBounds_toArray, List.set_cons_zero, List.set_cons_succ]
    refine oneT (i := 13) (by kernel_rfl) rfl (by rfl) (fun K hK => ?_)
    go_simp
    refine hK.out _ _ (fun _ => HC.out X2 hb2) ?_
    clear hK K
    try simp only [Act.put, List.setIfInBounds_toArray, List.set_cons_zero, List.set_cons_succ]
    refine doneT (by kernel_rfl) ?_
    have HX2 := Lib.hid hb2
    clear hb2 hbX0 HC HX hC HL hdj
    go_wp2
    go_roundg (gk - 1)
    case measure => omega
    case rel => exact ⟨j + 1, by omega, by omega, by go_num, HX2.out⟩
end
end Go.Proofs.YtcegianjpifnbaaGreat
