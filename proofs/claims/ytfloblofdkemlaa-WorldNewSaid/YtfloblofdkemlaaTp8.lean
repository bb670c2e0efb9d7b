/-
  More of world's touches: the closures of Drop, Leave, Make and freeReady.
-/
import Derived.Test.YtfloblofdkemlaaTw8
namespace Go.Proofs.Ytfloblofdkemlaa
open Go.ChangeShapes Go.WideShapes Go.ChangeAt Go.RowKit
set_option linter.unusedVariables false
set_option linter.unusedSimpArgs false
set_option maxRecDepth 20000

section
variable {d : Wd} {FW R : Nat → Prop} {w w' : World} {s : Sig} {B C D a me i : Nat} {n r : Int}
theorem b2i_back {b : Bool} {z : Int} (h : b2i b = z) : b = (z != 0) := by rw [← h, b2i_ne]
theorem fit_rdy (hf : Fit s) : Ok (gRdy me n s).2.ar := by
  unfold gRdy
  split
  · split
    · exact hf.ok
    · exact hf.ok
  · exact hf.ok
/-- freeReady's touch: Ready, and Free of what it tells. -/
theorem ready1_walk (h : WS d FW w s) (hf : Fit s) (hB : Tk w B a d.W me) (hC : w.cell? ⟨C, 0, none⟩ = some (.int .i64 n)) (hi : me < s.S.length) (hn : n ≤ 9223372036854775807) (nB : ¬ FW B) (lB : B < w.heap.size) :
    Calls Try.prog 83 #[ptr B, ptr C] w fun e w' => e = .returned (intV (gReady me n s).1) ∧ NxW d FW w (gReady me n s).2 w' := by
  have h0 := hB.c1
  have h1 := hB.c2
  have h2 := h.cells.2.2.1
  have HS := Lib.hid (nxW_ready (drew_W h) hf hi hn)
  have hC0 : w.drew.cell? ⟨B, 1, none⟩ = some (ptr d.W) ∧ w.drew.cell? ⟨B, 2, none⟩ = some (.int .i64 (me : Int)) ∧ w.drew.cell? ⟨C, 0, none⟩ = some (.int .i64 n) ∧ w.drew.cell? ⟨d.W, 2, none⟩ = some (ptr d.E) := ⟨h0, h1, hC, h2⟩
  have HT := Lib.hid hB
  have HF := Lib.hid (fit_rdy (me := me) (n := n) hf)
  have HG : gReady me n s = ((gRdy me n s).1, if (gRdy me n s).1 = 0 then (gRdy me n s).2 else (gFree (gRdy me n s).1 (gRdy me n s).2).2) := rfl
  rw [HG]
  clear HG hB h h0 h1 h2 hC hn
  generalize gRdy me n s = zs at HS HF ⊢
  obtain ⟨z, s1⟩ := zs
  dsimp only at HS HF ⊢
  go_enter Try.func83, Try.ntmps83
  go_wp2_with fail
  refine region_T (fun k => Nat.ble 8 k) (fun w' => w'.cell? ⟨B, 1, none⟩ = some (ptr d.W) ∧ w'.cell? ⟨B, 2, none⟩ = some (.int .i64 (me : Int)) ∧ w'.cell? ⟨C, 0, none⟩ = some (.int .i64 n) ∧ w'.cell? ⟨d.W, 2, none⟩ = some (ptr d.E)) (by kernel_rfl) ?_
  have hC := hC0
  refine takeW (i := 0) (v := ?_) rfl (by kernel_rfl) (by kernel_rfl) (by kernel_rfl) (by kernel_rfl) (by kernel_rfl) (fun _ _ _ h => h) hC (by rfl) ?_ ?_
  rotate_left
  · intro w hSw; (try dsimp only at hSw); go_simp; try (with_reducible rfl)
  try simp only [Act.put, List.setIfInBounds_toArray, List.set_cons_zero, List.set_cons_succ]
  refine takeW (i := 1) (v := ?_) rfl (by kernel_rfl) (by kernel_rfl) (by kernel_rfl) (by kernel_rfl) (by kernel_rfl) (fun _ _ _ h => h) hC (by rfl) ?_ ?_
  rotate_left
  · intro w hSw; (try dsimp only at hSw); go_simp; try (with_reducible rfl)
  try simp only [Act.put, List.setIfInBounds_toArray, List.set_cons_zero, List.set_cons_succ]
  refine takeW (i := 2) (v := ?_) rfl (by kernel_rfl) (by kernel_rfl) (by kernel_rfl) (by kernel_rfl) (by kernel_rfl) (fun _ _ _ h => h) hC (by rfl) ?_ ?_
  rotate_left
  · intro w hSw; (try dsimp only at hSw); go_simp; try (with_reducible rfl)
  try simp only [Act.put, List.setIfInBounds_toArray, List.set_cons_zero, List.set_cons_succ]
  refine takeW (i := 3) (v := ?_) rfl (by kernel_rfl) (by kernel_rfl) (by kernel_rfl) (by kernel_rfl) (by kernel_rfl) (fun _ _ _ h => h) hC (by rfl) ?_ ?_
  rotate_left
  · intro w hSw; (try dsimp only at hSw); go_simp; try (with_reducible rfl)
  try simp only [Act.put, List.setIfInBounds_toArray, List.set_cons_zero, List.set_cons_succ]
  refine takeW (i := 4) (v := ?_) rfl (by kernel_rfl) (by kernel_rfl) (by kernel_rfl) (by kernel_rfl) (by kernel_rfl) (fun _ _ _ h => h) hC (by rfl) ?_ ?_
  rotate_left
  · intro w hSw; (try dsimp only at hSw); go_simp; try (with_reducible rfl)
  try simp only [Act.put, List.setIfInBounds_toArray, List.set_cons_zero, List.set_cons_succ]
  refine takeW (i := 5) (v := ?_) rfl (by kernel_rfl) (by kernel_rfl) (by kernel_rfl) (by kernel_rfl) (by kernel_rfl) (fun _ _ _ h => h) hC (by rfl) ?_ ?_
  rotate_left
  · intro w hSw; (try dsimp only at hSw); go_simp; try (with_reducible rfl)
  try simp only [Act.put, List.setIfInBounds_toArray, List.set_cons_zero, List.set_cons_succ]
  refine takeW (i := 6) (v := ?_) rfl (by kernel_rfl) (by kernel_rfl) (by kernel_rfl) (by kernel_rfl) (by kernel_rfl) (fun _ _ _ h => h) hC (by rfl) ?_ ?_
  rotate_left
  · intro w hSw; (try dsimp only at hSw); go_simp; try (with_reducible rfl)
  try simp only [Act.put, List.setIfInBounds_toArray, List.set_cons_zero, List.set_cons_succ]
  refine takeW (i := 7) (v := ?_) rfl (by kernel_rfl) (by kernel_rfl) (by kernel_rfl) (by kernel_rfl) (by kernel_rfl) (fun _ _ _ h => h) hC (by rfl) ?_ ?_
  rotate_left
  · intro w hSw; (try dsimp only at hSw); go_simp; try (with_reducible rfl)
  try simp only [Act.put, List.setIfInBounds_toArray, List.set_cons_zero, List.set_cons_succ]
  refine oneT (i := 8) (by kernel_rfl) rfl (by rfl) (fun K hK => ?_)
  go_simp
  refine HS.out.mono ?_
  rintro e w1 ⟨rfl, hn⟩
  refine hK.out _ _ (fun h => absurd h (by decide)) ?_
  clear hK K hC hC0 HS
  have HN := Lib.hid (gone_drew hn)
  clear hn
  try simp only [Act.put, List.setIfInBounds_toArray, List.set_cons_zero, List.set_cons_succ]
  refine oneT (i := 9) (by kernel_rfl) rfl (by rfl) (fun K hK => ?_)
  go_simp
  refine hK.out _ _ (fun h => absurd h (by decide)) ?_
  clear hK K
  try simp only [Act.put, List.setIfInBounds_toArray, List.set_cons_zero, List.set_cons_succ]
  refine doneT (by kernel_rfl) ?_
  by_cases hz : z = 0
  · subst hz
    go_wp2
    go_ret
    exact ⟨rfl, HN.out⟩
  · obtain ⟨FW1, k1, k2, k3⟩ := HN.out
    have c1 := only_read k2 nB HT.out.c1
    have c2 := k1.cells.1
    have HS := Lib.hid (nxW_free k1 HF.out z)
    have HE : Hid (∀ w', NxW d FW1 w1 (gFree z s1).2 w' → NxW d FW w (gFree z s1).2 w') := fun w' hw => by
      obtain ⟨F2, r1, r2, r3⟩ := hw
      exact ⟨F2, r1, k2.trans r2 k3, fun b e => (r3 b e).elim (k3 b) fun e => .inr (Nat.le_trans k2.size e)⟩
    have hzb : (z != 0) = true := by simpa using hz
    have HI : Hid ((if z = 0 then s1 else (gFree z s1).2) = (gFree z s1).2) := if_neg hz
    clear k1 k2 k3 HN HF HT
    go_wp2_with fail
    refine HS.out.mono ?_
    rintro e w2 ⟨b, rfl, -, hn⟩
    have HN := Lib.hid (HE.out _ hn)
    clear hn HS HE
    go_wp2
    go_ret
    exact ⟨rfl, by first | exact HN.out | (rw [HI.out]; exact HN.out)⟩
end
end Go.Proofs.Ytfloblofdkemlaa
