/-
  What the laws' Copy returns: a record of its own memory.
-/
import Derived.Test.YtokheagoddmmiaaLawA
namespace Go.Proofs.Ytokheagoddmmiaa
open Go.ChangeShapes Go.WideShapes Go.ChangeAt Go.RowKit
set_option linter.unusedVariables false
set_option linter.unusedSimpArgs false
set_option maxRecDepth 20000

set_option maxHeartbeats 4000000 in
theorem copy_walk (A B : Option Addr) (n c m d : Nat) (r : Rc) (w : World) (hr : Sl w A n c r.ns) (hk : Sl w B m d r.is) (hrl : r.ns.length ≤ 100) (hkl : r.is.length ≤ 100) :
    Calls Try.prog 14 #[rcv (.slice A n c) (.slice B m d) r] w (MadeR w r) := by
  obtain ⟨ns, is, kp, wy, od, nw⟩ := r
  simp only at hr hk hrl hkl
  obtain ⟨W, R, hW, hR, hb0, hs0, h6, hv6, hR0, l1, l2⟩ := boxed6 w (.slice A n c) (.slice B m d) kp wy od nw
  obtain ⟨c0, c1, -⟩ := h6.cells
  have HN := Lib.hid (hr.below hb0)
  have HM := Lib.hid (hk.below hb0)
  have HLN := Lib.hid hrl
  have HLM := Lib.hid hkl
  clear hr hk hrl hkl
  go_enter Try.func14, Try.ntmps14
  go_wp2_with fail
  (try rw [hW])
  clear hW hR
  have HW := Lib.hid hb0
  clear hb0
  generalize hb : w.heap.size = b at *
  have HB := Lib.hid hb
  clear hb
  have hbW : b < W.heap.size := by omega
  have HC : Hid (∀ w', Below W.heap.size W w' → (w'.cell? ⟨b, 0, none⟩ = some (.slice A n c) ∧ w'.cell? ⟨b, 1, none⟩ = some (.slice B m d))) := fun w' h => ⟨below_read h c0, below_read h c1⟩
  clear c0 c1
  refine region_T (fun j => j == 9 || j == 10 || j == 11) (fun w' => w'.cell? ⟨b, 0, none⟩ = some (.slice A n c) ∧ w'.cell? ⟨b, 1, none⟩ = some (.slice B m d)) (by kernel_rfl) ?_
  obtain ⟨X0, hX0, hbX0⟩ : ∃ X0 : World, W.drew = X0 ∧ Below W.heap.size W X0 := ⟨_, rfl, (Below.refl _ W).drew⟩
  rw [hX0]
  clear hX0
  have hC := HC.out X0 hbX0
  refine takeT (i := 1) (v := ?_) rfl (by kernel_rfl) (by kernel_rfl) (by kernel_rfl) (by kernel_rfl) (fun _ _ _ h => h) hC (by rfl) ?_ ?_
  rotate_left
  · intro w hSw; (try dsimp only at hSw); go_simp; try (with_reducible rfl)
  try simp only [Act.put, List.setIfInBounds_toArray, List.set_cons_zero, List.set_cons_succ]
  refine takeT (i := 2) (v := ?_) rfl (by kernel_rfl) (by kernel_rfl) (by kernel_rfl) (by kernel_rfl) (fun _ _ _ h => h) hC (by rfl) ?_ ?_
  rotate_left
  · intro w hSw; (try dsimp only at hSw); go_simp; try (with_reducible rfl)
  try simp only [Act.put, List.setIfInBounds_toArray, List.set_cons_zero, List.set_cons_succ]
  refine takeT (i := 5) (v := ?_) rfl (by kernel_rfl) (by kernel_rfl) (by kernel_rfl) (by kernel_rfl) (fun _ _ _ h => h) hC (by rfl) ?_ ?_
  rotate_left
  · intro w hSw; (try dsimp only at hSw); go_simp; try (with_reducible rfl)
  try simp only [Act.put, List.setIfInBounds_toArray, List.set_cons_zero, List.set_cons_succ]
  refine takeT (i := 6) (v := ?_) rfl (by kernel_rfl) (by kernel_rfl) (by kernel_rfl) (by kernel_rfl) (fun _ _ _ h => h) hC (by rfl) ?_ ?_
  rotate_left
  · intro w hSw; (try dsimp only at hSw); go_simp; try (with_reducible rfl)
  try simp only [Act.put, List.setIfInBounds_toArray, List.set_cons_zero, List.set_cons_succ]
  clear hC
  refine twoT (i := 0) (j := 4) (by kernel_rfl) rfl rfl (by rfl) (by rfl) (fun K hK => ?_) (fun K hK => ?_)
  · go_simp
    obtain ⟨X1, sN, hX, hs, hst, hblk⟩ : ∃ (X : World) (s : Nat), X0.alloc (.cells #[] 30) = X ∧ X0.heap.size = s ∧ Below X0.heap.size X0 X ∧ X.heap[s]? = some (.cells #[] 30 (0, 0)) := ⟨_, _, rfl, rfl, below_new _ _, h_new rfl⟩
    (try rw [hX]); (try rw [hs])
    have hbX1 := hbX0.trans (hst.mono hbX0.size)
    have rN := Row.of_block (base := W.heap.size) hblk (by rw [← hs]; exact hbX0.size)
    refine hK.out _ _ (fun _ => HC.out X1 hbX1) ?_
    clear hK K hst hX hs hblk
    try simp only [Act.put, List.setIfInBounds_toArray, List.set_cons_zero, List.set_cons_succ]
    refine twoT (i := 3) (j := 4) (by kernel_rfl) rfl rfl (by rfl) (by rfl) (fun K hK => ?_) (fun K hK => ?_)
    · obtain ⟨vN, X2, hrun, hrow, hg⟩ := run_pushAll rowR 28 _ [] rN A n c ns (HN.out.below hbX1) (by have := HLN.out; simp; omega) hbX1.size
      obtain ⟨FN, NN, fN, rfl⟩ := hrow.shape
      have hbX2 := hbX1.grown hg hbX1.size (fun q hq => (World.ownsRow.lt rN q hq).1)
      replace rN := hrow
      refine Lib.wp_append_run _ (.tmp 3) (.tmp 5) _ _ rfl _ _ rfl rfl _ _ hrun ?_
      refine hK.out _ _ (fun _ => HC.out X2 hbX2) ?_
      clear hK K hrun hrow hg
      try simp only [Act.put, List.setIfInBounds_toArray, List.set_cons_zero, List.set_cons_succ]
      have hC := HC.out X2 hbX2
      refine takeT (i := 8) (v := ?_) rfl (by kernel_rfl) (by kernel_rfl) (by kernel_rfl) (by kernel_rfl) (fun _ _ _ h => h) hC (by rfl) ?_ ?_
      rotate_left
      · intro w hSw; (try dsimp only at hSw); go_simp; try (with_reducible rfl)
      try simp only [Act.put, List.setIfInBounds_toArray, List.set_cons_zero, List.set_cons_succ]
      clear hC
      refine oneT (i := 4) (by kernel_rfl) rfl (by rfl) (fun K hK => ?_)
      go_simp
      obtain ⟨X3, sK, hX, hs, hst, hblk⟩ : ∃ (X : World) (s : Nat), X2.alloc (.cells #[] 2) = X ∧ X2.heap.size = s ∧ Below X2.heap.size X2 X ∧ X.heap[s]? = some (.cells #[] 2 (0, 0)) := ⟨_, _, rfl, rfl, below_new _ _, h_new rfl⟩
      (try rw [hX]); (try rw [hs])
      have hbX3 := hbX2.trans (hst.mono hbX2.size)
      have rK := Row.of_block (base := W.heap.size) hblk (by rw [← hs]; exact hbX2.size)
      replace rN := rN.next hst
      refine hK.out _ _ (fun _ => HC.out X3 hbX3) ?_
      clear hK K hst hX hs hblk
      try simp only [Act.put, List.setIfInBounds_toArray, List.set_cons_zero, List.set_cons_succ]
      refine oneT (i := 7) (by kernel_rfl) rfl (by rfl) (fun K hK => ?_)
      obtain ⟨vK, X4, hrun, hrow, hg⟩ := run_pushAll rowK 29 _ [] rK B m d is (HM.out.below hbX3) (by have := HLM.out; simp; omega) hbX3.size
      obtain ⟨FK, NK, fK, rfl⟩ := hrow.shape
      have hbX4 := hbX3.grown hg hbX3.size (fun q hq => (World.ownsRow.lt rK q hq).1)
      replace rN := rN.grown hg (rN.apart rK (by decide))
      replace rK := hrow
      refine Lib.wp_append_run _ (.tmp 7) (.tmp 9) _ _ rfl _ _ rfl rfl _ _ hrun ?_
      refine hK.out _ _ (fun _ => HC.out X4 hbX4) ?_
      clear hK K hrun hrow hg
      try simp only [Act.put, List.setIfInBounds_toArray, List.set_cons_zero, List.set_cons_succ]
      obtain ⟨Z1, hZ1⟩ : ∃ Z : World, X4.setCell ⟨b, 0, none⟩ (.slice FN NN fN) = Z := ⟨_, rfl⟩
      obtain ⟨Z2, hZ2⟩ : ∃ Z : World, Z1.setCell ⟨b, 1, none⟩ (.slice FK NK fK) = Z := ⟨_, rfl⟩
      have g0 := h6.below hbX4
      have gv := (hv6.below hbX4).off (p := ⟨b, 0, none⟩) l2 (.slice FN NN fN)
      have g1 := g0.set0 (.slice FN NN fN)
      rw [hZ1] at gv g1
      have g2 := g1.set1 (.slice FK NK fK)
      replace gv := gv.off (p := ⟨b, 1, none⟩) l2 (.slice FK NK fK)
      rw [hZ2] at gv g2
      have HE := Lib.hid (six_end (w := w) (r := ⟨ns, is, kp, wy, od, nw⟩) (Z := Z2) (B := W.heap.size) (u := .slice FN NN fN) (v := .slice FK NK fK) (by rw [← hZ2, ← hZ1]; exact ((show Row _ _ _ _ ns by simpa using rN).set_below (p := ⟨b, 0, none⟩) hbW _).set_below (p := ⟨b, 1, none⟩) hbW _) (by rw [← hZ2, ← hZ1]; exact ((show Row _ _ _ _ is by simpa using rK).set_below (p := ⟨b, 0, none⟩) hbW _).set_below (p := ⟨b, 1, none⟩) hbW _) hs0 (by have := HB.out; omega) (by have := HB.out; subst this; rw [← hZ2, ← hZ1]; exact ((HW.out.trans (hbX4.mono (by omega))).setCell (p := ⟨_, 0, none⟩) (Nat.le_refl _) _).setCell (p := ⟨_, 1, none⟩) (Nat.le_refl _) _) (by have := HB.out; omega) gv)
      obtain ⟨y0, y1, y2, y3, y4, y5⟩ := g0.cells
      obtain ⟨z0, z1, -, -, -, -⟩ := g0.frees
      obtain ⟨x0, x1, x2, x3, x4, x5⟩ := g1.cells
      obtain ⟨q0, q1, -, -, -, -⟩ := g1.frees
      clear rN rK
      refine oneT (i := 9) (by kernel_rfl) rfl (by rfl) (fun K hK => ?_)
      go_simp
      (try rw [hZ1])
      refine hK.out _ _ (fun h => absurd h (by decide)) ?_
      clear hK K
      try simp only [Act.put, List.setIfInBounds_toArray, List.set_cons_zero, List.set_cons_succ]
      refine oneT (i := 10) (by kernel_rfl) rfl (by rfl) (fun K hK => ?_)
      go_simp
      refine hK.out _ _ (fun h => absurd h (by decide)) ?_
      clear hK K
      try simp only [Act.put, List.setIfInBounds_toArray, List.set_cons_zero, List.set_cons_succ]
      refine oneT (i := 11) (by kernel_rfl) rfl (by rfl) (fun K hK => ?_)
      go_simp
      (try rw [hZ2])
      refine hK.out _ _ (fun h => absurd h (by decide)) ?_
      clear hK K
      refine doneT (by kernel_rfl) ?_
      clear y0 y1 y2 y3 y4 y5 z0 z1 x0 x1 x2 x3 x4 x5 q0 q1 hZ1 hZ2
      obtain ⟨y0, y1, y2, y3, y4, y5⟩ := g2.cells
      obtain ⟨x0, x1, x2, x3, x4, x5⟩ := gv.cells
      obtain ⟨z0, z1, z2, z3, z4, z5⟩ := gv.frees
      clear g0 g1 g2 gv hbX4
      go_wp2
      obtain ⟨h1, h2⟩ := HE.out
      ((try simp only [Exit.inBlock, Exit.then]); refine bodyPost_ret (results_six rfl rfl h1) rfl ?_)
      exact h2
    · go_simp
      obtain ⟨X2, sK, hX, hs, hst, hblk⟩ : ∃ (X : World) (s : Nat), X1.alloc (.cells #[] 2) = X ∧ X1.heap.size = s ∧ Below X1.heap.size X1 X ∧ X.heap[s]? = some (.cells #[] 2 (0, 0)) := ⟨_, _, rfl, rfl, below_new _ _, h_new rfl⟩
      (try rw [hX]); (try rw [hs])
      have hbX2 := hbX1.trans (hst.mono hbX1.size)
      have rK := Row.of_block (base := W.heap.size) hblk (by rw [← hs]; exact hbX1.size)
      replace rN := rN.next hst
      refine hK.out _ _ (fun _ => HC.out X2 hbX2) ?_
      clear hK K hst hX hs hblk
      try simp only [Act.put, List.setIfInBounds_toArray, List.set_cons_zero, List.set_cons_succ]
      refine oneT (i := 3) (by kernel_rfl) rfl (by rfl) (fun K hK => ?_)
      obtain ⟨vN, X3, hrun, hrow, hg⟩ := run_pushAll rowR 28 _ [] rN A n c ns (HN.out.below hbX2) (by have := HLN.out; simp; omega) hbX2.size
      obtain ⟨FN, NN, fN, rfl⟩ := hrow.shape
      have hbX3 := hbX2.grown hg hbX2.size (fun q hq => (World.ownsRow.lt rN q hq).1)
      replace rK := rK.grown hg (rK.apart rN (by decide))
      replace rN := hrow
      refine Lib.wp_append_run _ (.tmp 3) (.tmp 5) _ _ rfl _ _ rfl rfl _ _ hrun ?_
      refine hK.out _ _ (fun _ => HC.out X3 hbX3) ?_
      clear hK K hrun hrow hg
      try simp only [Act.put, List.setIfInBounds_toArray, List.set_cons_zero, List.set_cons_succ]
      have hC := HC.out X3 hbX3
      refine takeT (i := 8) (v := ?_) rfl (by kernel_rfl) (by kernel_rfl) (by kernel_rfl) (by kernel_rfl) (fun _ _ _ h => h) hC (by rfl) ?_ ?_
      rotate_left
      · intro w hSw; (try dsimp only at hSw); go_simp; try (with_reducible rfl)
      try simp only [Act.put, List.setIfInBounds_toArray, List.set_cons_zero, List.set_cons_succ]
      clear hC
      refine oneT (i := 7) (by kernel_rfl) rfl (by rfl) (fun K hK => ?_)
      obtain ⟨vK, X4, hrun, hrow, hg⟩ := run_pushAll rowK 29 _ [] rK B m d is (HM.out.below hbX3) (by have := HLM.out; simp; omega) hbX3.size
      obtain ⟨FK, NK, fK, rfl⟩ := hrow.shape
      have hbX4 := hbX3.grown hg hbX3.size (fun q hq => (World.ownsRow.lt rK q hq).1)
      replace rN := rN.grown hg (rN.apart rK (by decide))
      replace rK := hrow
      refine Lib.wp_append_run _ (.tmp 7) (.tmp 9) _ _ rfl _ _ rfl rfl _ _ hrun ?_
      refine hK.out _ _ (fun _ => HC.out X4 hbX4) ?_
      clear hK K hrun hrow hg
      try simp only [Act.put, List.setIfInBounds_toArray, List.set_cons_zero, List.set_cons_succ]
      obtain ⟨Z1, hZ1⟩ : ∃ Z : World, X4.setCell ⟨b, 0, none⟩ (.slice FN NN fN) = Z := ⟨_, rfl⟩
      obtain ⟨Z2, hZ2⟩ : ∃ Z : World, Z1.setCell ⟨b, 1, none⟩ (.slice FK NK fK) = Z := ⟨_, rfl⟩
      have g0 := h6.below hbX4
      have gv := (hv6.below hbX4).off (p := ⟨b, 0, none⟩) l2 (.slice FN NN fN)
      have g1 := g0.set0 (.slice FN NN fN)
      rw [hZ1] at gv g1
      have g2 := g1.set1 (.slice FK NK fK)
      replace gv := gv.off (p := ⟨b, 1, none⟩) l2 (.slice FK NK fK)
      rw [hZ2] at gv g2
      have HE := Lib.hid (six_end (w := w) (r := ⟨ns, is, kp, wy, od, nw⟩) (Z := Z2) (B := W.heap.size) (u := .slice FN NN fN) (v := .slice FK NK fK) (by rw [← hZ2, ← hZ1]; exact ((show Row _ _ _ _ ns by simpa using rN).set_below (p := ⟨b, 0, none⟩) hbW _).set_below (p := ⟨b, 1, none⟩) hbW _) (by rw [← hZ2, ← hZ1]; exact ((show Row _ _ _ _ is by simpa using rK).set_below (p := ⟨b, 0, none⟩) hbW _).set_below (p := ⟨b, 1, none⟩) hbW _) hs0 (by have := HB.out; omega) (by have := HB.out; subst this; rw [← hZ2, ← hZ1]; exact ((HW.out.trans (hbX4.mono (by omega))).setCell (p := ⟨_, 0, none⟩) (Nat.le_refl _) _).setCell (p := ⟨_, 1, none⟩) (Nat.le_refl _) _) (by have := HB.out; omega) gv)
      obtain ⟨y0, y1, y2, y3, y4, y5⟩ := g0.cells
      obtain ⟨z0, z1, -, -, -, -⟩ := g0.frees
      obtain ⟨x0, x1, x2, x3, x4, x5⟩ := g1.cells
      obtain ⟨q0, q1, -, -, -, -⟩ := g1.frees
      clear rN rK
      refine oneT (i := 9) (by kernel_rfl) rfl (by rfl) (fun K hK => ?_)
      go_simp
      (try rw [hZ1])
      refine hK.out _ _ (fun h => absurd h (by decide)) ?_
      clear hK K
      try simp only [Act.put, List.setIfInBounds_toArray, List.set_cons_zero, List.set_cons_succ]
      refine oneT (i := 10) (by kernel_rfl) rfl (by rfl) (fun K hK => ?_)
      go_simp
      refine hK.out _ _ (fun h => absurd h (by decide)) ?_
      clear hK K
      try simp only [Act.put, List.setIfInBounds_toArray, List.set_cons_zero, List.set_cons_succ]
      refine oneT (i := 11) (by kernel_rfl) rfl (by rfl) (fun K hK => ?_)
      go_simp
      (try rw [hZ2])
      refine hK.out _ _ (fun h => absurd h (by decide)) ?_
      clear hK K
      refine doneT (by kernel_rfl) ?_
      clear y0 y1 y2 y3 y4 y5 z0 z1 x0 x1 x2 x3 x4 x5 q0 q1 hZ1 hZ2
      obtain ⟨y0, y1, y2, y3, y4, y5⟩ := g2.cells
      obtain ⟨x0, x1, x2, x3, x4, x5⟩ := gv.cells
      obtain ⟨z0, z1, z2, z3, z4, z5⟩ := gv.frees
      clear g0 g1 g2 gv hbX4
      go_wp2
      obtain ⟨h1, h2⟩ := HE.out
      ((try simp only [Exit.inBlock, Exit.then]); refine bodyPost_ret (results_six rfl rfl h1) rfl ?_)
      exact h2
  · go_simp
    obtain ⟨X1, sK, hX, hs, hst, hblk⟩ : ∃ (X : World) (s : Nat), X0.alloc (.cells #[] 2) = X ∧ X0.heap.size = s ∧ Below X0.heap.size X0 X ∧ X.heap[s]? = some (.cells #[] 2 (0, 0)) := ⟨_, _, rfl, rfl, below_new _ _, h_new rfl⟩
    (try rw [hX]); (try rw [hs])
    have hbX1 := hbX0.trans (hst.mono hbX0.size)
    have rK := Row.of_block (base := W.heap.size) hblk (by rw [← hs]; exact hbX0.size)
    refine hK.out _ _ (fun _ => HC.out X1 hbX1) ?_
    clear hK K hst hX hs hblk
    try simp only [Act.put, List.setIfInBounds_toArray, List.set_cons_zero, List.set_cons_succ]
    refine oneT (i := 0) (by kernel_rfl) rfl (by rfl) (fun K hK => ?_)
    go_simp
    obtain ⟨X2, sN, hX, hs, hst, hblk⟩ : ∃ (X : World) (s : Nat), X1.alloc (.cells #[] 30) = X ∧ X1.heap.size = s ∧ Below X1.heap.size X1 X ∧ X.heap[s]? = some (.cells #[] 30 (0, 0)) := ⟨_, _, rfl, rfl, below_new _ _, h_new rfl⟩
    (try rw [hX]); (try rw [hs])
    have hbX2 := hbX1.trans (hst.mono hbX1.size)
    have rN := Row.of_block (base := W.heap.size) hblk (by rw [← hs]; exact hbX1.size)
    replace rK := rK.next hst
    refine hK.out _ _ (fun _ => HC.out X2 hbX2) ?_
    clear hK K hst hX hs hblk
    try simp only [Act.put, List.setIfInBounds_toArray, List.set_cons_zero, List.set_cons_succ]
    refine oneT (i := 3) (by kernel_rfl) rfl (by rfl) (fun K hK => ?_)
    obtain ⟨vN, X3, hrun, hrow, hg⟩ := run_pushAll rowR 28 _ [] rN A n c ns (HN.out.below hbX2) (by have := HLN.out; simp; omega) hbX2.size
    obtain ⟨FN, NN, fN, rfl⟩ := hrow.shape
    have hbX3 := hbX2.grown hg hbX2.size (fun q hq => (World.ownsRow.lt rN q hq).1)
    replace rK := rK.grown hg (rK.apart rN (by decide))
    replace rN := hrow
    refine Lib.wp_append_run _ (.tmp 3) (.tmp 5) _ _ rfl _ _ rfl rfl _ _ hrun ?_
    refine hK.out _ _ (fun _ => HC.out X3 hbX3) ?_
    clear hK K hrun hrow hg
    try simp only [Act.put, List.setIfInBounds_toArray, List.set_cons_zero, List.set_cons_succ]
    have hC := HC.out X3 hbX3
    refine takeT (i := 8) (v := ?_) rfl (by kernel_rfl) (by kernel_rfl) (by kernel_rfl) (by kernel_rfl) (fun _ _ _ h => h) hC (by rfl) ?_ ?_
    rotate_left
    · intro w hSw; (try dsimp only at hSw); go_simp; try (with_reducible rfl)
    try simp only [Act.put, List.setIfInBounds_toArray, List.set_cons_zero, List.set_cons_succ]
    clear hC
    refine oneT (i := 7) (by kernel_rfl) rfl (by rfl) (fun K hK => ?_)
    obtain ⟨vK, X4, hrun, hrow, hg⟩ := run_pushAll rowK 29 _ [] rK B m d is (HM.out.below hbX3) (by have := HLM.out; simp; omega) hbX3.size
    obtain ⟨FK, NK, fK, rfl⟩ := hrow.shape
    have hbX4 := hbX3.grown hg hbX3.size (fun q hq => (World.ownsRow.lt rK q hq).1)
    replace rN := rN.grown hg (rN.apart rK (by decide))
    replace rK := hrow
    refine Lib.wp_append_run _ (.tmp 7) (.tmp 9) _ _ rfl _ _ rfl rfl _ _ hrun ?_
    refine hK.out _ _ (fun _ => HC.out X4 hbX4) ?_
    clear hK K hrun hrow hg
    try simp only [Act.put, List.setIfInBounds_toArray, List.set_cons_zero, List.set_cons_succ]
    obtain ⟨Z1, hZ1⟩ : ∃ Z : World, X4.setCell ⟨b, 0, none⟩ (.slice FN NN fN) = Z := ⟨_, rfl⟩
    obtain ⟨Z2, hZ2⟩ : ∃ Z : World, Z1.setCell ⟨b, 1, none⟩ (.slice FK NK fK) = Z := ⟨_, rfl⟩
    have g0 := h6.below hbX4
    have gv := (hv6.below hbX4).off (p := ⟨b, 0, none⟩) l2 (.slice FN NN fN)
    have g1 := g0.set0 (.slice FN NN fN)
    rw [hZ1] at gv g1
    have g2 := g1.set1 (.slice FK NK fK)
    replace gv := gv.off (p := ⟨b, 1, none⟩) l2 (.slice FK NK fK)
    rw [hZ2] at gv g2
    have HE := Lib.hid (six_end (w := w) (r := ⟨ns, is, kp, wy, od, nw⟩) (Z := Z2) (B := W.heap.size) (u := .slice FN NN fN) (v := .slice FK NK fK) (by rw [← hZ2, ← hZ1]; exact ((show Row _ _ _ _ ns by simpa using rN).set_below (p := ⟨b, 0, none⟩) hbW _).set_below (p := ⟨b, 1, none⟩) hbW _) (by rw [← hZ2, ← hZ1]; exact ((show Row _ _ _ _ is by simpa using rK).set_below (p := ⟨b, 0, none⟩) hbW _).set_below (p := ⟨b, 1, none⟩) hbW _) hs0 (by have := HB.out; omega) (by have := HB.out; subst this; rw [← hZ2, ← hZ1]; exact ((HW.out.trans (hbX4.mono (by omega))).setCell (p := ⟨_, 0, none⟩) (Nat.le_refl _) _).setCell (p := ⟨_, 1, none⟩) (Nat.le_refl _) _) (by have := HB.out; omega) gv)
    obtain ⟨y0, y1, y2, y3, y4, y5⟩ := g0.cells
    obtain ⟨z0, z1, -, -, -, -⟩ := g0.frees
    obtain ⟨x0, x1, x2, x3, x4, x5⟩ := g1.cells
    obtain ⟨q0, q1, -, -, -, -⟩ := g1.frees
    clear rN rK
    refine oneT (i := 9) (by kernel_rfl) rfl (by rfl) (fun K hK => ?_)
    go_simp
    (try rw [hZ1])
    refine hK.out _ _ (fun h => absurd h (by decide)) ?_
    clear hK K
    try simp only [Act.put, List.setIfInBounds_toArray, List.set_cons_zero, List.set_cons_succ]
    refine oneT (i := 10) (by kernel_rfl) rfl (by rfl) (fun K hK => ?_)
    go_simp
    refine hK.out _ _ (fun h => absurd h (by decide)) ?_
    clear hK K
    try simp only [Act.put, List.setIfInBounds_toArray, List.set_cons_zero, List.set_cons_succ]
    refine oneT (i := 11) (by kernel_rfl) rfl (by rfl) (fun K hK => ?_)
    go_simp
    (try rw [hZ2])
    refine hK.out _ _ (fun h => absurd h (by decide)) ?_
    clear hK K
    refine doneT (by kernel_rfl) ?_
    clear y0 y1 y2 y3 y4 y5 z0 z1 x0 x1 x2 x3 x4 x5 q0 q1 hZ1 hZ2
    obtain ⟨y0, y1, y2, y3, y4, y5⟩ := g2.cells
    obtain ⟨x0, x1, x2, x3, x4, x5⟩ := gv.cells
    obtain ⟨z0, z1, z2, z3, z4, z5⟩ := gv.frees
    clear g0 g1 g2 gv hbX4
    go_wp2
    obtain ⟨h1, h2⟩ := HE.out
    ((try simp only [Exit.inBlock, Exit.then]); refine bodyPost_ret (results_six rfl rfl h1) rfl ?_)
    exact h2
end Go.Proofs.Ytokheagoddmmiaa
