/-
  The law RecordKeeps.
-/
import Derived.Test.YtokheagoddmmiaaKeep5
namespace Go.Proofs.Ytokheagoddmmiaa
open Go.ChangeShapes Go.WideShapes Go.ChangeAt Go.RowKit
set_option linter.unusedVariables false
set_option linter.unusedSimpArgs false
set_option maxRecDepth 20000

theorem box_one (w1 : World) : ∃ (W : World) (b : Nat), put6 (w1.alloc (.cells #[.slice none 0 0, .slice none 0 0, .int .i64 0, .int .i64 0, .int .i64 0, .int .i64 0] 32)) b (.slice none 0 0) (.slice none 0 0) 1 0 0 0 = W ∧ w1.heap.size = b ∧ LI w1 b (.slice none 0 0) (.slice none 0 0) [] W :=
  ⟨_, _, rfl, rfl, (Six.new w1 rfl _ _ _ _ _ _).put, Row.nil _ _ _, Row.nil _ _ _, below_put6 (below_new _ _) (Nat.le_refl _)⟩

set_option maxHeartbeats 8000000 in
theorem recordKeeps_walk (A : Option Addr) (n c : Nat) (l : List Int) (w : World) (hl : Sl w A n c l) :
    Calls Try.prog 7 #[.slice A n c] w fun e w' => e = .returned (.bool true) ∧ Below w.heap.size w w' := by
  have HL := Lib.hid hl
  clear hl
  by_cases hn : n ≤ 20
  case neg =>
    have h20 : (20 : Int) < (n : Int) := by omega
    go_enter Try.func7, Try.ntmps7
    go_wp2_with fail
    refine (awake_walk w).mono ?_
    rintro e w1 ⟨rfl, b1⟩
    go_wp2
    go_ret
    exact ⟨rfl, b1⟩
  have h20 : ¬ ((20 : Int) < (n : Int)) := by omega
  go_enter Try.func7, Try.ntmps7
  go_wp2_with fail
  refine (awake_walk w).mono ?_
  rintro e w1 ⟨rfl, b1⟩
  obtain ⟨W, b, hW, hb, hLI⟩ := box_one w1
  have HI : Hid (∃ u v, LI w1 b u v (l.take 0) W) := ⟨_, _, hLI⟩
  have HB1 := Lib.hid b1
  have HWB : Hid (w.heap.size ≤ b ∧ w1.heap.size = b) := ⟨by have := b1.size; omega, hb⟩
  clear hLI b1
  obtain ⟨W0, hW0, g6⟩ : ∃ W0 : World, w1.alloc (.cells #[.slice none 0 0, .slice none 0 0, .int .i64 0, .int .i64 0, .int .i64 0, .int .i64 0] 32) = W0 ∧ Six W0 b (.slice none 0 0) (.slice none 0 0) 0 0 0 0 := ⟨_, rfl, Six.new w1 hb _ _ _ _ _ _⟩
  rw [hW0] at hW
  obtain ⟨x0, x1, x2, x3, x4, x5⟩ := g6.cells
  obtain ⟨z0, z1, z2, z3, z4, z5⟩ := g6.frees
  clear g6
  go_wp2_with fail
  (try rw [hW])
  clear hW hb hW0 x0 x1 x2 x3 x4 x5 z0 z1 z2 z3 z4 z5
  go_loopw [20] (fun i wr => ∃ k : Nat, k ≤ n ∧ i = .int .i64 (k : Int) ∧ Hid (∃ u v, LI w1 b u v (l.take k) wr)) (fun i _ => n - (intOf i).toNat)
  case atStart => exact ⟨0, by omega, rfl, HI⟩
  case round =>
    clear HI
    obtain ⟨k, hk, rfl, HH⟩ := hrel
    obtain ⟨u, v, hI⟩ := HH.out
    obtain ⟨A1, n1, c1, rfl⟩ := hI.nod.shape
    obtain ⟨A2, n2, c2, rfl⟩ := hI.inf.shape
    clear HH
    by_cases hlt : k < n
    · have i0 : (0 : Int) ≤ (k : Int) := by omega
      have i1 : (k : Int) < (n : Int) := by omega
      have hkl : k < l.length := by rw [← HL.out.len]; exact hlt
      obtain ⟨g, off, rfl, hgl, hc0⟩ := HL.out.at_ hkl
      have HTK : Hid (l.take (k + 1) = l.take k ++ [l[k]]) := take_snoc l k hkl
      have HLT : Hid ((l.take k).length ≤ 20) := by show _ ≤ _; rw [List.length_take]; omega
      generalize hz : l[k] = z at *
      have d0 : wr.cell? ⟨g, off + k, none⟩ = some (.int .i64 z) := by
        have h1 := below_read HB1.out hc0
        exact (hI.bel.cell (p := ⟨g, off + k, none⟩) (show g < b by have := HWB.out; omega)).trans h1
      clear hc0 hz hgl
      obtain ⟨c0, c1', -⟩ := hI.box.cells
      have HC : Hid (∀ w', Below (b + 1) wr w' → (w'.cell? ⟨b, 0, none⟩ = some (.slice A1 n1 c1) ∧ w'.cell? ⟨b, 1, none⟩ = some (.slice A2 n2 c2))) := fun w' h => ⟨(h.cell (p := ⟨b, 0, none⟩) (Nat.lt_succ_self b)).trans c0, (h.cell (p := ⟨b, 1, none⟩) (Nat.lt_succ_self b)).trans c1'⟩
      have rN := hI.nod
      have rK := hI.inf
      have H6 := Lib.hid hI.box
      have HBE := Lib.hid hI.bel
      have hbs : b + 1 ≤ wr.heap.size := hI.box.lt
      clear hI c0 c1'
      go_wp2_with fail
      clear d0
      refine region_T (fun j => j == 11 || j == 12 || j == 13) (fun w' => w'.cell? ⟨b, 0, none⟩ = some (.slice A1 n1 c1) ∧ w'.cell? ⟨b, 1, none⟩ = some (.slice A2 n2 c2)) (by kernel_rfl) ?_
      obtain ⟨X0, hX0, hbX0⟩ : ∃ X0 : World, wr.drew = X0 ∧ Below (b + 1) wr X0 := ⟨_, rfl, (Below.refl _ wr).drew⟩
      rw [hX0]
      replace rN := rN.drew
      replace rK := rK.drew
      rw [hX0] at rN rK
      clear hX0
      have hC := HC.out X0 hbX0
      refine takeT (i := 0) (v := ?_) rfl (by kernel_rfl) (by kernel_rfl) (by kernel_rfl) (by kernel_rfl) (fun _ _ _ h => h) hC (by rfl) ?_ ?_
      rotate_left
      · intro w hSw; (try dsimp only at hSw); go_simp; try (with_reducible rfl)
      try simp only [Act.put, List.setIfInBounds_toArray, List.set_cons_zero, List.set_cons_succ]
      refine takeT (i := 1) (v := ?_) rfl (by kernel_rfl) (by kernel_rfl) (by kernel_rfl) (by kernel_rfl) (fun _ _ _ h => h) hC (by rfl) ?_ ?_
      rotate_left
      · intro w hSw; (try dsimp only at hSw); go_simp; try (with_reducible rfl)
      try simp only [Act.put, List.setIfInBounds_toArray, List.set_cons_zero, List.set_cons_succ]
      refine takeT (i := 2) (v := ?_) rfl (by kernel_rfl) (by kernel_rfl) (by kernel_rfl) (by kernel_rfl) (fun _ _ _ h => h) hC (by rfl) ?_ ?_
      rotate_left
      · intro w hSw; (try dsimp only at hSw); go_simp; try (with_reducible rfl)
      try simp only [Act.put, List.setIfInBounds_toArray, List.set_cons_zero, List.set_cons_succ]
      refine takeT (i := 5) (v := ?_) rfl (by kernel_rfl) (by kernel_rfl) (by kernel_rfl) (by kernel_rfl) (fun _ _ _ h => h) hC (by rfl) ?_ ?_
      rotate_left
      · intro w hSw; (try dsimp only at hSw); go_simp; try (with_reducible rfl)
      try simp only [Act.put, List.setIfInBounds_toArray, List.set_cons_zero, List.set_cons_succ]
      refine takeT (i := 6) (v := ?_) rfl (by kernel_rfl) (by kernel_rfl) (by kernel_rfl) (by kernel_rfl) (fun _ _ _ h => h) hC (by rfl) ?_ ?_
      rotate_left
      · intro w hSw; (try dsimp only at hSw); go_simp; try (with_reducible rfl)
      try simp only [Act.put, List.setIfInBounds_toArray, List.set_cons_zero, List.set_cons_succ]
      clear hC
      refine twoT (i := 3) (j := 7) (by kernel_rfl) rfl rfl (by rfl) (by rfl) (fun K hK => ?_) (fun K hK => ?_)
      · go_simp
        obtain ⟨X1, sN, hX, hs, hst, hblkN⟩ : ∃ (X : World) (s : Nat), X0.alloc (.cells #[.int .i64 z] 30) = X ∧ X0.heap.size = s ∧ Below X0.heap.size X0 X ∧ X.heap[s]? = some (.cells #[.int .i64 z] 30 (0, 0)) := ⟨_, _, rfl, rfl, below_new _ _, h_new rfl⟩
        (try rw [hX]); (try rw [hs])
        have hbX1 := hbX0.trans (hst.mono (Nat.le_trans hbs hbX0.size))
        replace rN := rN.next hst
        replace rK := rK.next hst
        refine hK.out _ _ (fun _ => HC.out X1 hbX1) ?_
        clear hK K hst hX hs
        try simp only [Act.put, List.setIfInBounds_toArray, List.set_cons_zero, List.set_cons_succ]
        refine twoT (i := 4) (j := 7) (by kernel_rfl) rfl rfl (by rfl) (by rfl) (fun K hK => ?_) (fun K hK => ?_)
        · obtain ⟨vN, X2, hrun, hrow, hg⟩ := run_pushAll rowR 28 _ _ rN (some ⟨sN, 0, none⟩) 1 1 [z] (sl_one (by rw [cell_of_row X1 sN 0 _ _ (0, 0) hblkN]; rfl)) (by have := HLT.out; simp; omega) (Nat.le_trans hbs hbX1.size)
          obtain ⟨FN, NN, fN, rfl⟩ := hrow.shape
          have hbX2 := hbX1.grown hg (Nat.le_trans hbs hbX1.size) (fun q hq => (World.ownsRow.lt rN q hq).1)
          replace rK := rK.grown hg (rK.apart rN (by decide))
          replace rN := hrow
          refine Lib.wp_append_run _ (.tmp 25) (.tmp 27) _ _ rfl _ _ rfl rfl _ _ hrun ?_
          refine hK.out _ _ (fun _ => HC.out X2 hbX2) ?_
          clear hK K hrun hrow hg
          try simp only [Act.put, List.setIfInBounds_toArray, List.set_cons_zero, List.set_cons_succ]
          have hC := HC.out X2 hbX2
          refine takeT (i := 10) (v := ?_) rfl (by kernel_rfl) (by kernel_rfl) (by kernel_rfl) (by kernel_rfl) (fun _ _ _ h => h) hC (by rfl) ?_ ?_
          rotate_left
          · intro w hSw; (try dsimp only at hSw); go_simp; try (with_reducible rfl)
          try simp only [Act.put, List.setIfInBounds_toArray, List.set_cons_zero, List.set_cons_succ]
          clear hC
          refine oneT (i := 7) (by kernel_rfl) rfl (by rfl) (fun K hK => ?_)
          go_simp
          refine hK.out _ _ (fun _ => HC.out X2 hbX2) ?_
          clear hK K
          try simp only [Act.put, List.setIfInBounds_toArray, List.set_cons_zero, List.set_cons_succ]
          refine oneT (i := 8) (by kernel_rfl) rfl (by rfl) (fun K hK => ?_)
          go_simp
          obtain ⟨X3, sK, hX, hs, hst, hblkK⟩ : ∃ (X : World) (s : Nat), X2.alloc (.cells #[.int .i64 z] 2) = X ∧ X2.heap.size = s ∧ Below X2.heap.size X2 X ∧ X.heap[s]? = some (.cells #[.int .i64 z] 2 (0, 0)) := ⟨_, _, rfl, rfl, below_new _ _, h_new rfl⟩
          (try rw [hX]); (try rw [hs])
          have hbX3 := hbX2.trans (hst.mono (Nat.le_trans hbs hbX2.size))
          replace rN := rN.next hst
          replace rK := rK.next hst
          refine hK.out _ _ (fun _ => HC.out X3 hbX3) ?_
          clear hK K hst hX hs
          try simp only [Act.put, List.setIfInBounds_toArray, List.set_cons_zero, List.set_cons_succ]
          refine oneT (i := 9) (by kernel_rfl) rfl (by rfl) (fun K hK => ?_)
          obtain ⟨vK, X4, hrun, hrow, hg⟩ := run_pushAll rowK 29 _ _ rK (some ⟨sK, 0, none⟩) 1 1 [z] (sl_one (by rw [cell_of_row X3 sK 0 _ _ (0, 0) hblkK]; rfl)) (by have := HLT.out; simp; omega) (Nat.le_trans hbs hbX3.size)
          obtain ⟨FK, NK, fK, rfl⟩ := hrow.shape
          have hbX4 := hbX3.grown hg (Nat.le_trans hbs hbX3.size) (fun q hq => (World.ownsRow.lt rK q hq).1)
          replace rN := rN.grown hg (rN.apart rK (by decide))
          replace rK := hrow
          refine Lib.wp_append_run _ (.tmp 30) (.tmp 32) _ _ rfl _ _ rfl rfl _ _ hrun ?_
          refine hK.out _ _ (fun _ => HC.out X4 hbX4) ?_
          clear hK K hrun hrow hg
          try simp only [Act.put, List.setIfInBounds_toArray, List.set_cons_zero, List.set_cons_succ]
          obtain ⟨Z1, hZ1⟩ : ∃ Z : World, X4.setCell ⟨b, 0, none⟩ (.slice FN NN fN) = Z := ⟨_, rfl⟩
          obtain ⟨Z2, hZ2⟩ : ∃ Z : World, Z1.setCell ⟨b, 1, none⟩ (.slice FK NK fK) = Z := ⟨_, rfl⟩
          have g0 : Six X4 b _ _ 1 0 0 0 := (hbX4.block b (Nat.lt_succ_self b)).trans H6.out
          have g1 := g0.set0 (.slice FN NN fN)
          rw [hZ1] at g1
          have HE : Hid (LI w1 b (.slice FN NN fN) (.slice FK NK fK) (l.take (k + 1)) Z2) := by have hx := LI.next g0 rN rK (HBE.out.trans (hbX4.mono (Nat.le_succ b))); rw [hZ1, hZ2] at hx; rw [HTK.out]; exact hx
          obtain ⟨y0, y1, y2, y3, y4, y5⟩ := g0.cells
          obtain ⟨z0, z1, -, -, -, -⟩ := g0.frees
          obtain ⟨x0, x1, x2, x3, x4, x5⟩ := g1.cells
          obtain ⟨q0, q1, -, -, -, -⟩ := g1.frees
          clear rN rK
          refine oneT (i := 11) (by kernel_rfl) rfl (by rfl) (fun K hK => ?_)
          go_simp
          (try rw [hZ1])
          refine hK.out _ _ (fun h => absurd h (by decide)) ?_
          clear hK K
          try simp only [Act.put, List.setIfInBounds_toArray, List.set_cons_zero, List.set_cons_succ]
          refine oneT (i := 12) (by kernel_rfl) rfl (by rfl) (fun K hK => ?_)
          go_simp
          refine hK.out _ _ (fun h => absurd h (by decide)) ?_
          clear hK K
          try simp only [Act.put, List.setIfInBounds_toArray, List.set_cons_zero, List.set_cons_succ]
          refine oneT (i := 13) (by kernel_rfl) rfl (by rfl) (fun K hK => ?_)
          go_simp
          (try rw [hZ2])
          refine hK.out _ _ (fun h => absurd h (by decide)) ?_
          clear hK K
          refine doneT (by kernel_rfl) ?_
          clear y0 y1 y2 y3 y4 y5 z0 z1 x0 x1 x2 x3 x4 x5 q0 q1 hZ1 hZ2 g0 g1 hbX4
          go_wp2
          go_roundw
          case rel => exact ⟨k + 1, by omega, by go_num, li_some HE⟩
          case measure => simp [intOf]; omega
        · go_simp
          refine hK.out _ _ (fun _ => HC.out X1 hbX1) ?_
          clear hK K
          try simp only [Act.put, List.setIfInBounds_toArray, List.set_cons_zero, List.set_cons_succ]
          refine twoT (i := 4) (j := 8) (by kernel_rfl) rfl rfl (by rfl) (by rfl) (fun K hK => ?_) (fun K hK => ?_)
          · obtain ⟨vN, X2, hrun, hrow, hg⟩ := run_pushAll rowR 28 _ _ rN (some ⟨sN, 0, none⟩) 1 1 [z] (sl_one (by rw [cell_of_row X1 sN 0 _ _ (0, 0) hblkN]; rfl)) (by have := HLT.out; simp; omega) (Nat.le_trans hbs hbX1.size)
            obtain ⟨FN, NN, fN, rfl⟩ := hrow.shape
            have hbX2 := hbX1.grown hg (Nat.le_trans hbs hbX1.size) (fun q hq => (World.ownsRow.lt rN q hq).1)
            replace rK := rK.grown hg (rK.apart rN (by decide))
            replace rN := hrow
            refine Lib.wp_append_run _ (.tmp 25) (.tmp 27) _ _ rfl _ _ rfl rfl _ _ hrun ?_
            refine hK.out _ _ (fun _ => HC.out X2 hbX2) ?_
            clear hK K hrun hrow hg
            try simp only [Act.put, List.setIfInBounds_toArray, List.set_cons_zero, List.set_cons_succ]
            have hC := HC.out X2 hbX2
            refine takeT (i := 10) (v := ?_) rfl (by kernel_rfl) (by kernel_rfl) (by kernel_rfl) (by kernel_rfl) (fun _ _ _ h => h) hC (by rfl) ?_ ?_
            rotate_left
            · intro w hSw; (try dsimp only at hSw); go_simp; try (with_reducible rfl)
            try simp only [Act.put, List.setIfInBounds_toArray, List.set_cons_zero, List.set_cons_succ]
            clear hC
            refine oneT (i := 8) (by kernel_rfl) rfl (by rfl) (fun K hK => ?_)
            go_simp
            obtain ⟨X3, sK, hX, hs, hst, hblkK⟩ : ∃ (X : World) (s : Nat), X2.alloc (.cells #[.int .i64 z] 2) = X ∧ X2.heap.size = s ∧ Below X2.heap.size X2 X ∧ X.heap[s]? = some (.cells #[.int .i64 z] 2 (0, 0)) := ⟨_, _, rfl, rfl, below_new _ _, h_new rfl⟩
            (try rw [hX]); (try rw [hs])
            have hbX3 := hbX2.trans (hst.mono (Nat.le_trans hbs hbX2.size))
            replace rN := rN.next hst
            replace rK := rK.next hst
            refine hK.out _ _ (fun _ => HC.out X3 hbX3) ?_
            clear hK K hst hX hs
            try simp only [Act.put, List.setIfInBounds_toArray, List.set_cons_zero, List.set_cons_succ]
            refine oneT (i := 9) (by kernel_rfl) rfl (by rfl) (fun K hK => ?_)
            obtain ⟨vK, X4, hrun, hrow, hg⟩ := run_pushAll rowK 29 _ _ rK (some ⟨sK, 0, none⟩) 1 1 [z] (sl_one (by rw [cell_of_row X3 sK 0 _ _ (0, 0) hblkK]; rfl)) (by have := HLT.out; simp; omega) (Nat.le_trans hbs hbX3.size)
            obtain ⟨FK, NK, fK, rfl⟩ := hrow.shape
            have hbX4 := hbX3.grown hg (Nat.le_trans hbs hbX3.size) (fun q hq => (World.ownsRow.lt rK q hq).1)
            replace rN := rN.grown hg (rN.apart rK (by decide))
            replace rK := hrow
            refine Lib.wp_append_run _ (.tmp 30) (.tmp 32) _ _ rfl _ _ rfl rfl _ _ hrun ?_
            refine hK.out _ _ (fun _ => HC.out X4 hbX4) ?_
            clear hK K hrun hrow hg
            try simp only [Act.put, List.setIfInBounds_toArray, List.set_cons_zero, List.set_cons_succ]
            obtain ⟨Z1, hZ1⟩ : ∃ Z : World, X4.setCell ⟨b, 0, none⟩ (.slice FN NN fN) = Z := ⟨_, rfl⟩
            obtain ⟨Z2, hZ2⟩ : ∃ Z : World, Z1.setCell ⟨b, 1, none⟩ (.slice FK NK fK) = Z := ⟨_, rfl⟩
            have g0 : Six X4 b _ _ 1 0 0 0 := (hbX4.block b (Nat.lt_succ_self b)).trans H6.out
            have g1 := g0.set0 (.slice FN NN fN)
            rw [hZ1] at g1
            have HE : Hid (LI w1 b (.slice FN NN fN) (.slice FK NK fK) (l.take (k + 1)) Z2) := by have hx := LI.next g0 rN rK (HBE.out.trans (hbX4.mono (Nat.le_succ b))); rw [hZ1, hZ2] at hx; rw [HTK.out]; exact hx
            obtain ⟨y0, y1, y2, y3, y4, y5⟩ := g0.cells
            obtain ⟨z0, z1, -, -, -, -⟩ := g0.frees
            obtain ⟨x0, x1, x2, x3, x4, x5⟩ := g1.cells
            obtain ⟨q0, q1, -, -, -, -⟩ := g1.frees
            clear rN rK
            refine oneT (i := 11) (by kernel_rfl) rfl (by rfl) (fun K hK => ?_)
            go_simp
            (try rw [hZ1])
            refine hK.out _ _ (fun h => absurd h (by decide)) ?_
            clear hK K
            try simp only [Act.put, List.setIfInBounds_toArray, List.set_cons_zero, List.set_cons_succ]
            refine oneT (i := 12) (by kernel_rfl) rfl (by rfl) (fun K hK => ?_)
            go_simp
            refine hK.out _ _ (fun h => absurd h (by decide)) ?_
            clear hK K
            try simp only [Act.put, List.setIfInBounds_toArray, List.set_cons_zero, List.set_cons_succ]
            refine oneT (i := 13) (by kernel_rfl) rfl (by rfl) (fun K hK => ?_)
            go_simp
            (try rw [hZ2])
            refine hK.out _ _ (fun h => absurd h (by decide)) ?_
            clear hK K
            refine doneT (by kernel_rfl) ?_
            clear y0 y1 y2 y3 y4 y5 z0 z1 x0 x1 x2 x3 x4 x5 q0 q1 hZ1 hZ2 g0 g1 hbX4
            go_wp2
            go_roundw
            case rel => exact ⟨k + 1, by omega, by go_num, li_some HE⟩
            case measure => simp [intOf]; omega
          · go_simp
            obtain ⟨X2, sK, hX, hs, hst, hblkK⟩ : ∃ (X : World) (s : Nat), X1.alloc (.cells #[.int .i64 z] 2) = X ∧ X1.heap.size = s ∧ Below X1.heap.size X1 X ∧ X.heap[s]? = some (.cells #[.int .i64 z] 2 (0, 0)) := ⟨_, _, rfl, rfl, below_new _ _, h_new rfl⟩
            (try rw [hX]); (try rw [hs])
            have hbX2 := hbX1.trans (hst.mono (Nat.le_trans hbs hbX1.size))
            replace rN := rN.next hst
            replace rK := rK.next hst
            replace hblkN := (hst.block sN (Array.getElem?_eq_some_iff.1 hblkN).1).trans hblkN
            refine hK.out _ _ (fun _ => HC.out X2 hbX2) ?_
            clear hK K hst hX hs
            try simp only [Act.put, List.setIfInBounds_toArray, List.set_cons_zero, List.set_cons_succ]
            refine oneT (i := 4) (by kernel_rfl) rfl (by rfl) (fun K hK => ?_)
            obtain ⟨vN, X3, hrun, hrow, hg⟩ := run_pushAll rowR 28 _ _ rN (some ⟨sN, 0, none⟩) 1 1 [z] (sl_one (by rw [cell_of_row X2 sN 0 _ _ (0, 0) hblkN]; rfl)) (by have := HLT.out; simp; omega) (Nat.le_trans hbs hbX2.size)
            obtain ⟨FN, NN, fN, rfl⟩ := hrow.shape
            have hbX3 := hbX2.grown hg (Nat.le_trans hbs hbX2.size) (fun q hq => (World.ownsRow.lt rN q hq).1)
            replace hblkK := blk_grown hblkK rN hg (by decide)
            replace rK := rK.grown hg (rK.apart rN (by decide))
            replace rN := hrow
            refine Lib.wp_append_run _ (.tmp 25) (.tmp 27) _ _ rfl _ _ rfl rfl _ _ hrun ?_
            refine hK.out _ _ (fun _ => HC.out X3 hbX3) ?_
            clear hK K hrun hrow hg
            try simp only [Act.put, List.setIfInBounds_toArray, List.set_cons_zero, List.set_cons_succ]
            have hC := HC.out X3 hbX3
            refine takeT (i := 10) (v := ?_) rfl (by kernel_rfl) (by kernel_rfl) (by kernel_rfl) (by kernel_rfl) (fun _ _ _ h => h) hC (by rfl) ?_ ?_
            rotate_left
            · intro w hSw; (try dsimp only at hSw); go_simp; try (with_reducible rfl)
            try simp only [Act.put, List.setIfInBounds_toArray, List.set_cons_zero, List.set_cons_succ]
            clear hC
            refine oneT (i := 9) (by kernel_rfl) rfl (by rfl) (fun K hK => ?_)
            obtain ⟨vK, X4, hrun, hrow, hg⟩ := run_pushAll rowK 29 _ _ rK (some ⟨sK, 0, none⟩) 1 1 [z] (sl_one (by rw [cell_of_row X3 sK 0 _ _ (0, 0) hblkK]; rfl)) (by have := HLT.out; simp; omega) (Nat.le_trans hbs hbX3.size)
            obtain ⟨FK, NK, fK, rfl⟩ := hrow.shape
            have hbX4 := hbX3.grown hg (Nat.le_trans hbs hbX3.size) (fun q hq => (World.ownsRow.lt rK q hq).1)
            replace rN := rN.grown hg (rN.apart rK (by decide))
            replace rK := hrow
            refine Lib.wp_append_run _ (.tmp 30) (.tmp 32) _ _ rfl _ _ rfl rfl _ _ hrun ?_
            refine hK.out _ _ (fun _ => HC.out X4 hbX4) ?_
            clear hK K hrun hrow hg
            try simp only [Act.put, List.setIfInBounds_toArray, List.set_cons_zero, List.set_cons_succ]
            obtain ⟨Z1, hZ1⟩ : ∃ Z : World, X4.setCell ⟨b, 0, none⟩ (.slice FN NN fN) = Z := ⟨_, rfl⟩
            obtain ⟨Z2, hZ2⟩ : ∃ Z : World, Z1.setCell ⟨b, 1, none⟩ (.slice FK NK fK) = Z := ⟨_, rfl⟩
            have g0 : Six X4 b _ _ 1 0 0 0 := (hbX4.block b (Nat.lt_succ_self b)).trans H6.out
            have g1 := g0.set0 (.slice FN NN fN)
            rw [hZ1] at g1
            have HE : Hid (LI w1 b (.slice FN NN fN) (.slice FK NK fK) (l.take (k + 1)) Z2) := by have hx := LI.next g0 rN rK (HBE.out.trans (hbX4.mono (Nat.le_succ b))); rw [hZ1, hZ2] at hx; rw [HTK.out]; exact hx
            obtain ⟨y0, y1, y2, y3, y4, y5⟩ := g0.cells
            obtain ⟨z0, z1, -, -, -, -⟩ := g0.frees
            obtain ⟨x0, x1, x2, x3, x4, x5⟩ := g1.cells
            obtain ⟨q0, q1, -, -, -, -⟩ := g1.frees
            clear rN rK
            refine oneT (i := 11) (by kernel_rfl) rfl (by rfl) (fun K hK => ?_)
            go_simp
            (try rw [hZ1])
            refine hK.out _ _ (fun h => absurd h (by decide)) ?_
            clear hK K
            try simp only [Act.put, List.setIfInBounds_toArray, List.set_cons_zero, List.set_cons_succ]
            refine oneT (i := 12) (by kernel_rfl) rfl (by rfl) (fun K hK => ?_)
            go_simp
            refine hK.out _ _ (fun h => absurd h (by decide)) ?_
            clear hK K
            try simp only [Act.put, List.setIfInBounds_toArray, List.set_cons_zero, List.set_cons_succ]
            refine oneT (i := 13) (by kernel_rfl) rfl (by rfl) (fun K hK => ?_)
            go_simp
            (try rw [hZ2])
            refine hK.out _ _ (fun h => absurd h (by decide)) ?_
            clear hK K
            refine doneT (by kernel_rfl) ?_
            clear y0 y1 y2 y3 y4 y5 z0 z1 x0 x1 x2 x3 x4 x5 q0 q1 hZ1 hZ2 g0 g1 hbX4
            go_wp2
            go_roundw
            case rel => exact ⟨k + 1, by omega, by go_num, li_some HE⟩
            case measure => simp [intOf]; omega
      · go_simp
        refine hK.out _ _ (fun _ => HC.out X0 hbX0) ?_
        clear hK K
        try simp only [Act.put, List.setIfInBounds_toArray, List.set_cons_zero, List.set_cons_succ]
        refine twoT (i := 3) (j := 8) (by kernel_rfl) rfl rfl (by rfl) (by rfl) (fun K hK => ?_) (fun K hK => ?_)
        · go_simp
          obtain ⟨X1, sN, hX, hs, hst, hblkN⟩ : ∃ (X : World) (s : Nat), X0.alloc (.cells #[.int .i64 z] 30) = X ∧ X0.heap.size = s ∧ Below X0.heap.size X0 X ∧ X.heap[s]? = some (.cells #[.int .i64 z] 30 (0, 0)) := ⟨_, _, rfl, rfl, below_new _ _, h_new rfl⟩
          (try rw [hX]); (try rw [hs])
          have hbX1 := hbX0.trans (hst.mono (Nat.le_trans hbs hbX0.size))
          replace rN := rN.next hst
          replace rK := rK.next hst
          refine hK.out _ _ (fun _ => HC.out X1 hbX1) ?_
          clear hK K hst hX hs
          try simp only [Act.put, List.setIfInBounds_toArray, List.set_cons_zero, List.set_cons_succ]
          refine twoT (i := 4) (j := 8) (by kernel_rfl) rfl rfl (by rfl) (by rfl) (fun K hK => ?_) (fun K hK => ?_)
          · obtain ⟨vN, X2, hrun, hrow, hg⟩ := run_pushAll rowR 28 _ _ rN (some ⟨sN, 0, none⟩) 1 1 [z] (sl_one (by rw [cell_of_row X1 sN 0 _ _ (0, 0) hblkN]; rfl)) (by have := HLT.out; simp; omega) (Nat.le_trans hbs hbX1.size)
            obtain ⟨FN, NN, fN, rfl⟩ := hrow.shape
            have hbX2 := hbX1.grown hg (Nat.le_trans hbs hbX1.size) (fun q hq => (World.ownsRow.lt rN q hq).1)
            replace rK := rK.grown hg (rK.apart rN (by decide))
            replace rN := hrow
            refine Lib.wp_append_run _ (.tmp 25) (.tmp 27) _ _ rfl _ _ rfl rfl _ _ hrun ?_
            refine hK.out _ _ (fun _ => HC.out X2 hbX2) ?_
            clear hK K hrun hrow hg
            try simp only [Act.put, List.setIfInBounds_toArray, List.set_cons_zero, List.set_cons_succ]
            have hC := HC.out X2 hbX2
            refine takeT (i := 10) (v := ?_) rfl (by kernel_rfl) (by kernel_rfl) (by kernel_rfl) (by kernel_rfl) (fun _ _ _ h => h) hC (by rfl) ?_ ?_
            rotate_left
            · intro w hSw; (try dsimp only at hSw); go_simp; try (with_reducible rfl)
            try simp only [Act.put, List.setIfInBounds_toArray, List.set_cons_zero, List.set_cons_succ]
            clear hC
            refine oneT (i := 8) (by kernel_rfl) rfl (by rfl) (fun K hK => ?_)
            go_simp
            obtain ⟨X3, sK, hX, hs, hst, hblkK⟩ : ∃ (X : World) (s : Nat), X2.alloc (.cells #[.int .i64 z] 2) = X ∧ X2.heap.size = s ∧ Below X2.heap.size X2 X ∧ X.heap[s]? = some (.cells #[.int .i64 z] 2 (0, 0)) := ⟨_, _, rfl, rfl, below_new _ _, h_new rfl⟩
            (try rw [hX]); (try rw [hs])
            have hbX3 := hbX2.trans (hst.mono (Nat.le_trans hbs hbX2.size))
            replace rN := rN.next hst
            replace rK := rK.next hst
            refine hK.out _ _ (fun _ => HC.out X3 hbX3) ?_
            clear hK K hst hX hs
            try simp only [Act.put, List.setIfInBounds_toArray, List.set_cons_zero, List.set_cons_succ]
            refine oneT (i := 9) (by kernel_rfl) rfl (by rfl) (fun K hK => ?_)
            obtain ⟨vK, X4, hrun, hrow, hg⟩ := run_pushAll rowK 29 _ _ rK (some ⟨sK, 0, none⟩) 1 1 [z] (sl_one (by rw [cell_of_row X3 sK 0 _ _ (0, 0) hblkK]; rfl)) (by have := HLT.out; simp; omega) (Nat.le_trans hbs hbX3.size)
            obtain ⟨FK, NK, fK, rfl⟩ := hrow.shape
            have hbX4 := hbX3.grown hg (Nat.le_trans hbs hbX3.size) (fun q hq => (World.ownsRow.lt rK q hq).1)
            replace rN := rN.grown hg (rN.apart rK (by decide))
            replace rK := hrow
            refine Lib.wp_append_run _ (.tmp 30) (.tmp 32) _ _ rfl _ _ rfl rfl _ _ hrun ?_
            refine hK.out _ _ (fun _ => HC.out X4 hbX4) ?_
            clear hK K hrun hrow hg
            try simp only [Act.put, List.setIfInBounds_toArray, List.set_cons_zero, List.set_cons_succ]
            obtain ⟨Z1, hZ1⟩ : ∃ Z : World, X4.setCell ⟨b, 0, none⟩ (.slice FN NN fN) = Z := ⟨_, rfl⟩
            obtain ⟨Z2, hZ2⟩ : ∃ Z : World, Z1.setCell ⟨b, 1, none⟩ (.slice FK NK fK) = Z := ⟨_, rfl⟩
            have g0 : Six X4 b _ _ 1 0 0 0 := (hbX4.block b (Nat.lt_succ_self b)).trans H6.out
            have g1 := g0.set0 (.slice FN NN fN)
            rw [hZ1] at g1
            have HE : Hid (LI w1 b (.slice FN NN fN) (.slice FK NK fK) (l.take (k + 1)) Z2) := by have hx := LI.next g0 rN rK (HBE.out.trans (hbX4.mono (Nat.le_succ b))); rw [hZ1, hZ2] at hx; rw [HTK.out]; exact hx
            obtain ⟨y0, y1, y2, y3, y4, y5⟩ := g0.cells
            obtain ⟨z0, z1, -, -, -, -⟩ := g0.frees
            obtain ⟨x0, x1, x2, x3, x4, x5⟩ := g1.cells
            obtain ⟨q0, q1, -, -, -, -⟩ := g1.frees
            clear rN rK
            refine oneT (i := 11) (by kernel_rfl) rfl (by rfl) (fun K hK => ?_)
            go_simp
            (try rw [hZ1])
            refine hK.out _ _ (fun h => absurd h (by decide)) ?_
            clear hK K
            try simp only [Act.put, List.setIfInBounds_toArray, List.set_cons_zero, List.set_cons_succ]
            refine oneT (i := 12) (by kernel_rfl) rfl (by rfl) (fun K hK => ?_)
            go_simp
            refine hK.out _ _ (fun h => absurd h (by decide)) ?_
            clear hK K
            try simp only [Act.put, List.setIfInBounds_toArray, List.set_cons_zero, List.set_cons_succ]
            refine oneT (i := 13) (by kernel_rfl) rfl (by rfl) (fun K hK => ?_)
            go_simp
            (try rw [hZ2])
            refine hK.out _ _ (fun h => absurd h (by decide)) ?_
            clear hK K
            refine doneT (by kernel_rfl) ?_
            clear y0 y1 y2 y3 y4 y5 z0 z1 x0 x1 x2 x3 x4 x5 q0 q1 hZ1 hZ2 g0 g1 hbX4
            go_wp2
            go_roundw
            case rel => exact ⟨k + 1, by omega, by go_num, li_some HE⟩
            case measure => simp [intOf]; omega
          · go_simp
            obtain ⟨X2, sK, hX, hs, hst, hblkK⟩ : ∃ (X : World) (s : Nat), X1.alloc (.cells #[.int .i64 z] 2) = X ∧ X1.heap.size = s ∧ Below X1.heap.size X1 X ∧ X.heap[s]? = some (.cells #[.int .i64 z] 2 (0, 0)) := ⟨_, _, rfl, rfl, below_new _ _, h_new rfl⟩
            (try rw [hX]); (try rw [hs])
            have hbX2 := hbX1.trans (hst.mono (Nat.le_trans hbs hbX1.size))
            replace rN := rN.next hst
            replace rK := rK.next hst
            replace hblkN := (hst.block sN (Array.getElem?_eq_some_iff.1 hblkN).1).trans hblkN
            refine hK.out _ _ (fun _ => HC.out X2 hbX2) ?_
            clear hK K hst hX hs
            try simp only [Act.put, List.setIfInBounds_toArray, List.set_cons_zero, List.set_cons_succ]
            refine oneT (i := 4) (by kernel_rfl) rfl (by rfl) (fun K hK => ?_)
            obtain ⟨vN, X3, hrun, hrow, hg⟩ := run_pushAll rowR 28 _ _ rN (some ⟨sN, 0, none⟩) 1 1 [z] (sl_one (by rw [cell_of_row X2 sN 0 _ _ (0, 0) hblkN]; rfl)) (by have := HLT.out; simp; omega) (Nat.le_trans hbs hbX2.size)
            obtain ⟨FN, NN, fN, rfl⟩ := hrow.shape
            have hbX3 := hbX2.grown hg (Nat.le_trans hbs hbX2.size) (fun q hq => (World.ownsRow.lt rN q hq).1)
            replace hblkK := blk_grown hblkK rN hg (by decide)
            replace rK := rK.grown hg (rK.apart rN (by decide))
            replace rN := hrow
            refine Lib.wp_append_run _ (.tmp 25) (.tmp 27) _ _ rfl _ _ rfl rfl _ _ hrun ?_
            refine hK.out _ _ (fun _ => HC.out X3 hbX3) ?_
            clear hK K hrun hrow hg
            try simp only [Act.put, List.setIfInBounds_toArray, List.set_cons_zero, List.set_cons_succ]
            have hC := HC.out X3 hbX3
            refine takeT (i := 10) (v := ?_) rfl (by kernel_rfl) (by kernel_rfl) (by kernel_rfl) (by kernel_rfl) (fun _ _ _ h => h) hC (by rfl) ?_ ?_
            rotate_left
            · intro w hSw; (try dsimp only at hSw); go_simp; try (with_reducible rfl)
            try simp only [Act.put, List.setIfInBounds_toArray, List.set_cons_zero, List.set_cons_succ]
            clear hC
            refine oneT (i := 9) (by kernel_rfl) rfl (by rfl) (fun K hK => ?_)
            obtain ⟨vK, X4, hrun, hrow, hg⟩ := run_pushAll rowK 29 _ _ rK (some ⟨sK, 0, none⟩) 1 1 [z] (sl_one (by rw [cell_of_row X3 sK 0 _ _ (0, 0) hblkK]; rfl)) (by have := HLT.out; simp; omega) (Nat.le_trans hbs hbX3.size)
            obtain ⟨FK, NK, fK, rfl⟩ := hrow.shape
            have hbX4 := hbX3.grown hg (Nat.le_trans hbs hbX3.size) (fun q hq => (World.ownsRow.lt rK q hq).1)
            replace rN := rN.grown hg (rN.apart rK (by decide))
            replace rK := hrow
            refine Lib.wp_append_run _ (.tmp 30) (.tmp 32) _ _ rfl _ _ rfl rfl _ _ hrun ?_
            refine hK.out _ _ (fun _ => HC.out X4 hbX4) ?_
            clear hK K hrun hrow hg
            try simp only [Act.put, List.setIfInBounds_toArray, List.set_cons_zero, List.set_cons_succ]
            obtain ⟨Z1, hZ1⟩ : ∃ Z : World, X4.setCell ⟨b, 0, none⟩ (.slice FN NN fN) = Z := ⟨_, rfl⟩
            obtain ⟨Z2, hZ2⟩ : ∃ Z : World, Z1.setCell ⟨b, 1, none⟩ (.slice FK NK fK) = Z := ⟨_, rfl⟩
            have g0 : Six X4 b _ _ 1 0 0 0 := (hbX4.block b (Nat.lt_succ_self b)).trans H6.out
            have g1 := g0.set0 (.slice FN NN fN)
            rw [hZ1] at g1
            have HE : Hid (LI w1 b (.slice FN NN fN) (.slice FK NK fK) (l.take (k + 1)) Z2) := by have hx := LI.next g0 rN rK (HBE.out.trans (hbX4.mono (Nat.le_succ b))); rw [hZ1, hZ2] at hx; rw [HTK.out]; exact hx
            obtain ⟨y0, y1, y2, y3, y4, y5⟩ := g0.cells
            obtain ⟨z0, z1, -, -, -, -⟩ := g0.frees
            obtain ⟨x0, x1, x2, x3, x4, x5⟩ := g1.cells
            obtain ⟨q0, q1, -, -, -, -⟩ := g1.frees
            clear rN rK
            refine oneT (i := 11) (by kernel_rfl) rfl (by rfl) (fun K hK => ?_)
            go_simp
            (try rw [hZ1])
            refine hK.out _ _ (fun h => absurd h (by decide)) ?_
            clear hK K
            try simp only [Act.put, List.setIfInBounds_toArray, List.set_cons_zero, List.set_cons_succ]
            refine oneT (i := 12) (by kernel_rfl) rfl (by rfl) (fun K hK => ?_)
            go_simp
            refine hK.out _ _ (fun h => absurd h (by decide)) ?_
            clear hK K
            try simp only [Act.put, List.setIfInBounds_toArray, List.set_cons_zero, List.set_cons_succ]
            refine oneT (i := 13) (by kernel_rfl) rfl (by rfl) (fun K hK => ?_)
            go_simp
            (try rw [hZ2])
            refine hK.out _ _ (fun h => absurd h (by decide)) ?_
            clear hK K
            refine doneT (by kernel_rfl) ?_
            clear y0 y1 y2 y3 y4 y5 z0 z1 x0 x1 x2 x3 x4 x5 q0 q1 hZ1 hZ2 g0 g1 hbX4
            go_wp2
            go_roundw
            case rel => exact ⟨k + 1, by omega, by go_num, li_some HE⟩
            case measure => simp [intOf]; omega
        · go_simp
          obtain ⟨X1, sK, hX, hs, hst, hblkK⟩ : ∃ (X : World) (s : Nat), X0.alloc (.cells #[.int .i64 z] 2) = X ∧ X0.heap.size = s ∧ Below X0.heap.size X0 X ∧ X.heap[s]? = some (.cells #[.int .i64 z] 2 (0, 0)) := ⟨_, _, rfl, rfl, below_new _ _, h_new rfl⟩
          (try rw [hX]); (try rw [hs])
          have hbX1 := hbX0.trans (hst.mono (Nat.le_trans hbs hbX0.size))
          replace rN := rN.next hst
          replace rK := rK.next hst
          refine hK.out _ _ (fun _ => HC.out X1 hbX1) ?_
          clear hK K hst hX hs
          try simp only [Act.put, List.setIfInBounds_toArray, List.set_cons_zero, List.set_cons_succ]
          refine oneT (i := 3) (by kernel_rfl) rfl (by rfl) (fun K hK => ?_)
          go_simp
          obtain ⟨X2, sN, hX, hs, hst, hblkN⟩ : ∃ (X : World) (s : Nat), X1.alloc (.cells #[.int .i64 z] 30) = X ∧ X1.heap.size = s ∧ Below X1.heap.size X1 X ∧ X.heap[s]? = some (.cells #[.int .i64 z] 30 (0, 0)) := ⟨_, _, rfl, rfl, below_new _ _, h_new rfl⟩
          (try rw [hX]); (try rw [hs])
          have hbX2 := hbX1.trans (hst.mono (Nat.le_trans hbs hbX1.size))
          replace rN := rN.next hst
          replace rK := rK.next hst
          replace hblkK := (hst.block sK (Array.getElem?_eq_some_iff.1 hblkK).1).trans hblkK
          refine hK.out _ _ (fun _ => HC.out X2 hbX2) ?_
          clear hK K hst hX hs
          try simp only [Act.put, List.setIfInBounds_toArray, List.set_cons_zero, List.set_cons_succ]
          refine oneT (i := 4) (by kernel_rfl) rfl (by rfl) (fun K hK => ?_)
          obtain ⟨vN, X3, hrun, hrow, hg⟩ := run_pushAll rowR 28 _ _ rN (some ⟨sN, 0, none⟩) 1 1 [z] (sl_one (by rw [cell_of_row X2 sN 0 _ _ (0, 0) hblkN]; rfl)) (by have := HLT.out; simp; omega) (Nat.le_trans hbs hbX2.size)
          obtain ⟨FN, NN, fN, rfl⟩ := hrow.shape
          have hbX3 := hbX2.grown hg (Nat.le_trans hbs hbX2.size) (fun q hq => (World.ownsRow.lt rN q hq).1)
          replace hblkK := blk_grown hblkK rN hg (by decide)
          replace rK := rK.grown hg (rK.apart rN (by decide))
          replace rN := hrow
          refine Lib.wp_append_run _ (.tmp 25) (.tmp 27) _ _ rfl _ _ rfl rfl _ _ hrun ?_
          refine hK.out _ _ (fun _ => HC.out X3 hbX3) ?_
          clear hK K hrun hrow hg
          try simp only [Act.put, List.setIfInBounds_toArray, List.set_cons_zero, List.set_cons_succ]
          have hC := HC.out X3 hbX3
          refine takeT (i := 10) (v := ?_) rfl (by kernel_rfl) (by kernel_rfl) (by kernel_rfl) (by kernel_rfl) (fun _ _ _ h => h) hC (by rfl) ?_ ?_
          rotate_left
          · intro w hSw; (try dsimp only at hSw); go_simp; try (with_reducible rfl)
          try simp only [Act.put, List.setIfInBounds_toArray, List.set_cons_zero, List.set_cons_succ]
          clear hC
          refine oneT (i := 9) (by kernel_rfl) rfl (by rfl) (fun K hK => ?_)
          obtain ⟨vK, X4, hrun, hrow, hg⟩ := run_pushAll rowK 29 _ _ rK (some ⟨sK, 0, none⟩) 1 1 [z] (sl_one (by rw [cell_of_row X3 sK 0 _ _ (0, 0) hblkK]; rfl)) (by have := HLT.out; simp; omega) (Nat.le_trans hbs hbX3.size)
          obtain ⟨FK, NK, fK, rfl⟩ := hrow.shape
          have hbX4 := hbX3.grown hg (Nat.le_trans hbs hbX3.size) (fun q hq => (World.ownsRow.lt rK q hq).1)
          replace rN := rN.grown hg (rN.apart rK (by decide))
          replace rK := hrow
          refine Lib.wp_append_run _ (.tmp 30) (.tmp 32) _ _ rfl _ _ rfl rfl _ _ hrun ?_
          refine hK.out _ _ (fun _ => HC.out X4 hbX4) ?_
          clear hK K hrun hrow hg
          try simp only [Act.put, List.setIfInBounds_toArray, List.set_cons_zero, List.set_cons_succ]
          obtain ⟨Z1, hZ1⟩ : ∃ Z : World, X4.setCell ⟨b, 0, none⟩ (.slice FN NN fN) = Z := ⟨_, rfl⟩
          obtain ⟨Z2, hZ2⟩ : ∃ Z : World, Z1.setCell ⟨b, 1, none⟩ (.slice FK NK fK) = Z := ⟨_, rfl⟩
          have g0 : Six X4 b _ _ 1 0 0 0 := (hbX4.block b (Nat.lt_succ_self b)).trans H6.out
          have g1 := g0.set0 (.slice FN NN fN)
          rw [hZ1] at g1
          have HE : Hid (LI w1 b (.slice FN NN fN) (.slice FK NK fK) (l.take (k + 1)) Z2) := by have hx := LI.next g0 rN rK (HBE.out.trans (hbX4.mono (Nat.le_succ b))); rw [hZ1, hZ2] at hx; rw [HTK.out]; exact hx
          obtain ⟨y0, y1, y2, y3, y4, y5⟩ := g0.cells
          obtain ⟨z0, z1, -, -, -, -⟩ := g0.frees
          obtain ⟨x0, x1, x2, x3, x4, x5⟩ := g1.cells
          obtain ⟨q0, q1, -, -, -, -⟩ := g1.frees
          clear rN rK
          refine oneT (i := 11) (by kernel_rfl) rfl (by rfl) (fun K hK => ?_)
          go_simp
          (try rw [hZ1])
          refine hK.out _ _ (fun h => absurd h (by decide)) ?_
          clear hK K
          try simp only [Act.put, List.setIfInBounds_toArray, List.set_cons_zero, List.set_cons_succ]
          refine oneT (i := 12) (by kernel_rfl) rfl (by rfl) (fun K hK => ?_)
          go_simp
          refine hK.out _ _ (fun h => absurd h (by decide)) ?_
          clear hK K
          try simp only [Act.put, List.setIfInBounds_toArray, List.set_cons_zero, List.set_cons_succ]
          refine oneT (i := 13) (by kernel_rfl) rfl (by rfl) (fun K hK => ?_)
          go_simp
          (try rw [hZ2])
          refine hK.out _ _ (fun h => absurd h (by decide)) ?_
          clear hK K
          refine doneT (by kernel_rfl) ?_
          clear y0 y1 y2 y3 y4 y5 z0 z1 x0 x1 x2 x3 x4 x5 q0 q1 hZ1 hZ2 g0 g1 hbX4
          go_wp2
          go_roundw
          case rel => exact ⟨k + 1, by omega, by go_num, li_some HE⟩
          case measure => simp [intOf]; omega
    · have hall : l.take k = l := List.take_of_length_le (by rw [← HL.out.len]; omega)
      rw [hall] at hI
      have i1 : ¬ ((k : Int) < (n : Int)) := by omega
      clear hall hk hlt
      have HLI := Lib.hid hI
      obtain ⟨c0, c1', c2', c3, c4, c5⟩ := hI.box.cells
      have sN := Lib.hid hI.nod.sl
      have sK := Lib.hid hI.inf.sl
      clear hI
      go_wp2_with fail
      refine (copy_walk A1 A2 n1 c1 n2 c2 ⟨l, l, 1, 0, 0, 0⟩ wr sN.out sK.out (by simp only; have := HL.out.len; omega) (by simp only; have := HL.out.len; omega)).mono ?_
      rintro e w3 ⟨u2, v2, rfl, hu2, hv2, b3⟩
      obtain ⟨A3, n3, d3, rfl⟩ := hu2.shape
      obtain ⟨A4, n4, d4, rfl⟩ := hv2.shape
      obtain ⟨W4, W5, b2, a, hW4, hW5, hb2, ha, n4', k1, k2, k3, k4, k5, k6, k7, k8, k9, k10, k11, k12⟩ := keeps_want HLI.out HB1.out HWB.out hu2 hv2 b3
      have HLN := Lib.hid HL.out.len
      obtain rfl : n = n1 := HL.out.len.trans sN.out.len.symm
      obtain rfl : n = n2 := HL.out.len.trans sK.out.len.symm
      obtain rfl : n = n3 := HL.out.len.trans hu2.sl.len.symm
      obtain rfl : n = n4 := HL.out.len.trans hv2.sl.len.symm
      have HK1 := Lib.hid k1
      have HK2 := Lib.hid k2
      have HK3 := Lib.hid k3
      have HK4 := Lib.hid k4
      have HK5 := Lib.hid k5
      have HK6 := Lib.hid k6
      have HK7 := Lib.hid k7
      have HKA := Lib.hid k10
      have HKB := Lib.hid k11
      have HSA := Lib.hid ha
      obtain ⟨x0, x1, x2, x3, x4, x5⟩ := n4'.cells
      obtain ⟨z0, z1, z2, z3, z4, z5⟩ := n4'.frees
      clear hu2 hv2 b3 c0 c1' c2' c3 c4 c5 k1 k2 k3 k4 k5 k6 k7 k10 k11 n4' sN sK
      go_wp2_with fail
      (try rw [hW5])
      clear hW4 hW5 hb2 x0 x1 x2 x3 x4 x5 z0 z1 z2 z3 z4 z5
      refine (new_walk 1 W5).mono ?_
      rintro e w6 ⟨rfl, t6, b6⟩
      rw [ha] at t6 ⊢
      rw [ha] at b6
      have hba : a ≤ w6.heap.size := by have := b6.size; omega
      obtain ⟨c0, c1', c2', c3, c4, c5⟩ := (HK1.out.below (by rw [ha]; exact b6)).cells
      clear ha
      go_wp2_with fail
      refine (make_yes t6 A1 A2 n c1 c2 ⟨l, l, 1, 0, 0, 0⟩ (HK3.out.sl.below (by rw [HSA.out]; exact b6)) (HK4.out.sl.below (by rw [HSA.out]; exact b6)) (by show (0 : Int) ≤ 1; omega) (by show 0 < mostOf 1; decide) (by decide) hn).mono ?_
      rintro e w7 ⟨rfl, h7⟩
      obtain ⟨F7, P7, u7, v7, t7, b7, f7⟩ := h7.below (B := a) (fun q e => by have : q = a := e; omega) hba
      have HI : Hid (∃ u v zs ys, KI w b b2 a F7 l (.slice A3 n d3) (.slice A4 n d4) u v zs ys w7) := ⟨_, _, _, _, keeps_made HK1.out HK2.out HK3.out HK4.out HK5.out HK6.out HK7.out k8 k9 HKA.out HKB.out k12 HSA.out HWB.out.1 (b6.trans b7) t7 rfl f7⟩
      clear t6 b6 c0 c1' c2' c3 c4 c5 h7 t7 b7 f7 HK1 HK2 HK3 HK4 HK5 HK6 HK7 HKA HKB HSA k8 k9 k12 hba HLI
      go_wp2_with fail
      go_loopw [46] (fun i wr => ∃ j : Nat, j ≤ 2 ∧ i = .int .i64 (j : Int) ∧ Hid (∃ u v zs ys, KI w b b2 a F7 l (.slice A3 n d3) (.slice A4 n d4) u v zs ys wr)) (fun i _ => 2 - (intOf i).toNat)
      case atStart => exact ⟨0, by omega, rfl, HI⟩
      case round =>
        clear HI
        obtain ⟨j, hj, rfl, HH⟩ := hrel
        obtain ⟨u, v, zs, ys, hK⟩ := HH.out
        clear HH
        by_cases hj2 : j < 2
        · have j1 : (j : Int) < 2 := by omega
          have hjw : IntKind.i64.wrap ((j : Int) + 1) = (j : Int) + 1 := IntWalk.i64_in _ (by omega)
          obtain ⟨A5, n5, c5, rfl⟩ := hK.nod.shape
          obtain ⟨A6, n6, c6, rfl⟩ := hK.inf.shape
          obtain rfl : n = n5 := HLN.out.trans (hK.nod.sl.len.trans hK.lenz).symm
          obtain rfl : n = n6 := HLN.out.trans (hK.inf.sl.len.trans hK.leny).symm
          have HI : Hid (∃ zs ys, KI w b b2 a F7 l (.slice A3 n d3) (.slice A4 n d4) (.slice A5 n c5) (.slice A6 n c6) zs ys wr) := ⟨_, _, hK⟩
          obtain ⟨y0, y1, -⟩ := hK.box.cells
          clear hK
          go_wp2_with fail
          clear y0 y1
          go_loopw [51] (fun i wr => ∃ k : Nat, k ≤ n ∧ i = .int .i64 (k : Int) ∧ Hid (∃ zs ys, KI w b b2 a F7 l (.slice A3 n d3) (.slice A4 n d4) (.slice A5 n c5) (.slice A6 n c6) zs ys wr)) (fun i _ => n - (intOf i).toNat)
          case atStart => exact ⟨0, by omega, rfl, HI⟩
          case round =>
            clear HI
            obtain ⟨k, hk, rfl, HH⟩ := hrel
            obtain ⟨zs, ys, hK⟩ := HH.out
            clear HH
            obtain ⟨y0, y1, -⟩ := hK.box.cells
            by_cases hlt : k < n
            · have i0 : (0 : Int) ≤ (k : Int) := by omega
              have i1 : (k : Int) < (n : Int) := by omega
              have hkw : IntKind.i64.wrap ((k : Int) + 1) = (k : Int) + 1 := IntWalk.i64_in _ (by omega)
              obtain ⟨g, z, rfl, hc, hz, hput⟩ := hK.atN hlt
              obtain ⟨zz, hzz⟩ : ∃ zz : Int, IntKind.i64.wrap (z + 1) = zz := ⟨_, rfl⟩
              have HP := Lib.hid (hput zz)
              clear hput hK
              go_wp2
              go_roundw
              case rel => exact ⟨k + 1, by omega, by go_num, _, _, HP.out⟩
              case measure => simp [intOf]; omega
            · have i1 : ¬ ((k : Int) < (n : Int)) := by omega
              have HI : Hid (∃ zs ys, KI w b b2 a F7 l (.slice A3 n d3) (.slice A4 n d4) (.slice A5 n c5) (.slice A6 n c6) zs ys wr) := ⟨_, _, hK⟩
              clear hK
              go_wp2_with fail
              clear y0 y1
              go_loopw [65] (fun i wr => ∃ k : Nat, k ≤ n ∧ i = .int .i64 (k : Int) ∧ Hid (∃ zs ys, KI w b b2 a F7 l (.slice A3 n d3) (.slice A4 n d4) (.slice A5 n c5) (.slice A6 n c6) zs ys wr)) (fun i _ => n - (intOf i).toNat)
              case atStart => exact ⟨0, by omega, rfl, HI⟩
              case round =>
                clear HI hk hlt i1
                obtain ⟨k, hk, rfl, HH⟩ := hrel
                obtain ⟨zs, ys, hK⟩ := HH.out
                clear HH
                obtain ⟨y0, y1, -⟩ := hK.box.cells
                by_cases hlt : k < n
                · have i0 : (0 : Int) ≤ (k : Int) := by omega
                  have i1 : (k : Int) < (n : Int) := by omega
                  have hkw : IntKind.i64.wrap ((k : Int) + 1) = (k : Int) + 1 := IntWalk.i64_in _ (by omega)
                  obtain ⟨g, z, rfl, hc, hz, hput⟩ := hK.atI hlt
                  obtain ⟨zz, hzz⟩ : ∃ zz : Int, IntKind.i64.wrap (z + 1) = zz := ⟨_, rfl⟩
                  have HP := Lib.hid (hput zz)
                  clear hput hK
                  go_wp2
                  go_roundw
                  case rel => exact ⟨k + 1, by omega, by go_num, _, _, HP.out⟩
                  case measure => simp [intOf]; omega
                · have i1 : ¬ ((k : Int) < (n : Int)) := by omega
                  obtain ⟨P, x, ht, hx⟩ := hK.tb
                  have HKI := Lib.hid hK
                  clear hK y0 y1
                  go_wp2_with fail
                  refine (look_yes ht (i := 0) rfl (by decide) (by show (1 : Nat) ≤ 100000; omega)).mono ?_
                  rw [hx]
                  rintro e X ⟨u', v', rfl, hu, hv, bX⟩
                  have HT := KI.told HKI.out bX hu hv
                  obtain ⟨A7, n7, c7, rfl⟩ := hu.shape
                  obtain ⟨A8, n8, c8, rfl⟩ := hv.shape
                  obtain rfl : n = n7 := HLN.out.trans hu.sl.len.symm
                  obtain rfl : n = n8 := HLN.out.trans hv.sl.len.symm
                  obtain ⟨Z, hZ⟩ : ∃ Z : World, put6 X b (.slice A7 n c7) (.slice A8 n c8) 1 0 0 0 = Z := ⟨_, rfl⟩
                  rw [hZ] at HT
                  obtain ⟨x0, x1, x2, x3, x4, x5⟩ := (HKI.out.box.below bX).cells
                  obtain ⟨z0, z1, z2, z3, z4, z5⟩ := (HKI.out.box.below bX).frees
                  obtain ⟨y0, y1, y2, y3, y4, y5⟩ := HT.box.cells
                  obtain ⟨q0, q1, q2, q3, q4, q5⟩ := HT.wbox.cells
                  have HS := Lib.hid HT
                  clear HKI ht hx hu hv bX HT
                  go_wp2_with fail
                  (try rw [hZ])
                  refine (lawSame_walk A7 A8 A3 A4 n c7 n c8 d3 d4 ⟨l, l, 1, 0, 0, 0⟩ Z HS.out.nod.sl HS.out.inf.sl HS.out.wn.sl HS.out.wi.sl (by omega) (by omega)).mono ?_
                  rintro e Y ⟨rfl, bY⟩
                  have HY := Lib.hid (HS.out.later bY)
                  clear hZ x0 x1 x2 x3 x4 x5 z0 z1 z2 z3 z4 z5 y0 y1 y2 y3 y4 y5 q0 q1 q2 q3 q4 q5 bY HS
                  go_wp2
                  go_roundw
                  case rel => exact ⟨j + 1, by omega, by go_num, _, _, _, _, HY.out⟩
                  case measure => simp [intOf]; omega
        · have j1 : ¬ ((j : Int) < 2) := by omega
          have HBW := Lib.hid hK.below
          clear hK
          go_wp2
          go_ret
          exact ⟨rfl, HBW.out⟩
end Go.Proofs.Ytokheagoddmmiaa
