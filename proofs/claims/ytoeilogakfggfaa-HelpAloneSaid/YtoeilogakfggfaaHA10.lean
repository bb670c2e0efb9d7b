/-
  Law HelpAlone.
-/
import Derived.Test.YtoeilogakfggfaaHu10
namespace Go.Proofs.Ytoeilogakfggfaa
open Go.ChangeShapes Go.WideShapes Go.ChangeAt Go.RowKit
set_option linter.unusedVariables false
set_option linter.unusedSimpArgs false
set_option maxRecDepth 20000

theorem fA_all (l : List Int) (j i : Nat) : (fA l j i).w0 = 200 + 10 * (i : Int) ∧ (fA l j i).w1 = 201 + 10 * (i : Int) ∧ (fA l j i).mark = false := by
  unfold fA
  split <;> exact ⟨rfl, rfl, rfl⟩
set_option maxHeartbeats 16000000 in
theorem helpAlone_walk (A1 : Option Addr) (n1 c1 : Nat) (l1 : List Int) (A2 : Option Addr) (n2 c2 : Nat) (lw : List (Nat × Int)) (kn wn odn : Nat) (all : Bool) (hk : kn < 256) (hwn : wn < 256) (hod : odn < 256) (w : World) (ho : Sk .i8 (-128) 127 w A1 n1 l1) (how : Wns w A2 n2 lw) :
    Calls Try.prog 3 #[.slice A1 n1 c1, .slice A2 n2 c2, .int .u8 (kn : Int), .int .u8 (wn : Int), .int .u8 (odn : Int), .bool all] w fun e w' => e = .returned (.bool true) ∧ Below w.heap.size w w' := by
  have HO := Lib.hid ho
  have HW := Lib.hid how
  have HL2 : Hid (n2 = lw.length) := how.len
  clear ho how
  go_enter Try.func3, Try.ntmps3
  go_wp2_with fail
  refine (awake9_walk w).mono ?_
  rintro e v1 ⟨rfl, b1⟩
  have HB1 := Lib.hid b1
  clear b1
  by_cases hn2 : 6 < n2
  · have i1 : (6 : Int) < (n2 : Int) := by omega
    go_wp2
    go_ret
    exact ⟨rfl, HB1.out⟩
  have i1 : ¬ (6 : Int) < (n2 : Int) := by omega
  by_cases hn1 : 5 < n1
  · have i2 : (5 : Int) < (n1 : Int) := by omega
    go_wp2
    go_ret
    exact ⟨rfl, HB1.out⟩
  have i2 : ¬ (5 : Int) < (n1 : Int) := by omega
  go_wp2_with fail
  refine (nodes_walk 1 5 (by omega) (by omega) v1).mono ?_
  rintro e v2 ⟨d, A, m, c, rfl, hN⟩
  have HDM := Lib.hid hN.dm
  obtain ⟨g, c', hv, hX0, hcg⟩ := hN.rowX.at_ (refN_at (k := 5) (i := 0) (by omega))
  rw [refN_len] at hv
  injection hv with e5 e6 e4
  subst e5 e4 e6
  have HG : Hid (Ob v1 d (sN 1 5 ns0 []) v2 [.row (.slice (some ⟨g, 0, none⟩) 5 c) rfT (refN 5)]) := Ob.begin_ hN.lg.mb hN.rowX hN.own
  clear hN hcg hX0 i1 i2
  have hmk := run_mk5
  obtain ⟨Z, nb, hZ, hnb, hO1⟩ : ∃ (Z : World) (b : Nat), v2.alloc (.cells (infC ns0) i6T) = Z ∧ v2.heap.size = b ∧ Ob v1 d (sN 1 5 ns0 []) Z [.row (.slice (some ⟨g, 0, none⟩) 5 c) rfT (refN 5), .box b i6T (infC ns0)] := ⟨_, _, rfl, rfl, HG.out.box (infC ns0) i6T⟩
  have HO1 := Lib.hid hO1
  clear hO1 HG
  go_wp2_with fail
  (try rw [hZ]); (try rw [hnb])
  clear hZ hnb hmk
  go_loopg [58] n1 (fun gk iv wr => ∃ j : Nat, j + gk = n1 ∧ iv = .int .i64 (j : Int) ∧ Hid (Ob v1 d (sN 1 5 (fA l1 j) []) wr [.row (.slice (some ⟨g, 0, none⟩) 5 c) rfT (refN 5), .box nb i6T (infC (fA l1 j))]))
  case atStart => exact ⟨0, by omega, rfl, by rw [fA_zero]; exact HO1.out⟩
  case round =>
    clear HO1
    obtain ⟨j, hj, rfl, HH⟩ := hrel
    by_cases hlt : j < n1
    case pos =>
      have i1 : (j : Int) < (n1 : Int) := by omega
      have i0 : (0 : Int) ≤ (j : Int) := by omega
      have i5 : (j : Int) < 5 := by omega
      have hkw : IntKind.i64.wrap ((j : Int) + 1) = (j : Int) + 1 := IntWalk.i64_in _ (by omega)
      obtain ⟨bi, offi, z, hA1, hbi, hz, hz1, hz2, hcz⟩ := (HO.out.below (HB1.out.trans (HH.out.bel.mono HB1.out.size))).at_ hlt
      subst hA1
      have hz4 := tmod4 ⟨hz1, hz2⟩
      obtain ⟨y, hy⟩ : ∃ y, z.tmod 4 = y := ⟨_, rfl⟩
      rw [hy] at hz4
      have w1 : IntKind.i8.wrap y = y := IntWalk.i8_in _ (by omega)
      have w2 : IntKind.i64.wrap y = y := IntWalk.i64_in _ (by omega)
      have hcn := HH.out.cell (i := 1) rfl (infC_at (fA l1 j) (i := j) (by omega))
      have hfn := HH.out.free (i := 1) rfl j
      have hset := HH.out.set (i := 1) rfl j (.int .i64 y)
      obtain ⟨Y, hY⟩ : ∃ Y, wr.setCell ⟨nb, j, none⟩ (.int .i64 y) = Y := ⟨_, rfl⟩
      rw [hY] at hset
      have hfs : fA l1 (j + 1) = upd (fA l1 j) j { fA l1 j j with inf := y } := by rw [fA_step, ← hy]; simp [List.getD, hz]
      have hset : Ob v1 d (sN 1 5 (fA l1 j) []) Y [.row (.slice (some ⟨g, 0, none⟩) 5 c) rfT (refN 5), .box nb i6T (infC (fA l1 (j + 1)))] := by
        have e := infC_set (fA l1 j) (i := j) (by omega) { fA l1 j j with inf := y }
        rw [hfs, ← e]; exact hset
      have HS := Lib.hid hset
      have HFS := Lib.hid hfs
      have hYn : Y.cell? ⟨nb, j, none⟩ = some (.int .i64 y) := by
        have := infC_at (fA l1 (j + 1)) (i := j) (by omega)
        rw [hfs, upd_at] at this
        exact hset.cell (i := 1) rfl (by rw [hfs]; exact this)
      clear HH hset hfs hz hbi
      go_upto_region 11 with fail
      have HNX : Hid (∀ V : World, Ob v1 d (sN 1 5 (fA l1 j) []) V [.row (.slice (some ⟨g, 0, none⟩) 5 c) rfT (refN 5), .box nb i6T (infC (fA l1 (j + 1)))] → Calls Try.prog 7 #[ptr d.A, .int .i64 (rfN j), .int .i64 0, .int .i64 y] V fun e w' => e = .returned (.bool true) ∧ Ob v1 d (sN 1 5 (fA l1 (j + 1)) []) w' [.row (.slice (some ⟨g, 0, none⟩) 5 c) rfT (refN 5), .box nb i6T (infC (fA l1 (j + 1)))]) := by
        intro V hV
        have hg := g_swapInfo (L := 1) (k := 5) (i := j) (f := fA l1 j) (rs := []) (by omega) (by omega) 0 y
        rw [if_pos (by rw [fA_at]; rfl), ← HFS.out] at hg
        have := hV.nx (fun FW hW => nxW_swapInfo hW (ok_sN (fun i _ => fA_in HO.out.rng j i) (by simp)) (rfN j) 0 y)
        rw [hg] at this
        exact this
      have hC : Y.cell? ⟨d.W, 0, none⟩ = some (ptr d.A) ∧ Y.cell? ⟨g, j, none⟩ = some (.int .i64 (rfN j)) ∧ Y.cell? ⟨nb, j, none⟩ = some (.int .i64 y) := by
        obtain ⟨g', e1, e2, -⟩ := HS.out.num (i := 0) rfl (refN_at (k := 5) (i := j) (by omega))
        injection e1 with e1
        injection e1 with e1
        subst e1
        exact ⟨HS.out.cells.1, e2, hYn⟩
      have HCX : Hid (∀ V : World, Ob v1 d (sN 1 5 (fA l1 (j + 1)) []) V [.row (.slice (some ⟨g, 0, none⟩) 5 c) rfT (refN 5), .box nb i6T (infC (fA l1 (j + 1)))] → V.cell? ⟨d.W, 0, none⟩ = some (ptr d.A) ∧ V.cell? ⟨g, j, none⟩ = some (.int .i64 (rfN j)) ∧ V.cell? ⟨nb, j, none⟩ = some (.int .i64 y)) := by
        intro V hV
        obtain ⟨g', e1, e2, -⟩ := hV.num (i := 0) rfl (refN_at (k := 5) (i := j) (by omega))
        injection e1 with e1
        injection e1 with e1
        subst e1
        refine ⟨hV.cells.1, e2, ?_⟩
        have := infC_at (fA l1 (j + 1)) (i := j) (by omega)
        rw [HFS.out, upd_at] at this
        exact hV.cell (i := 1) rfl (by rw [HFS.out]; exact this)
      obtain ⟨rj, hrj⟩ : ∃ rj, rfN j = rj := ⟨_, rfl⟩
      rw [hrj] at hC HNX HCX
      clear hrj HFS hYn
      obtain ⟨V0, hV0, b0⟩ : ∃ V0 : World, Y.drew = V0 ∧ Below Y.heap.size Y V0 := ⟨_, rfl, (Below.refl _ Y).drew⟩
      refine region_T (fun _ => false) (fun w' : World => w'.cell? ⟨d.W, 0, none⟩ = some (ptr d.A) ∧ w'.cell? ⟨g, j, none⟩ = some (.int .i64 rj) ∧ w'.cell? ⟨nb, j, none⟩ = some (.int .i64 y)) (by kernel_rfl) ?_
      rw [hV0]
      have HB0 := Lib.hid (HS.out.below b0)
      have hC : V0.cell? ⟨d.W, 0, none⟩ = some (ptr d.A) ∧ V0.cell? ⟨g, j, none⟩ = some (.int .i64 rj) ∧ V0.cell? ⟨nb, j, none⟩ = some (.int .i64 y) := ⟨below_read b0 hC.1, below_read b0 hC.2.1, below_read b0 hC.2.2⟩
      have HC := Lib.hid hC
      clear hV0 b0 HS
      refine takeX 0 69 (v := ?_) rfl rfl (by kernel_rfl) (by kernel_rfl) (by kernel_rfl) (by kernel_rfl) (by kernel_rfl) (fun _ _ _ _ h => h) hC (by rfl) ?_ ?_
      rotate_left
      · intro w hSw; (try dsimp only at hSw); go_simp; try (with_reducible rfl)
      simp only [List.setIfInBounds_toArray, List.set_cons_zero, List.set_cons_succ]
      refine takeX 1 70 (v := ?_) rfl rfl (by kernel_rfl) (by kernel_rfl) (by kernel_rfl) (by kernel_rfl) (by kernel_rfl) (fun _ _ _ _ h => h) hC (by rfl) ?_ ?_
      rotate_left
      · intro w hSw; (try dsimp only at hSw); go_simp; try (with_reducible rfl)
      simp only [List.setIfInBounds_toArray, List.set_cons_zero, List.set_cons_succ]
      refine takeX 2 71 (v := ?_) rfl rfl (by kernel_rfl) (by kernel_rfl) (by kernel_rfl) (by kernel_rfl) (by kernel_rfl) (fun _ _ _ _ h => h) hC (by rfl) ?_ ?_
      rotate_left
      · intro w hSw; (try dsimp only at hSw); go_simp; try (with_reducible rfl)
      simp only [List.setIfInBounds_toArray, List.set_cons_zero, List.set_cons_succ]
      refine takeX 3 72 (v := ?_) rfl rfl (by kernel_rfl) (by kernel_rfl) (by kernel_rfl) (by kernel_rfl) (by kernel_rfl) (fun _ _ _ _ h => h) hC (by rfl) ?_ ?_
      rotate_left
      · intro w hSw; (try dsimp only at hSw); go_simp; try (with_reducible rfl)
      simp only [List.setIfInBounds_toArray, List.set_cons_zero, List.set_cons_succ]
      refine takeX 4 73 (v := ?_) rfl rfl (by kernel_rfl) (by kernel_rfl) (by kernel_rfl) (by kernel_rfl) (by kernel_rfl) (fun _ _ _ _ h => h) hC (by rfl) ?_ ?_
      rotate_left
      · intro w hSw; (try dsimp only at hSw); go_simp; try (with_reducible rfl)
      simp only [List.setIfInBounds_toArray, List.set_cons_zero, List.set_cons_succ]
      refine takeX 5 74 (v := ?_) rfl rfl (by kernel_rfl) (by kernel_rfl) (by kernel_rfl) (by kernel_rfl) (by kernel_rfl) (fun _ _ _ _ h => h) hC (by rfl) ?_ ?_
      rotate_left
      · intro w hSw; (try dsimp only at hSw); go_simp; try (with_reducible rfl)
      simp only [List.setIfInBounds_toArray, List.set_cons_zero, List.set_cons_succ]
      refine takeX 6 75 (v := ?_) rfl rfl (by kernel_rfl) (by kernel_rfl) (by kernel_rfl) (by kernel_rfl) (by kernel_rfl) (fun _ _ _ _ h => h) hC (by rfl) ?_ ?_
      rotate_left
      · intro w hSw; (try dsimp only at hSw); go_simp; try (with_reducible rfl)
      simp only [List.setIfInBounds_toArray, List.set_cons_zero, List.set_cons_succ]
      refine takeX 7 76 (v := ?_) rfl rfl (by kernel_rfl) (by kernel_rfl) (by kernel_rfl) (by kernel_rfl) (by kernel_rfl) (fun _ _ _ _ h => h) hC (by rfl) ?_ ?_
      rotate_left
      · intro w hSw; (try dsimp only at hSw); go_simp; try (with_reducible rfl)
      simp only [List.setIfInBounds_toArray, List.set_cons_zero, List.set_cons_succ]
      refine takeX 8 77 (v := ?_) rfl rfl (by kernel_rfl) (by kernel_rfl) (by kernel_rfl) (by kernel_rfl) (by kernel_rfl) (fun _ _ _ _ h => h) hC (by rfl) ?_ ?_
      rotate_left
      · intro w hSw; (try dsimp only at hSw); go_simp; try (with_reducible rfl)
      simp only [List.setIfInBounds_toArray, List.set_cons_zero, List.set_cons_succ]
      refine takeX 9 78 (v := ?_) rfl rfl (by kernel_rfl) (by kernel_rfl) (by kernel_rfl) (by kernel_rfl) (by kernel_rfl) (fun _ _ _ _ h => h) hC (by rfl) ?_ ?_
      rotate_left
      · intro w hSw; (try dsimp only at hSw); go_simp; try (with_reducible rfl)
      simp only [List.setIfInBounds_toArray, List.set_cons_zero, List.set_cons_succ]
      refine takeX 10 79 (v := ?_) rfl rfl (by kernel_rfl) (by kernel_rfl) (by kernel_rfl) (by kernel_rfl) (by kernel_rfl) (fun _ _ _ _ h => h) hC (by rfl) ?_ ?_
      rotate_left
      · intro w hSw; (try dsimp only at hSw); go_simp; try (with_reducible rfl)
      simp only [List.setIfInBounds_toArray, List.set_cons_zero, List.set_cons_succ]
      refine takeX 11 80 (v := ?_) rfl rfl (by kernel_rfl) (by kernel_rfl) (by kernel_rfl) (by kernel_rfl) (by kernel_rfl) (fun _ _ _ _ h => h) hC (by rfl) ?_ ?_
      rotate_left
      · intro w hSw; (try dsimp only at hSw); go_simp; try (with_reducible rfl)
      simp only [List.setIfInBounds_toArray, List.set_cons_zero, List.set_cons_succ]
      clear hC
      refine oneT (i := 12) (by kernel_rfl) rfl (by rfl) (fun KK hK => ?_)
      go_simp
      refine (HNX.out V0 HB0.out).mono ?_
      rintro e w3 ⟨rfl, h3⟩
      have HN := Lib.hid h3
      refine hK.out _ _ (fun _ => ?_) ?_
      · exact HCX.out _ h3
      clear hK KK HNX HB0 HC h3 HCX
      try simp only [Act.put, List.setIfInBounds_toArray, List.set_cons_zero, List.set_cons_succ]
      refine doneT (by kernel_rfl) ?_
      go_wp2
      go_roundg (gk - 1)
      case measure => omega
      case rel => exact ⟨j + 1, by omega, by go_num, HN.out⟩
    case neg =>
      as_aux_lemma =>
      have i1 : ¬ ((j : Int) < (n1 : Int)) := by omega
      obtain rfl : j = n1 := by omega
      obtain ⟨f, hf⟩ : ∃ f, fA l1 j = f := ⟨_, rfl⟩
      have HF : Hid (fA l1 j = f) := hf
      obtain ⟨kk, hkk, hkk8⟩ : ∃ kk : Nat, kn % 8 = kk ∧ kk < 8 := ⟨_, rfl, by omega⟩
      obtain ⟨ww, hww, hww4⟩ : ∃ ww : Nat, wn % 4 = ww ∧ ww < 4 := ⟨_, rfl, by omega⟩
      have k1 : (kn : Int).tmod 8 = (kk : Int) := by rw [Int.tmod_eq_emod_of_nonneg (by omega)]; omega
      have k2 : IntKind.u8.wrap (kk : Int) = (kk : Int) := IntWalk.u8_in _ (by omega)
      have k3 : IntKind.i64.wrap (kk : Int) = (kk : Int) := IntWalk.i64_in _ (by omega)
      have m1 : (wn : Int).tmod 4 = (ww : Int) := by rw [Int.tmod_eq_emod_of_nonneg (by omega)]; omega
      have m2 : IntKind.u8.wrap (ww : Int) = (ww : Int) := IntWalk.u8_in _ (by omega)
      have m3 : IntKind.i64.wrap (ww : Int) = (ww : Int) := IntWalk.i64_in _ (by omega)
      obtain ⟨wy, hwy⟩ : ∃ wy : Int, (ww : Int) - 1 = wy := ⟨_, rfl⟩
      have m4 : IntKind.i64.wrap ((ww : Int) - 1) = wy := by rw [IntWalk.i64_in _ (by omega)]; exact hwy
      have HWY : Hid (-1 ≤ wy ∧ wy ≤ 2) := by show _ ∧ _; omega
      rw [hf] at HH
      obtain ⟨Y1, q, Y2, hY1, hq, h6q, hY2, hO2⟩ := HH.out.rcd (.slice none 0 0) (.slice none 0 0) (kk : Int) wy 0 99
      obtain ⟨z0, z1, z2, z3, z4, z5⟩ := h6q.cells
      obtain ⟨f0, f1, f2, f3, f4, f5⟩ := h6q.frees
      have HO2 : Hid (Ob v1 d (sN 1 5 f []) Y2 [.row (.slice (some ⟨g, 0, none⟩) 5 c) rfT (refN 5), .box nb i6T (infC f), .box q rcT #[.slice none 0 0, .slice none 0 0, .int .i64 (kk : Int), .int .i64 wy, .int .i64 0, .int .i64 99], .row (.slice none 0 0) inT (ints2 (onL lw 0)), .row (.slice none 0 0) rfT ((onL lw 0).map rfN), .row (.slice none 0 0) i6T (isL lw 0)]) := ((hO2.nil inT).nil rfT).nil i6T
      clear HH h6q hO2 hf hwy hww hkk
      go_wp2_with fail
      (try rw [hY1]); (try rw [hq]); (try rw [hY2])
      clear z0 z1 z2 z3 z4 z5 f0 f1 f2 f3 f4 f5 hY1 hY2 hq k1 k2 k3 m1 m2 m3 m4
      go_loopg [93, 19] n2 (fun gk iv ov wr => ∃ (j : Nat) (AO : Option Addr) (mO cO : Nat) (AN : Option Addr) (mN cN : Nat) (AI : Option Addr) (mI cI : Nat), j + gk = n2 ∧ iv = .int .i64 (j : Int) ∧ ov = .slice AO mO cO ∧ Hid (Ob v1 d (sN 1 5 f []) wr [.row (.slice (some ⟨g, 0, none⟩) 5 c) rfT (refN 5), .box nb i6T (infC f), .box q rcT #[.slice AN mN cN, .slice AI mI cI, .int .i64 (kk : Int), .int .i64 wy, .int .i64 0, .int .i64 99], .row (.slice AO mO cO) inT (ints2 (onL lw j)), .row (.slice AN mN cN) rfT ((onL lw j).map rfN), .row (.slice AI mI cI) i6T (isL lw j)]))
      case atStart => exact ⟨0, _, _, _, _, _, _, _, _, _, by omega, rfl, rfl, HO2.out⟩
      case round =>
        clear HO2
        obtain ⟨i, AO, mO, cO, AN, mN, cN, AI, mI, cI, hi, rfl, rfl, HH⟩ := hrel
        by_cases hlt : i < n2
        case pos =>
          as_aux_lemma =>
          have i1 : (i : Int) < (n2 : Int) := by omega
          have i0 : (0 : Int) ≤ (i : Int) := by omega
          have hkw : IntKind.i64.wrap ((i : Int) + 1) = (i : Int) + 1 := IntWalk.i64_in _ (by omega)
          have hil : i < lw.length := by have := HL2.out; omega
          obtain ⟨t, ht⟩ : ∃ t, lw[i]? = some t := ⟨_, List.getElem?_eq_getElem hil⟩
          have hWr := HW.out.below (HB1.out.trans (HH.out.bel.mono HB1.out.size))
          obtain ⟨hrt1, hrt2, hrt3⟩ := hWr.rng t (List.mem_of_getElem? ht)
          rcases hWr.at_ with e0 | ⟨bw, offw, hA2, hbw, hcw⟩
          · rw [e0] at hil; cases hil
          obtain ⟨hc0, hc1⟩ := hcw i t ht
          subst hA2
          obtain ⟨xn, xi⟩ := t
          have HT : Hid (lw[i]? = some (xn, xi)) := ht
          obtain ⟨Y1, x, Y2, hY1, hx, z0, z1, f0, f1, hY2, hOw⟩ := HH.out.want (xn : Int) xi
          have x0 := hOw.cell (i := 6) rfl (j := 0) rfl
          have x1 := hOw.cell (i := 6) rfl (j := 1) rfl
          obtain ⟨ni, hni, hni5⟩ : ∃ ni : Nat, xn % 5 = ni ∧ ni < 5 := ⟨_, rfl, by omega⟩
          have a1 : IntKind.i64.wrap (xn : Int) = (xn : Int) := IntWalk.i64_in _ (by simp only at hrt1; omega)
          have a2 : (xn : Int).tmod 5 = (ni : Int) := by rw [Int.tmod_eq_emod_of_nonneg (by omega)]; omega
          have a3 : IntKind.i64.wrap (ni : Int) = (ni : Int) := IntWalk.i64_in _ (by omega)
          have HNI : Hid (xn % 5 = ni) := hni
          have HOW := Lib.hid hOw
          have hlO : (ints2 (onL lw i)).length ≤ 1000 := by have := onL_len lw i; have := HL2.out; rw [ints2_len]; omega
          obtain ⟨AO', mO', cO', Y3, happ, hO3⟩ := hOw.push1 rowI (z := (ni : Int)) (i := 3) rfl hlO
          have HO3 : Hid (OC v1 d (sN 1 5 f []) f (.slice (some ⟨g, 0, none⟩) 5 c) nb q x (.slice AN mN cN) (.slice AI mI cI) (kk : Int) wy (xn : Int) xi (.slice AO' mO' cO') (ints2 (onL lw i) ++ [(ni : Int)]) (.slice AN mN cN) (.slice AI mI cI) ((onL lw i).map rfN) (isL lw i) Y3) := hO3
          clear hOw hO3 hbw hcw hni ht hWr hlO HH
          go_upto_region 20 with (at_builtin; refine Lib.wpList_append_run _ rfl _ _ _ _ rfl _ _ rfl rfl _ _ happ ?_)
          clear happ hY1 hY2 hx z0 z1 f0 f1 x0 x1 hc0 hc1 a1 a2 a3
          have hxi4 := tmod4 ⟨hrt2, hrt3⟩
          obtain ⟨y, hy⟩ : ∃ y, xi.tmod 4 = y := ⟨_, rfl⟩
          rw [hy] at hxi4
          have w1 : IntKind.i8.wrap y = y := IntWalk.i8_in _ (by omega)
          have w2 : IntKind.i64.wrap y = y := IntWalk.i64_in _ (by omega)
          have n0 : (0 : Int) ≤ (ni : Int) := by omega
          have n5 : (ni : Int) < 5 := by omega
          obtain ⟨rj, hrj⟩ : ∃ rj, rfN ni = rj := ⟨_, rfl⟩
          have hnat : ∀ V v v' vN0 vI0 l l', OC v1 d (sN 1 5 f []) f (.slice (some ⟨g, 0, none⟩) 5 c) nb q x vN0 vI0 (kk : Int) wy (xn : Int) xi (.slice AO' mO' cO') (ints2 (onL lw i) ++ [(ni : Int)]) v v' l l' V → V.cell? ⟨g, ni, none⟩ = some (.int .i64 rj) := by
            intro V v v' vN0 vI0 l l' hV
            obtain ⟨g', e1, e2, -⟩ := Ob.num hV (i := 0) rfl (refN_at (k := 5) (i := ni) (by omega))
            injection e1 with e1
            injection e1 with e1
            subst e1
            rw [← hrj]; exact e2
          have HC : Hid (∀ (v v' : Value) (l l' : List Int) (w9 : World), OC v1 d (sN 1 5 f []) f (.slice (some ⟨g, 0, none⟩) 5 c) nb q x (.slice AN mN cN) (.slice AI mI cI) (kk : Int) wy (xn : Int) xi (.slice AO' mO' cO') (ints2 (onL lw i) ++ [(ni : Int)]) v v' l l' w9 → w9.cell? ⟨q, 0, none⟩ = some (.slice AN mN cN) ∧ w9.cell? ⟨q, 1, none⟩ = some (.slice AI mI cI) ∧ w9.cell? ⟨x, 1, none⟩ = some (.int .i8 xi) ∧ w9.cell? ⟨g, ni, none⟩ = some (.int .i64 rj)) := fun v v' l l' w9 h9 => ⟨h9.cells.1, h9.cells.2.1, h9.cells.2.2.1, hnat _ _ _ _ _ _ _ h9⟩
          have HEND : Hid (∀ (A2 : Option Addr) (m2 c2' : Nat) (B2 : Option Addr) (m3 c3 : Nat) (w9 : World), OC v1 d (sN 1 5 f []) f (.slice (some ⟨g, 0, none⟩) 5 c) nb q x (.slice A2 m2 c2') (.slice B2 m3 c3) (kk : Int) wy (xn : Int) xi (.slice AO' mO' cO') (ints2 (onL lw i) ++ [(ni : Int)]) (.slice A2 m2 c2') (.slice B2 m3 c3) ((onL lw i).map rfN ++ [rj]) (isL lw i ++ [y]) w9 → ∃ (j : Nat) (AO : Option Addr) (mO cO : Nat) (AN : Option Addr) (mN cN : Nat) (AI : Option Addr) (mI cI : Nat), j + (gk - 1) = n2 ∧ Value.int .i64 ((i : Int) + 1) = .int .i64 (j : Int) ∧ Value.slice AO' mO' cO' = .slice AO mO cO ∧ Hid (Ob v1 d (sN 1 5 f []) w9 [.row (.slice (some ⟨g, 0, none⟩) 5 c) rfT (refN 5), .box nb i6T (infC f), .box q rcT #[.slice AN mN cN, .slice AI mI cI, .int .i64 (kk : Int), .int .i64 wy, .int .i64 0, .int .i64 99], .row (.slice AO mO cO) inT (ints2 (onL lw j)), .row (.slice AN mN cN) rfT ((onL lw j).map rfN), .row (.slice AI mI cI) i6T (isL lw j)])) := by
            intro A2 m2 c2' B2 m3 c3 w9 h9
            refine ⟨i + 1, _, _, _, A2, m2, c2', B2, m3, c3, by omega, by go_num, rfl, ?_⟩
            have e1 : ints2 (onL lw (i + 1)) = ints2 (onL lw i) ++ [(ni : Int)] := by rw [onL_step HT.out]; simp only; rw [HNI.out]; simp [ints2]
            have e2 : (onL lw (i + 1)).map rfN = (onL lw i).map rfN ++ [rj] := by rw [onL_step HT.out]; simp only; rw [HNI.out, ← hrj]; simp
            have e3 : isL lw (i + 1) = isL lw i ++ [y] := by rw [isL_step HT.out, ← hy]
            rw [e1, e2, e3]
            exact Ob.init (l := [_, _, _, _, _, _]) h9
          have hlN := onL_len lw i
          have hlI := isL_len lw i
          have h2 := HL2.out
          have hLN : ((onL lw i).map rfN).length ≤ 6 := by rw [List.length_map]; omega
          have hLI : (isL lw i).length ≤ 6 := by omega
          have hn2' : n2 ≤ 6 := by omega
          clear hnat hrj hlN hlI h2 HT HNI hrt1 hrt2 hrt3 hil HOW
          generalize (onL lw i).map rfN = lN at *
          generalize isL lw i = lI at *
          generalize ints2 (onL lw i) ++ [(ni : Int)] = lO at *
          obtain ⟨nl, hLN', hnl⟩ : ∃ nl, lN.length = nl ∧ nl ≤ 6 := ⟨_, rfl, hLN⟩
          obtain ⟨il, hLI', hil⟩ : ∃ nl, lI.length = nl ∧ nl ≤ 6 := ⟨_, rfl, hLI⟩
          clear hLN hLI
          have hLN := hLN'
          have hLI := hLI'
          clear hLN' hLI'
          refine region_T (fun k => Nat.ble 17 k) (fun w' => w'.cell? ⟨q, 0, none⟩ = some (.slice AN mN cN) ∧ w'.cell? ⟨q, 1, none⟩ = some (.slice AI mI cI) ∧ w'.cell? ⟨x, 1, none⟩ = some (.int .i8 xi) ∧ w'.cell? ⟨g, ni, none⟩ = some (.int .i64 rj)) (by kernel_rfl) ?_
          obtain ⟨V0, hV0, bV0⟩ : ∃ V0 : World, Y3.drew = V0 ∧ Below Y3.heap.size Y3 V0 := ⟨_, rfl, (Below.refl _ Y3).drew⟩
          rw [hV0]
          have hB0 := Lib.hid (HO3.out.below bV0)
          have hC := HC.out _ _ _ _ _ hB0.out
          clear hV0 bV0 HO3
          refine takeX 0 105 (v := ?_) rfl rfl (by kernel_rfl) (by kernel_rfl) (by kernel_rfl) (by kernel_rfl) (by kernel_rfl) (fun _ _ _ _ h => h) hC (by rfl) ?_ ?_
          rotate_left
          · intro w hSw; (try dsimp only at hSw); go_simp; try (with_reducible rfl)
          simp only [List.setIfInBounds_toArray, List.set_cons_zero, List.set_cons_succ]
          refine takeX 1 106 (v := ?_) rfl rfl (by kernel_rfl) (by kernel_rfl) (by kernel_rfl) (by kernel_rfl) (by kernel_rfl) (fun _ _ _ _ h => h) hC (by rfl) ?_ ?_
          rotate_left
          · intro w hSw; (try dsimp only at hSw); go_simp; try (with_reducible rfl)
          simp only [List.setIfInBounds_toArray, List.set_cons_zero, List.set_cons_succ]
          refine takeX 2 107 (v := ?_) rfl rfl (by kernel_rfl) (by kernel_rfl) (by kernel_rfl) (by kernel_rfl) (by kernel_rfl) (fun _ _ _ _ h => h) hC (by rfl) ?_ ?_
          rotate_left
          · intro w hSw; (try dsimp only at hSw); go_simp; try (with_reducible rfl)
          simp only [List.setIfInBounds_toArray, List.set_cons_zero, List.set_cons_succ]
          refine takeX 3 108 (v := ?_) rfl rfl (by kernel_rfl) (by kernel_rfl) (by kernel_rfl) (by kernel_rfl) (by kernel_rfl) (fun _ _ _ _ h => h) hC (by rfl) ?_ ?_
          rotate_left
          · intro w hSw; (try dsimp only at hSw); go_simp; try (with_reducible rfl)
          simp only [List.setIfInBounds_toArray, List.set_cons_zero, List.set_cons_succ]
          refine takeX 4 109 (v := ?_) rfl rfl (by kernel_rfl) (by kernel_rfl) (by kernel_rfl) (by kernel_rfl) (by kernel_rfl) (fun _ _ _ _ h => h) hC (by rfl) ?_ ?_
          rotate_left
          · intro w hSw; (try dsimp only at hSw); go_simp; try (with_reducible rfl)
          simp only [List.setIfInBounds_toArray, List.set_cons_zero, List.set_cons_succ]
          refine takeX 5 110 (v := ?_) rfl rfl (by kernel_rfl) (by kernel_rfl) (by kernel_rfl) (by kernel_rfl) (by kernel_rfl) (fun _ _ _ _ h => h) hC (by rfl) ?_ ?_
          rotate_left
          · intro w hSw; (try dsimp only at hSw); go_simp; try (with_reducible rfl)
          simp only [List.setIfInBounds_toArray, List.set_cons_zero, List.set_cons_succ]
          refine takeX 8 113 (v := ?_) rfl rfl (by kernel_rfl) (by kernel_rfl) (by kernel_rfl) (by kernel_rfl) (by kernel_rfl) (fun _ _ _ _ h => h) hC (by rfl) ?_ ?_
          rotate_left
          · intro w hSw; (try dsimp only at hSw); go_simp; try (with_reducible rfl)
          simp only [List.setIfInBounds_toArray, List.set_cons_zero, List.set_cons_succ]
          refine takeX 9 114 (v := ?_) rfl rfl (by kernel_rfl) (by kernel_rfl) (by kernel_rfl) (by kernel_rfl) (by kernel_rfl) (fun _ _ _ _ h => h) hC (by rfl) ?_ ?_
          rotate_left
          · intro w hSw; (try dsimp only at hSw); go_simp; try (with_reducible rfl)
          simp only [List.setIfInBounds_toArray, List.set_cons_zero, List.set_cons_succ]
          refine takeX 10 115 (v := ?_) rfl rfl (by kernel_rfl) (by kernel_rfl) (by kernel_rfl) (by kernel_rfl) (by kernel_rfl) (fun _ _ _ _ h => h) hC (by rfl) ?_ ?_
          rotate_left
          · intro w hSw; (try dsimp only at hSw); go_simp; try (with_reducible rfl)
          simp only [List.setIfInBounds_toArray, List.set_cons_zero, List.set_cons_succ]
          refine takeX 11 116 (v := ?_) rfl rfl (by kernel_rfl) (by kernel_rfl) (by kernel_rfl) (by kernel_rfl) (by kernel_rfl) (fun _ _ _ _ h => h) hC (by rfl) ?_ ?_
          rotate_left
          · intro w hSw; (try dsimp only at hSw); go_simp; try (with_reducible rfl)
          simp only [List.setIfInBounds_toArray, List.set_cons_zero, List.set_cons_succ]
          refine takeX 12 117 (v := ?_) rfl rfl (by kernel_rfl) (by kernel_rfl) (by kernel_rfl) (by kernel_rfl) (by kernel_rfl) (fun _ _ _ _ h => h) hC (by rfl) ?_ ?_
          rotate_left
          · intro w hSw; (try dsimp only at hSw); go_simp; try (with_reducible rfl)
          simp only [List.setIfInBounds_toArray, List.set_cons_zero, List.set_cons_succ]
          refine takeX 13 118 (v := ?_) rfl rfl (by kernel_rfl) (by kernel_rfl) (by kernel_rfl) (by kernel_rfl) (by kernel_rfl) (fun _ _ _ _ h => h) hC (by rfl) ?_ ?_
          rotate_left
          · intro w hSw; (try dsimp only at hSw); go_simp; try (with_reducible rfl)
          simp only [List.setIfInBounds_toArray, List.set_cons_zero, List.set_cons_succ]
          clear hC
          refine twoT (i := 6) (j := 14) (by kernel_rfl) rfl rfl (by rfl) (by rfl) (fun K hK => ?_) (fun K hK => ?_)
          · go_simp
            obtain ⟨V1, gN, hX, hg, hbn, hgN⟩ : ∃ (X : World) (g : Nat), V0.alloc (.cells #[.int .i64 rj] rfT) = X ∧ V0.heap.size = g ∧ Below V0.heap.size V0 X ∧ X.heap[g]? = some (.cells #[.int .i64 rj] rfT (0, 0)) := ⟨_, _, rfl, rfl, below_new _ _, heap_alloc_new _ _⟩
            have hB1 := Lib.hid (hB0.out.below hbn)
            (try rw [hX]); (try rw [hg])
            refine hK.out _ _ (fun _ => HC.out _ _ _ _ _ hB1.out) ?_
            clear hK K hbn hX hg
            try simp only [Act.put, List.setIfInBounds_toArray, List.set_cons_zero, List.set_cons_succ]
            refine twoT (i := 7) (j := 14) (by kernel_rfl) rfl rfl (by rfl) (by rfl) (fun K hK => ?_) (fun K hK => ?_)
            · show Oper.wp _ _ _ _ _ _
              obtain ⟨AN, mN, cN, V2, happ, hRB, hkp⟩ := hB1.out.apN hgN (by rw [hLN]; omega)
              have hB2 := Lib.hid hRB
              refine wp_append_d (P := Try.prog) 112 _ _ _ _ rfl rfl _ _ rfl rfl happ ?_
              refine hK.out _ _ (fun _ => HC.out _ _ _ _ _ hB2.out) ?_
              clear hK K happ hRB hkp hgN
              simp only [List.setIfInBounds_toArray, List.set_cons_zero, List.set_cons_succ]
              have hC := HC.out _ _ _ _ _ hB2.out
              refine takeX 16 121 (v := ?_) rfl rfl (by kernel_rfl) (by kernel_rfl) (by kernel_rfl) (by kernel_rfl) (by kernel_rfl) (fun _ _ _ _ h => h) hC (by rfl) ?_ ?_
              rotate_left
              · intro w hSw; (try dsimp only at hSw); go_simp; try (with_reducible rfl)
              simp only [List.setIfInBounds_toArray, List.set_cons_zero, List.set_cons_succ]
              clear hC
              refine oneT (i := 14) (by kernel_rfl) rfl (by rfl) (fun K hK => ?_)
              go_simp
              obtain ⟨V3, gI, hX, hg, hbn, hgI⟩ : ∃ (X : World) (g : Nat), V2.alloc (.cells #[.int .i64 y] i6T) = X ∧ V2.heap.size = g ∧ Below V2.heap.size V2 X ∧ X.heap[g]? = some (.cells #[.int .i64 y] i6T (0, 0)) := ⟨_, _, rfl, rfl, below_new _ _, heap_alloc_new _ _⟩
              have hB3 := Lib.hid (hB2.out.below hbn)
              (try rw [hX]); (try rw [hg])
              refine hK.out _ _ (fun _ => HC.out _ _ _ _ _ hB3.out) ?_
              clear hK K hbn hX hg
              try simp only [Act.put, List.setIfInBounds_toArray, List.set_cons_zero, List.set_cons_succ]
              refine oneT (i := 15) (by kernel_rfl) rfl (by rfl) (fun K hK => ?_)
              show Oper.wp _ _ _ _ _ _
              obtain ⟨AI, mI, cI, V4, happ, hRB, hkp⟩ := hB3.out.apI hgI (by rw [hLI]; omega)
              have hB4 := Lib.hid hRB
              refine wp_append_d (P := Try.prog) 120 _ _ _ _ rfl rfl _ _ rfl rfl happ ?_
              refine hK.out _ _ (fun _ => HC.out _ _ _ _ _ hB4.out) ?_
              clear hK K happ hRB hkp hgI
              simp only [List.setIfInBounds_toArray, List.set_cons_zero, List.set_cons_succ]
              obtain ⟨c0, -, -, f0, -⟩ := hB4.out.cells
              have hS1 := Lib.hid (hB4.out.put0 (.slice AN mN cN))
              obtain ⟨Y1, hY1⟩ : ∃ Y1, V4.setCell ⟨q, 0, none⟩ (.slice AN mN cN) = Y1 := ⟨_, rfl⟩
              rw [hY1] at hS1
              refine oneT (i := 17) (by kernel_rfl) rfl (by rfl) (fun K hK => ?_)
              go_simp
              (try rw [hY1])
              refine hK.out _ _ (fun h => absurd h (by decide)) ?_
              clear hK K c0 f0 hY1
              try simp only [Act.put, List.setIfInBounds_toArray, List.set_cons_zero, List.set_cons_succ]
              refine oneT (i := 18) (by kernel_rfl) rfl (by rfl) (fun K hK => ?_)
              go_simp
              refine hK.out _ _ (fun h => absurd h (by decide)) ?_
              clear hK K
              try simp only [Act.put, List.setIfInBounds_toArray, List.set_cons_zero, List.set_cons_succ]
              obtain ⟨-, c1, -, -, f1⟩ := hS1.out.cells
              have hS2 := Lib.hid (hS1.out.put1 (.slice AI mI cI))
              obtain ⟨Y2, hY2⟩ : ∃ Y2, Y1.setCell ⟨q, 1, none⟩ (.slice AI mI cI) = Y2 := ⟨_, rfl⟩
              rw [hY2] at hS2
              refine oneT (i := 19) (by kernel_rfl) rfl (by rfl) (fun K hK => ?_)
              go_simp
              (try rw [hY2])
              refine hK.out _ _ (fun h => absurd h (by decide)) ?_
              clear hK K c1 f1 hY2
              try simp only [Act.put, List.setIfInBounds_toArray, List.set_cons_zero, List.set_cons_succ]
              refine doneT (by kernel_rfl) ?_
              have HN := Lib.hid (HEND.out _ _ _ _ _ _ _ hS2.out)
              clear hS1 hS2 hB4 HC HEND
              go_wp2
              go_roundg (gk - 1)
              case measure => omega
              case rel => exact HN.out
            · go_simp
              obtain ⟨V2, gI, hX, hg, hbn, hgI⟩ : ∃ (X : World) (g : Nat), V1.alloc (.cells #[.int .i64 y] i6T) = X ∧ V1.heap.size = g ∧ Below V1.heap.size V1 X ∧ X.heap[g]? = some (.cells #[.int .i64 y] i6T (0, 0)) := ⟨_, _, rfl, rfl, below_new _ _, heap_alloc_new _ _⟩
              have hB2 := Lib.hid (hB1.out.below hbn)
              have hgN := (hbn.block _ (Array.getElem?_eq_some_iff.1 hgN).1).trans hgN
              (try rw [hX]); (try rw [hg])
              refine hK.out _ _ (fun _ => HC.out _ _ _ _ _ hB2.out) ?_
              clear hK K hbn hX hg
              try simp only [Act.put, List.setIfInBounds_toArray, List.set_cons_zero, List.set_cons_succ]
              refine oneT (i := 7) (by kernel_rfl) rfl (by rfl) (fun K hK => ?_)
              show Oper.wp _ _ _ _ _ _
              obtain ⟨AN, mN, cN, V3, happ, hRB, hkp⟩ := hB2.out.apN hgN (by rw [hLN]; omega)
              have hB3 := Lib.hid hRB
              have hgI := (hkp gI _ ⟨_, hgI⟩ (by decide)).trans hgI
              refine wp_append_d (P := Try.prog) 112 _ _ _ _ rfl rfl _ _ rfl rfl happ ?_
              refine hK.out _ _ (fun _ => HC.out _ _ _ _ _ hB3.out) ?_
              clear hK K happ hRB hkp hgN
              simp only [List.setIfInBounds_toArray, List.set_cons_zero, List.set_cons_succ]
              have hC := HC.out _ _ _ _ _ hB3.out
              refine takeX 16 121 (v := ?_) rfl rfl (by kernel_rfl) (by kernel_rfl) (by kernel_rfl) (by kernel_rfl) (by kernel_rfl) (fun _ _ _ _ h => h) hC (by rfl) ?_ ?_
              rotate_left
              · intro w hSw; (try dsimp only at hSw); go_simp; try (with_reducible rfl)
              simp only [List.setIfInBounds_toArray, List.set_cons_zero, List.set_cons_succ]
              clear hC
              refine oneT (i := 15) (by kernel_rfl) rfl (by rfl) (fun K hK => ?_)
              show Oper.wp _ _ _ _ _ _
              obtain ⟨AI, mI, cI, V4, happ, hRB, hkp⟩ := hB3.out.apI hgI (by rw [hLI]; omega)
              have hB4 := Lib.hid hRB
              refine wp_append_d (P := Try.prog) 120 _ _ _ _ rfl rfl _ _ rfl rfl happ ?_
              refine hK.out _ _ (fun _ => HC.out _ _ _ _ _ hB4.out) ?_
              clear hK K happ hRB hkp hgI
              simp only [List.setIfInBounds_toArray, List.set_cons_zero, List.set_cons_succ]
              obtain ⟨c0, -, -, f0, -⟩ := hB4.out.cells
              have hS1 := Lib.hid (hB4.out.put0 (.slice AN mN cN))
              obtain ⟨Y1, hY1⟩ : ∃ Y1, V4.setCell ⟨q, 0, none⟩ (.slice AN mN cN) = Y1 := ⟨_, rfl⟩
              rw [hY1] at hS1
              refine oneT (i := 17) (by kernel_rfl) rfl (by rfl) (fun K hK => ?_)
              go_simp
              (try rw [hY1])
              refine hK.out _ _ (fun h => absurd h (by decide)) ?_
              clear hK K c0 f0 hY1
              try simp only [Act.put, List.setIfInBounds_toArray, List.set_cons_zero, List.set_cons_succ]
              refine oneT (i := 18) (by kernel_rfl) rfl (by rfl) (fun K hK => ?_)
              go_simp
              refine hK.out _ _ (fun h => absurd h (by decide)) ?_
              clear hK K
              try simp only [Act.put, List.setIfInBounds_toArray, List.set_cons_zero, List.set_cons_succ]
              obtain ⟨-, c1, -, -, f1⟩ := hS1.out.cells
              have hS2 := Lib.hid (hS1.out.put1 (.slice AI mI cI))
              obtain ⟨Y2, hY2⟩ : ∃ Y2, Y1.setCell ⟨q, 1, none⟩ (.slice AI mI cI) = Y2 := ⟨_, rfl⟩
              rw [hY2] at hS2
              refine oneT (i := 19) (by kernel_rfl) rfl (by rfl) (fun K hK => ?_)
              go_simp
              (try rw [hY2])
              refine hK.out _ _ (fun h => absurd h (by decide)) ?_
              clear hK K c1 f1 hY2
              try simp only [Act.put, List.setIfInBounds_toArray, List.set_cons_zero, List.set_cons_succ]
              refine doneT (by kernel_rfl) ?_
              have HN := Lib.hid (HEND.out _ _ _ _ _ _ _ hS2.out)
              clear hS1 hS2 hB4 HC HEND
              go_wp2
              go_roundg (gk - 1)
              case measure => omega
              case rel => exact HN.out
          · go_simp
            obtain ⟨V1, gI, hX, hg, hbn, hgI⟩ : ∃ (X : World) (g : Nat), V0.alloc (.cells #[.int .i64 y] i6T) = X ∧ V0.heap.size = g ∧ Below V0.heap.size V0 X ∧ X.heap[g]? = some (.cells #[.int .i64 y] i6T (0, 0)) := ⟨_, _, rfl, rfl, below_new _ _, heap_alloc_new _ _⟩
            have hB1 := Lib.hid (hB0.out.below hbn)
            (try rw [hX]); (try rw [hg])
            refine hK.out _ _ (fun _ => HC.out _ _ _ _ _ hB1.out) ?_
            clear hK K hbn hX hg
            try simp only [Act.put, List.setIfInBounds_toArray, List.set_cons_zero, List.set_cons_succ]
            refine oneT (i := 6) (by kernel_rfl) rfl (by rfl) (fun K hK => ?_)
            go_simp
            obtain ⟨V2, gN, hX, hg, hbn, hgN⟩ : ∃ (X : World) (g : Nat), V1.alloc (.cells #[.int .i64 rj] rfT) = X ∧ V1.heap.size = g ∧ Below V1.heap.size V1 X ∧ X.heap[g]? = some (.cells #[.int .i64 rj] rfT (0, 0)) := ⟨_, _, rfl, rfl, below_new _ _, heap_alloc_new _ _⟩
            have hB2 := Lib.hid (hB1.out.below hbn)
            have hgI := (hbn.block _ (Array.getElem?_eq_some_iff.1 hgI).1).trans hgI
            (try rw [hX]); (try rw [hg])
            refine hK.out _ _ (fun _ => HC.out _ _ _ _ _ hB2.out) ?_
            clear hK K hbn hX hg
            try simp only [Act.put, List.setIfInBounds_toArray, List.set_cons_zero, List.set_cons_succ]
            refine oneT (i := 7) (by kernel_rfl) rfl (by rfl) (fun K hK => ?_)
            show Oper.wp _ _ _ _ _ _
            obtain ⟨AN, mN, cN, V3, happ, hRB, hkp⟩ := hB2.out.apN hgN (by rw [hLN]; omega)
            have hB3 := Lib.hid hRB
            have hgI := (hkp gI _ ⟨_, hgI⟩ (by decide)).trans hgI
            refine wp_append_d (P := Try.prog) 112 _ _ _ _ rfl rfl _ _ rfl rfl happ ?_
            refine hK.out _ _ (fun _ => HC.out _ _ _ _ _ hB3.out) ?_
            clear hK K happ hRB hkp hgN
            simp only [List.setIfInBounds_toArray, List.set_cons_zero, List.set_cons_succ]
            have hC := HC.out _ _ _ _ _ hB3.out
            refine takeX 16 121 (v := ?_) rfl rfl (by kernel_rfl) (by kernel_rfl) (by kernel_rfl) (by kernel_rfl) (by kernel_rfl) (fun _ _ _ _ h => h) hC (by rfl) ?_ ?_
            rotate_left
            · intro w hSw; (try dsimp only at hSw); go_simp; try (with_reducible rfl)
            simp only [List.setIfInBounds_toArray, List.set_cons_zero, List.set_cons_succ]
            clear hC
            refine oneT (i := 15) (by kernel_rfl) rfl (by rfl) (fun K hK => ?_)
            show Oper.wp _ _ _ _ _ _
            obtain ⟨AI, mI, cI, V4, happ, hRB, hkp⟩ := hB3.out.apI hgI (by rw [hLI]; omega)
            have hB4 := Lib.hid hRB
            refine wp_append_d (P := Try.prog) 120 _ _ _ _ rfl rfl _ _ rfl rfl happ ?_
            refine hK.out _ _ (fun _ => HC.out _ _ _ _ _ hB4.out) ?_
            clear hK K happ hRB hkp hgI
            simp only [List.setIfInBounds_toArray, List.set_cons_zero, List.set_cons_succ]
            obtain ⟨c0, -, -, f0, -⟩ := hB4.out.cells
            have hS1 := Lib.hid (hB4.out.put0 (.slice AN mN cN))
            obtain ⟨Y1, hY1⟩ : ∃ Y1, V4.setCell ⟨q, 0, none⟩ (.slice AN mN cN) = Y1 := ⟨_, rfl⟩
            rw [hY1] at hS1
            refine oneT (i := 17) (by kernel_rfl) rfl (by rfl) (fun K hK => ?_)
            go_simp
            (try rw [hY1])
            refine hK.out _ _ (fun h => absurd h (by decide)) ?_
            clear hK K c0 f0 hY1
            try simp only [Act.put, List.setIfInBounds_toArray, List.set_cons_zero, List.set_cons_succ]
            refine oneT (i := 18) (by kernel_rfl) rfl (by rfl) (fun K hK => ?_)
            go_simp
            refine hK.out _ _ (fun h => absurd h (by decide)) ?_
            clear hK K
            try simp only [Act.put, List.setIfInBounds_toArray, List.set_cons_zero, List.set_cons_succ]
            obtain ⟨-, c1, -, -, f1⟩ := hS1.out.cells
            have hS2 := Lib.hid (hS1.out.put1 (.slice AI mI cI))
            obtain ⟨Y2, hY2⟩ : ∃ Y2, Y1.setCell ⟨q, 1, none⟩ (.slice AI mI cI) = Y2 := ⟨_, rfl⟩
            rw [hY2] at hS2
            refine oneT (i := 19) (by kernel_rfl) rfl (by rfl) (fun K hK => ?_)
            go_simp
            (try rw [hY2])
            refine hK.out _ _ (fun h => absurd h (by decide)) ?_
            clear hK K c1 f1 hY2
            try simp only [Act.put, List.setIfInBounds_toArray, List.set_cons_zero, List.set_cons_succ]
            refine doneT (by kernel_rfl) ?_
            have HN := Lib.hid (HEND.out _ _ _ _ _ _ _ hS2.out)
            clear hS1 hS2 hB4 HC HEND
            go_wp2
            go_roundg (gk - 1)
            case measure => omega
            case rel => exact HN.out
        case neg =>
          as_aux_lemma =>
          have i1 : ¬ ((i : Int) < (n2 : Int)) := by omega
          obtain rfl : i = n2 := by omega
          have hlen := HL2.out
          have hon : (onL lw i).length = i := by simp [onL]; omega
          have his : (isL lw i).length = i := by simp [isL]; omega
          have hon5 : ∀ x ∈ onL lw i, x < 5 := by
            intro x hx
            obtain ⟨t, -, rfl⟩ := List.mem_map.1 hx
            omega
          have hisr : ∀ x ∈ isL lw i, -4 < x ∧ x < 4 := by
            intro x hx
            obtain ⟨t, ht, rfl⟩ := List.mem_map.1 hx
            exact tmod4 ((HW.out.rng t (List.mem_of_mem_take ht)).2)
          generalize onL lw i = on at *
          generalize isL lw i = is at *
          have HL : Hid (on.length = i ∧ is.length = i) := ⟨hon, his⟩
          have H5 := Lib.hid hon5
          have HIR := Lib.hid hisr
          have hmO : mO = i := by
            obtain ⟨A', c', e, -⟩ := (HH.out.row_at (i := 3) rfl).form
            injection e with e1 e2 e3
            rw [e2, ints2_len, hon]
          have hmN : mN = i := by
            obtain ⟨A', c', e, -⟩ := (HH.out.row_at (i := 4) rfl).form
            injection e with e1 e2 e3
            rw [e2, List.length_map, hon]
          have hmI : mI = i := by
            obtain ⟨A', c', e, -⟩ := (HH.out.row_at (i := 5) rfl).form
            injection e with e1 e2 e3
            rw [e2, his]
          subst hmO hmN hmI
          have hi6 : mI ≤ 6 := by omega
          clear hon his hon5 hisr hlen HL2 HW
          go_upto_if 126 with fail
          go_cut [] (fun wx => ∃ od : Int, Hid ((∀ x l, on = x :: l → od = 200 + 10 * (x : Int) + (odn % 3 : Nat)) ∧ (on = [] → od = 0)) ∧ Hid (Ob v1 d (sN 1 5 f []) wx [.row (.slice (some ⟨g, 0, none⟩) 5 c) rfT (refN 5), .box nb i6T (infC f), .box q rcT #[.slice AN mI cN, .slice AI mI cI, .int .i64 (kk : Int), .int .i64 wy, .int .i64 od, .int .i64 99], .row (.slice AO mI cO) inT (ints2 on), .row (.slice AN mI cN) rfT (on.map rfN), .row (.slice AI mI cI) i6T is]))
          case first =>
            as_aux_lemma =>
            cases on with
            | nil =>
              obtain rfl : mI = 0 := HL.out.1.symm
              have HN : Hid (((∀ x l, ([] : List Nat) = x :: l → (0 : Int) = 200 + 10 * (x : Int) + (odn % 3 : Nat)) ∧ (([] : List Nat) = [] → (0 : Int) = 0))) := ⟨fun x l e => (by cases e), fun _ => rfl⟩
              have HH2 := Lib.hid HH.out
              clear HH HL H5 HIR
              go_wp2
              go_meet
              case rel => exact ⟨0, HN, HH2⟩
            | cons x l =>
              have hp : (0 : Int) < (mI : Int) := by have := HL.out.1; simp at this; omega
              have hx5 : x < 5 := H5.out x (List.mem_cons_self ..)
              obtain ⟨go, eO, cO0, -⟩ := HH.out.num (i := 3) (j := 0) (z := (x : Int)) rfl rfl
              subst eO
              obtain ⟨oo, hoo, hoo3⟩ : ∃ oo : Nat, odn % 3 = oo ∧ oo < 3 := ⟨_, rfl, by omega⟩
              have o1 : (odn : Int).tmod 3 = (oo : Int) := by rw [Int.tmod_eq_emod_of_nonneg (by omega)]; omega
              have o2 : IntKind.u8.wrap (oo : Int) = (oo : Int) := IntWalk.u8_in _ (by omega)
              have o3 : IntKind.i64.wrap (oo : Int) = (oo : Int) := IntWalk.i64_in _ (by omega)
              have o4 : IntKind.i64.wrap (10 * (x : Int)) = 10 * (x : Int) := IntWalk.i64_in _ (by omega)
              have o5 : IntKind.i64.wrap (200 + 10 * (x : Int)) = 200 + 10 * (x : Int) := IntWalk.i64_in _ (by omega)
              obtain ⟨od, hod⟩ : ∃ od : Int, 200 + 10 * (x : Int) + (oo : Int) = od := ⟨_, rfl⟩
              have o6 : IntKind.i64.wrap (200 + 10 * (x : Int) + (oo : Int)) = od := by rw [IntWalk.i64_in _ (by omega)]; exact hod
              have f4 := HH.out.free (i := 2) rfl 4
              have c4 := HH.out.cell (i := 2) (j := 4) rfl rfl
              have hS := HH.out.set (i := 2) rfl 4 (.int .i64 od)
              obtain ⟨Y, hY⟩ : ∃ Y, wr.setCell ⟨q, 4, none⟩ (.int .i64 od) = Y := ⟨_, rfl⟩
              rw [hY] at hS
              have HN : Hid ((∀ y l', x :: l = y :: l' → od = 200 + 10 * (y : Int) + (odn % 3 : Nat)) ∧ (x :: l = [] → od = 0)) := ⟨fun y l' e => by injection e with e1 e2; subst e1; rw [hoo]; exact hod.symm, fun e => by cases e⟩
              have HS : Hid (Ob v1 d (sN 1 5 f []) Y [.row (.slice (some ⟨g, 0, none⟩) 5 c) rfT (refN 5), .box nb i6T (infC f), .box q rcT #[.slice AN mI cN, .slice AI mI cI, .int .i64 (kk : Int), .int .i64 wy, .int .i64 od, .int .i64 99], .row (.slice (some ⟨go, 0, none⟩) mI cO) inT (ints2 (x :: l)), .row (.slice AN mI cN) rfT ((x :: l).map rfN), .row (.slice AI mI cI) i6T is]) := hS
              clear hS HH HL H5 HIR hod hoo
              go_wp2
              (try rw [hY])
              go_meet
              case rel => exact ⟨od, HN, HS⟩
          case rest =>
            as_aux_lemma =>
            obtain ⟨od, HOD, HX⟩ := hcut
            clear HH
            obtain ⟨V0, hV0, bV0⟩ : ∃ V0 : World, wc.drew = V0 ∧ Below wc.heap.size wc V0 := ⟨_, rfl, (Below.refl _ wc).drew⟩
            have hV := HX.out.below bV0
            have HMK : Hid (Calls Try.prog 8 #[ptr d.R, .agg #[.slice AN mI cN, .slice AI mI cI, .int .i64 (kk : Int), .int .i64 wy, .int .i64 od, .int .i64 99]] V0 fun e w' => e = .returned (.tuple #[.int .i64 1, .bool true]) ∧ Ob v1 d (s1 1 5 f (rcN on is (kk : Int) wy od 99) 1 false) w' [.row (.slice (some ⟨g, 0, none⟩) 5 c) rfT (refN 5), .box nb i6T (infC f), .box q rcT #[.slice AN mI cN, .slice AI mI cI, .int .i64 (kk : Int), .int .i64 wy, .int .i64 od, .int .i64 99], .row (.slice AO mI cO) inT (ints2 on), .row (.slice AN mI cN) rfT (on.map rfN), .row (.slice AI mI cI) i6T is]) :=
              hV.nx fun FW hW => nxW_rmake (r := rcN on is (kk : Int) wy od 99) hW (hV.row_at (i := 4) rfl).sl (hV.row_at (i := 5) rfl).sl (by show (0 : Int) ≤ (kk : Int); omega) (by rw [HDM.out]; simp [sN]) (by rw [HDM.out]; omega) (by omega)
            have hC : V0.cell? ⟨d.W, 1, none⟩ = some (ptr d.R) ∧ V0.cell? ⟨q, 0, none⟩ = some (.slice AN mI cN) ∧ V0.cell? ⟨q, 1, none⟩ = some (.slice AI mI cI) ∧ V0.cell? ⟨q, 2, none⟩ = some (.int .i64 (kk : Int)) ∧ V0.cell? ⟨q, 3, none⟩ = some (.int .i64 wy) ∧ V0.cell? ⟨q, 4, none⟩ = some (.int .i64 od) ∧ V0.cell? ⟨q, 5, none⟩ = some (.int .i64 99) := ⟨hV.cells.2, hV.cell (i := 2) rfl rfl, hV.cell (i := 2) rfl rfl, hV.cell (i := 2) rfl rfl, hV.cell (i := 2) rfl rfl, hV.cell (i := 2) rfl rfl, hV.cell (i := 2) rfl rfl⟩
            have HCX : Hid (∀ (s : Sig) (u1 : World), Ob v1 d s u1 [.row (.slice (some ⟨g, 0, none⟩) 5 c) rfT (refN 5), .box nb i6T (infC f), .box q rcT #[.slice AN mI cN, .slice AI mI cI, .int .i64 (kk : Int), .int .i64 wy, .int .i64 od, .int .i64 99], .row (.slice AO mI cO) inT (ints2 on), .row (.slice AN mI cN) rfT (on.map rfN), .row (.slice AI mI cI) i6T is] → u1.cell? ⟨d.W, 1, none⟩ = some (ptr d.R) ∧ u1.cell? ⟨q, 0, none⟩ = some (.slice AN mI cN) ∧ u1.cell? ⟨q, 1, none⟩ = some (.slice AI mI cI) ∧ u1.cell? ⟨q, 2, none⟩ = some (.int .i64 (kk : Int)) ∧ u1.cell? ⟨q, 3, none⟩ = some (.int .i64 wy) ∧ u1.cell? ⟨q, 4, none⟩ = some (.int .i64 od) ∧ u1.cell? ⟨q, 5, none⟩ = some (.int .i64 99)) := fun s u1 hV => ⟨hV.cells.2, hV.cell (i := 2) rfl rfl, hV.cell (i := 2) rfl rfl, hV.cell (i := 2) rfl rfl, hV.cell (i := 2) rfl rfl, hV.cell (i := 2) rfl rfl, hV.cell (i := 2) rfl rfl⟩
            clear hV HX bV0
            go_wp2_with fail
            refine region_T (fun _ => false) (fun u1 => u1.cell? ⟨d.W, 1, none⟩ = some (ptr d.R) ∧ u1.cell? ⟨q, 0, none⟩ = some (.slice AN mI cN) ∧ u1.cell? ⟨q, 1, none⟩ = some (.slice AI mI cI) ∧ u1.cell? ⟨q, 2, none⟩ = some (.int .i64 (kk : Int)) ∧ u1.cell? ⟨q, 3, none⟩ = some (.int .i64 wy) ∧ u1.cell? ⟨q, 4, none⟩ = some (.int .i64 od) ∧ u1.cell? ⟨q, 5, none⟩ = some (.int .i64 99)) (by kernel_rfl) ?_
            rw [hV0]
            clear hV0
            refine takeX 0 138 (v := ?_) rfl rfl (by kernel_rfl) (by kernel_rfl) (by kernel_rfl) (by kernel_rfl) (by kernel_rfl) (fun _ _ _ _ h => h) hC (by rfl) ?_ ?_
            rotate_left
            · intro w hSw; (try dsimp only at hSw); go_simp; try (with_reducible rfl)
            simp only [List.setIfInBounds_toArray, List.set_cons_zero, List.set_cons_succ]
            refine takeX 1 139 (v := ?_) rfl rfl (by kernel_rfl) (by kernel_rfl) (by kernel_rfl) (by kernel_rfl) (by kernel_rfl) (fun _ _ _ _ h => h) hC (by rfl) ?_ ?_
            rotate_left
            · intro w hSw; (try dsimp only at hSw); go_simp; try (with_reducible rfl)
            simp only [List.setIfInBounds_toArray, List.set_cons_zero, List.set_cons_succ]
            refine takeX 2 140 (v := ?_) rfl rfl (by kernel_rfl) (by kernel_rfl) (by kernel_rfl) (by kernel_rfl) (by kernel_rfl) (fun _ _ _ _ h => h) hC (by rfl) ?_ ?_
            rotate_left
            · intro w hSw; (try dsimp only at hSw); go_simp; try (with_reducible rfl)
            simp only [List.setIfInBounds_toArray, List.set_cons_zero, List.set_cons_succ]
            refine takeX 3 141 (v := ?_) rfl rfl (by kernel_rfl) (by kernel_rfl) (by kernel_rfl) (by kernel_rfl) (by kernel_rfl) (fun _ _ _ _ h => h) hC (by rfl) ?_ ?_
            rotate_left
            · intro w hSw; (try dsimp only at hSw); go_simp; try (with_reducible rfl)
            simp only [List.setIfInBounds_toArray, List.set_cons_zero, List.set_cons_succ]
            refine takeX 4 142 (v := ?_) rfl rfl (by kernel_rfl) (by kernel_rfl) (by kernel_rfl) (by kernel_rfl) (by kernel_rfl) (fun _ _ _ _ h => h) hC (by rfl) ?_ ?_
            rotate_left
            · intro w hSw; (try dsimp only at hSw); go_simp; try (with_reducible rfl)
            simp only [List.setIfInBounds_toArray, List.set_cons_zero, List.set_cons_succ]
            refine oneT (i := 5) (by kernel_rfl) rfl (by rfl) (fun KK hK => ?_)
            go_simp
            refine HMK.out.mono ?_
            rintro e u1 ⟨rfl, hu1⟩
            have HU := Lib.hid hu1
            have hC2 := HCX.out _ u1 hu1
            clear hu1 hC
            have hC := hC2
            clear hC2
            refine hK.out _ _ (fun _ => hC) ?_
            clear hK KK HMK HCX
            try simp only [Act.put, List.setIfInBounds_toArray, List.set_cons_zero, List.set_cons_succ]
            refine takeX 6 137 (v := ?_) rfl rfl (by kernel_rfl) (by kernel_rfl) (by kernel_rfl) (by kernel_rfl) (by kernel_rfl) (fun _ _ _ _ h => h) hC (by rfl) ?_ ?_
            rotate_left
            · intro w hSw; (try dsimp only at hSw); go_simp; try (with_reducible rfl)
            simp only [List.setIfInBounds_toArray, List.set_cons_zero, List.set_cons_succ]
            refine takeX 7 144 (v := ?_) rfl rfl (by kernel_rfl) (by kernel_rfl) (by kernel_rfl) (by kernel_rfl) (by kernel_rfl) (fun _ _ _ _ h => h) hC (by rfl) ?_ ?_
            rotate_left
            · intro w hSw; (try dsimp only at hSw); go_simp; try (with_reducible rfl)
            simp only [List.setIfInBounds_toArray, List.set_cons_zero, List.set_cons_succ]
            refine takeX 8 145 (v := ?_) rfl rfl (by kernel_rfl) (by kernel_rfl) (by kernel_rfl) (by kernel_rfl) (by kernel_rfl) (fun _ _ _ _ h => h) hC (by rfl) ?_ ?_
            rotate_left
            · intro w hSw; (try dsimp only at hSw); go_simp; try (with_reducible rfl)
            simp only [List.setIfInBounds_toArray, List.set_cons_zero, List.set_cons_succ]
            refine takeX 9 23 (v := ?_) rfl rfl (by kernel_rfl) (by kernel_rfl) (by kernel_rfl) (by kernel_rfl) (by kernel_rfl) (fun _ _ _ _ h => h) hC (by rfl) ?_ ?_
            rotate_left
            · intro w hSw; (try dsimp only at hSw); go_simp; try (with_reducible rfl)
            simp only [List.setIfInBounds_toArray, List.set_cons_zero, List.set_cons_succ]
            refine takeX 10 24 (v := ?_) rfl rfl (by kernel_rfl) (by kernel_rfl) (by kernel_rfl) (by kernel_rfl) (by kernel_rfl) (fun _ _ _ _ h => h) hC (by rfl) ?_ ?_
            rotate_left
            · intro w hSw; (try dsimp only at hSw); go_simp; try (with_reducible rfl)
            simp only [List.setIfInBounds_toArray, List.set_cons_zero, List.set_cons_succ]
            refine doneT (by kernel_rfl) ?_
            clear hC
            have HI : Hid (HAi on is mI kk wy od (rcN on is (kk : Int) wy od 99) f) := ⟨HL.out.1, HL.out.2, hi6, H5.out, hkk8, HWY.out.1, HWY.out.2, rfl, fun i => by rw [← HF.out]; exact (fA_all _ _ i).1, fun i => by rw [← HF.out]; exact (fA_all _ _ i).2.1, fun i => by rw [← HF.out]; exact (fA_all _ _ i).2.2, fun i _ => by rw [← HF.out]; exact fA_in HO.out.rng _ i, HIR.out⟩
            generalize rcN on is (kk : Int) wy od 99 = rr at *
            have hR1 := HU.out.cells.2
            have HSA : Hid (Calls Try.prog 9 #[ptr d.R, .int .i64 1] u1 fun e w' => e = .returned (.tuple #[]) ∧ Ob v1 d (s1 1 5 f rr 1 true) w' [.row (.slice (some ⟨g, 0, none⟩) 5 c) rfT (refN 5), .box nb i6T (infC f), .box q rcT #[.slice AN mI cN, .slice AI mI cI, .int .i64 (kk : Int), .int .i64 wy, .int .i64 od, .int .i64 99], .row (.slice AO mI cO) inT (ints2 on), .row (.slice AN mI cN) rfT (on.map rfN), .row (.slice AI mI cI) i6T is]) := by
              have := HU.out.nx (fun FW hW => nxW_setAll hW (by simp [s1, sN]) 1)
              rw [g_setAll] at this
              exact this
            go_upto_if 146 with fail
            go_cut [] (fun wx => Hid (Ob v1 d (s1 1 5 f rr 1 all) wx [.row (.slice (some ⟨g, 0, none⟩) 5 c) rfT (refN 5), .box nb i6T (infC f), .box q rcT #[.slice AN mI cN, .slice AI mI cI, .int .i64 (kk : Int), .int .i64 wy, .int .i64 od, .int .i64 99], .row (.slice AO mI cO) inT (ints2 on), .row (.slice AN mI cN) rfT (on.map rfN), .row (.slice AI mI cI) i6T is]))
            case first =>
              as_aux_lemma =>
              cases all with
              | true =>
                clear HU
                go_wp2_with fail
                refine HSA.out.mono ?_
                rintro e u2 ⟨rfl, hu2⟩
                have HN := Lib.hid hu2
                clear HSA hu2 hR1
                go_wp2
                go_meet
                case rel => exact HN
              | false =>
                clear HSA hR1
                go_wp2
                go_meet
                case rel => exact HU
            case rest =>
              as_aux_lemma =>
              have HX := hcut
              clear HU HSA hR1 hcut
              obtain ⟨V0, hV0, bV0⟩ : ∃ V0 : World, wc.drew = V0 ∧ Below wc.heap.size wc V0 := ⟨_, rfl, (Below.refl _ wc).drew⟩
              have hmk := run_mkB V0
              obtain ⟨Zm, mb, hZm, hmb, hOm⟩ : ∃ (Z : World) (b : Nat), V0.alloc (.cells (mrkC ns0) 4) = Z ∧ V0.heap.size = b ∧ Ob v1 d (s1 1 5 f rr 1 all) Z [.row (.slice (some ⟨g, 0, none⟩) 5 c) rfT (refN 5), .box nb i6T (infC f), .box q rcT #[.slice AN mI cN, .slice AI mI cI, .int .i64 (kk : Int), .int .i64 wy, .int .i64 od, .int .i64 99], .row (.slice AO mI cO) inT (ints2 on), .row (.slice AN mI cN) rfT (on.map rfN), .row (.slice AI mI cI) i6T is, .box b 4 (mrkC ns0)] := ⟨_, _, rfl, rfl, (HX.out.below bV0).box (mrkC ns0) 4⟩
              have HOM := Lib.hid hOm
              rw [hZm, hmb] at hmk
              clear hOm HX bV0
              go_wp2_with fail
              refine region_T (fun _ => false) (fun u : World => True) (by kernel_rfl) ?_
              rw [hV0]
              clear hV0
              have hC : True := trivial
              refine takeX 1 25 (v := ?_) rfl rfl (by kernel_rfl) (by kernel_rfl) (by kernel_rfl) (by kernel_rfl) (by kernel_rfl) (fun _ _ _ _ h => h) hC (by rfl) ?_ ?_
              rotate_left
              · intro w hSw; (try dsimp only at hSw); go_simp; try (with_reducible rfl)
              simp only [List.setIfInBounds_toArray, List.set_cons_zero, List.set_cons_succ]
              refine takeX 2 26 (v := ?_) rfl rfl (by kernel_rfl) (by kernel_rfl) (by kernel_rfl) (by kernel_rfl) (by kernel_rfl) (fun _ _ _ _ h => h) hC (by rfl) ?_ ?_
              rotate_left
              · intro w hSw; (try dsimp only at hSw); go_simp; try (with_reducible rfl)
              simp only [List.setIfInBounds_toArray, List.set_cons_zero, List.set_cons_succ]
              refine takeX 3 27 (v := ?_) rfl rfl (by kernel_rfl) (by kernel_rfl) (by kernel_rfl) (by kernel_rfl) (by kernel_rfl) (fun _ _ _ _ h => h) hC (by rfl) ?_ ?_
              rotate_left
              · intro w hSw; (try dsimp only at hSw); go_simp; try (with_reducible rfl)
              simp only [List.setIfInBounds_toArray, List.set_cons_zero, List.set_cons_succ]
              refine oneT (i := 0) (by kernel_rfl) rfl (by rfl) (fun KK hK => ?_)
              go_simp
              refine hK.out _ _ (fun _ => trivial) ?_
              clear hK KK hmk
              try simp only [Act.put, List.setIfInBounds_toArray, List.set_cons_zero, List.set_cons_succ]
              refine takeX 4 28 (v := ?_) rfl rfl (by kernel_rfl) (by kernel_rfl) (by kernel_rfl) (by kernel_rfl) (by kernel_rfl) (fun _ _ _ _ h => h) hC (by rfl) ?_ ?_
              rotate_left
              · intro w hSw; (try dsimp only at hSw); go_simp; try (with_reducible rfl)
              simp only [List.setIfInBounds_toArray, List.set_cons_zero, List.set_cons_succ]
              refine takeX 5 29 (v := ?_) rfl rfl (by kernel_rfl) (by kernel_rfl) (by kernel_rfl) (by kernel_rfl) (by kernel_rfl) (fun _ _ _ _ h => h) hC (by rfl) ?_ ?_
              rotate_left
              · intro w hSw; (try dsimp only at hSw); go_simp; try (with_reducible rfl)
              simp only [List.setIfInBounds_toArray, List.set_cons_zero, List.set_cons_succ]
              refine doneT (by kernel_rfl) ?_
              clear hC hZm hmb
              have e0 : mrkC ns0 = mrkC f := mrkC_same fun i => (HI.out.mk0 i).symm
              rw [e0] at HOM
              rename_i K1 hK1
              refine hK1 _ _ ?_
              exact ha28_walk HB1 HI HOM
end Go.Proofs.Ytoeilogakfggfaa
