/-
  Law LlxStale: nodes of two threads change while a third's Change goes through.
-/
import Derived.Test.YtmhmgdpcibldlaaSg10
namespace Go.Proofs.Ytmhmgdpcibldlaa
open Go.ChangeShapes Go.WideShapes Go.ChangeAt Go.RowKit
set_option linter.unusedVariables false
set_option linter.unusedSimpArgs false
set_option maxRecDepth 20000
theorem stt_s0 {k : Nat} (h : 1 ≤ k ∧ k ≤ 4) : Stt (ndsN k) 40 (s0L k) := stt_sN (by omega) (fun j hj => ⟨in64_small (z := 200 + 10 * (j : Int)) (by omega), in64_small (z := 201 + 10 * (j : Int)) (by omega)⟩) (fun x hx => (by cases hx)) (by simp)
theorem inv_s0 {k B : Nat} (h : 1 ≤ k ∧ k ≤ 4) (hB : B ≤ 900) : Inv 2 B (s0L k) := inv_ns0 2 k B (by omega) (by omega) hB [] (by simp)
theorem rj_lt {k j : Nat} (h : 1 ≤ k ∧ k ≤ 4) (hj : j ≤ 7 * k) : ∃ u, oLt k j = .run u ∧ RJ (ndsN k) 40 2 u (s0L k) := runsP_rj (runs_lt h) (RJ.begin_ (tj_change (by omega) _) (kl_change (by rw [ndsN_len]; omega) (in64_small (by omega))) (good_change _ _ _ _ _ _ _) (stt_s0 h)) (inv_s0 h (by omega)) (stt_s0 h) j hj
theorem rj_st {k j : Nat} (h : 1 ≤ k ∧ k ≤ 4) (hj : j ≤ 7 * k) : ∃ u, oSt k j = .run u ∧ RJ (ndsN k) 40 2 u (s0L k) := runsP_rj (runs_st h) (RJ.begin_ (tj_stl _) (kl_stl _) (good_stl _ _) (stt_s0 h)) (inv_s0 h (by omega)) (stt_s0 h) j hj
theorem lt_at {k j : Nat} (h : 1 ≤ k ∧ k ≤ 4) (hj : j < 7 * k) : nxT (oLt k j) (s0L k) = (oLt k (j + 1), s0L k) ∧ stO (oLt k j) (s0L k) := by
  obtain ⟨u', e⟩ := runsP_at (runs_lt h) hj
  obtain ⟨u, e2, hr⟩ := rj_lt h (Nat.le_of_lt hj)
  refine ⟨Prod.ext (itN_succ _ _ _).symm ?_, by rw [e2]; exact hr.stO⟩
  have e3 := congrArg Prod.snd e
  exact e3
theorem st_at {k j : Nat} (h : 1 ≤ k ∧ k ≤ 4) (hj : j < 7 * k) : nxT (oSt k j) (s0L k) = (oSt k (j + 1), s0L k) ∧ stO (oSt k j) (s0L k) := by
  obtain ⟨u', e⟩ := runsP_at (runs_st h) hj
  obtain ⟨u, e2, hr⟩ := rj_st h (Nat.le_of_lt hj)
  refine ⟨Prod.ext (itN_succ _ _ _).symm ?_, by rw [e2]; exact hr.stO⟩
  have e3 := congrArg Prod.snd e
  exact e3
theorem rj_qk {k i : Nat} (h : 1 ≤ k ∧ k ≤ 4) (hi : i < k) : RJ (ndsN k) 40 2 (nrm (tQk i) (s0L k)) (s0L k) := RJ.begin_ (tj_change (by omega) _) (kl_change (by simp) (in64_small (by omega))) (good_change _ _ _ _ _ _ _) (stt_s0 h)
theorem le_s0 (k : Nat) (s : Sig) : Le (s0L k) s := fun n e => (e (show rcAt ([] : List Re) n = none by unfold rcAt; simp)).elim
theorem evq {k i : Nat} (h : 1 ≤ k ∧ k ≤ 4) (hi : i < k) : (ev (nrm (tQk i) (s0L k)) (s0L k)).1 = [1] ∧ (ev (nrm (tQk i) (s0L k)) (s0L k)).2.2 ≤ 40 ∧ (ev (nrm (tQk i) (s0L k)) (s0L k)).2.1 = sQk k i := by
  rw [← ev_nrm]; exact ⟨(ev_qk h hi).1, (ev_qk h hi).2, rfl⟩
theorem all_of {k B : Nat} {u : Tr (List Int)} {s : Sig} (hr : RJ (ndsN k) 40 2 u s) (hS : Stt (ndsN k) 40 s) (hI : Inv 2 (B + (ev u s).2.2) s) : Stt (ndsN k) 40 (ev u s).2.1 ∧ Inv 2 B (ev u s).2.1 := ⟨ev_kpL hr.kp hS, (tj_all hr.tj hr.kp s B hS hI).2⟩
theorem all_qk {k i : Nat} (h : 1 ≤ k ∧ k ≤ 4) (hi : i < k) : Stt (ndsN k) 40 (sQk k i) ∧ Inv 2 300 (sQk k i) := by
  obtain ⟨-, h2, h3⟩ := evq h hi
  have := all_of (B := 300) (rj_qk h hi) (stt_s0 h) (inv_s0 h (by omega))
  rw [h3] at this; exact this
theorem all_lt {k i : Nat} (h : 1 ≤ k ∧ k ≤ 4) (hi : i < k) : ∃ u, oLt k (7 * k) = .run u ∧ RJ (ndsN k) 40 2 u (sQk k i) ∧ (ev u (sQk k i)).1 = [0] ∧ (ev u (sQk k i)).2.2 ≤ 60 ∧ (ev u (sQk k i)).2.1 = sLt k i ∧ Stt (ndsN k) 40 (sLt k i) ∧ Inv 2 200 (sLt k i) := by
  obtain ⟨u, e, hr⟩ := rj_lt h (Nat.le_refl (7 * k))
  have h1 := ev_lt h hi
  have h2 : (ev (rsd (oLt k (7 * k))) (sQk k i)).2.1 = sLt k i := rfl
  rw [e] at h1 h2
  simp only [rsd] at h1 h2
  have hr2 := hr.le (le_s0 k (sQk k i))
  have h3 := all_of (B := 200) hr2 (all_qk h hi).1 ((all_qk h hi).2.mono (by omega))
  rw [h2] at h3
  exact ⟨u, e, hr2, h1.1, h1.2, h2, h3⟩
theorem all_st {k i : Nat} (h : 1 ≤ k ∧ k ≤ 4) (hi : i < k) : ∃ u, oSt k (7 * k) = .run u ∧ RJ (ndsN k) 40 2 u (sLt k i) ∧ (ev u (sLt k i)).1 = [1] ∧ (ev u (sLt k i)).2.2 ≤ 60 ∧ (ev u (sLt k i)).2.1 = sSt k i ∧ Stt (ndsN k) 40 (sSt k i) ∧ Inv 2 100 (sSt k i) := by
  obtain ⟨u, e, hr⟩ := rj_st h (Nat.le_refl (7 * k))
  obtain ⟨-, -, -, -, -, -, g1, g2⟩ := all_lt h hi
  have h1 := ev_st h hi
  have h2 : (ev (rsd (oSt k (7 * k))) (sLt k i)).2.1 = sSt k i := rfl
  rw [e] at h1 h2
  simp only [rsd] at h1 h2
  have hr2 := hr.le (le_s0 k (sLt k i))
  have h3 := all_of (B := 100) hr2 g1 (g2.mono (by omega))
  rw [h2] at h3
  exact ⟨u, e, hr2, h1.1, h1.2, h2, h3⟩
set_option maxHeartbeats 16000000 in
theorem llxStale_walk (x y z : Nat) (hx : x < 256) (hy : y < 256) (hz : z < 256) (w : World) :
    Calls Try.prog 6 #[.int .u8 (x : Int), .int .u8 (y : Int), .int .u8 (z : Int)] w fun e w' => e = .returned (.bool true) ∧ Below w.heap.size w w' := by
  obtain ⟨k, hk, hk1, hk4⟩ : ∃ k : Nat, 1 + x % 4 = k ∧ 1 ≤ k ∧ k ≤ 4 := ⟨_, rfl, by omega, by omega⟩
  obtain ⟨i, hi, hik⟩ : ∃ i : Nat, y % k = i ∧ i < k := ⟨_, rfl, Nat.mod_lt _ (by omega)⟩
  have a1 : IntKind.i64.wrap (x : Int) = (x : Int) := IntWalk.i64_in _ (by omega)
  have d1 : (x : Int).tmod 4 = (x : Int) % 4 := Int.tmod_eq_emod_of_nonneg (by omega)
  have e1 : IntKind.i64.wrap (1 + (x : Int) % 4) = (k : Int) := by rw [IntWalk.i64_in _ (by omega)]; omega
  have e1' : 1 + (x : Int) % 4 = (k : Int) := by omega
  have e7 : IntKind.i64.wrap (7 * (k : Int)) = ((7 * k : Nat) : Int) := by rw [IntWalk.i64_in _ (by omega)]; omega
  generalize (x : Int) % 4 = x4 at *
  clear hk
  go_enter Try.func6, Try.ntmps6
  go_wp2_with fail
  refine (awake10_walk w).mono ?_
  rintro e v1 ⟨rfl, b1⟩
  go_wp2_with fail
  refine (nodes_walk 2 k (by omega) (by omega) v1).mono ?_
  rintro e v2 ⟨d, A, m, c, rfl, hN⟩
  have HB1 := Lib.hid b1
  have HDM := Lib.hid hN.dm
  obtain ⟨g, c', hv, hX0, hcg⟩ := hN.rowX.at_ (refN_at (k := k) (i := 0) (by omega))
  rw [refN_len] at hv
  injection hv with e5 e6 e4
  subst e5 e4 e6
  have hG := hN.lg
  obtain ⟨Z, bx, hZ, hbx⟩ : ∃ (Z : World) (b : Nat), v2.alloc (.cells #[.slice (some ⟨g, 0, none⟩) m c] 26) = Z ∧ v2.heap.size = b := ⟨_, _, rfl, rfl⟩
  have hS := SG.lg (t := 26) hG
  rw [hZ, hbx] at hS
  have HS0 : Hid (SG v1 (.slice (some ⟨g, 0, none⟩) m c) bx d m 0 (s0L m) Z []) := hS
  obtain ⟨p0, p1, p2⟩ := HS0.out.cells
  have HC1 := Lib.hid (HS0.out.change (me := 0) (kp := 1) (wy := 0) (od := 200) (nw := 50) HDM.out (by omega) (in64_small (by omega)))
  clear hN b1 hcg hG hX0 d1 a1 e1 e1' hS
  go_wp2_with fail
  (try rw [hZ]); (try rw [hbx])
  go_wp2_with fail
  refine HC1.out.mono ?_
  rintro e u1 ⟨A0, rfl, hS1⟩
  have HS1 := Lib.hid hS1
  have HC2 := Lib.hid (HS1.out.still (me := 0) (by omega))
  clear hS1 HC1 HS0 hZ hbx p0 p1 p2
  go_wp2_with fail
  refine HC2.out.mono ?_
  rintro e u2 ⟨A1, rfl, hS2⟩
  have HS2 : Hid (SG v1 (.slice (some ⟨g, 0, none⟩) m c) bx d m 0 (s0L m) u2 [(A0, oLt m 0), (A1, oSt m 0)]) := hS2
  clear hS2 HC2 HS1
  go_wp2_with fail
  go_loopg [42] (7 * m) (fun gk iv wr => ∃ j : Nat, j + gk = 7 * m ∧ iv = .int .i64 (j : Int) ∧ Hid (SG v1 (.slice (some ⟨g, 0, none⟩) m c) bx d m (2 * j) (s0L m) wr [(A0, oLt m j), (A1, oSt m j)]))
  case atStart => exact ⟨0, by omega, rfl, HS2⟩
  case round =>
    clear HS2
    obtain ⟨j, hj, rfl, HH⟩ := hrel
    by_cases hlt : j < 7 * m
    case pos =>
      have i1 : (j : Int) < ((7 * m : Nat) : Int) := by omega
      have i0 : (0 : Int) ≤ (j : Int) := by omega
      have hkw : IntKind.i64.wrap ((j : Int) + 1) = (j : Int) + 1 := IntWalk.i64_in _ (by omega)
      have hL := lt_at (k := m) ⟨hk1, hk4⟩ hlt
      have hT := st_at (k := m) ⟨hk1, hk4⟩ hlt
      have HA1 := Lib.hid (HH.out.step (i := 0) rfl (fun _ => ⟨stt_s0 ⟨hk1, hk4⟩, (inv_s0 (B := 0) ⟨hk1, hk4⟩ (by omega)).fit⟩) hL.2 (by omega))
      rw [hL.1] at HA1
      have HT := Lib.hid hT
      clear hL hT
      go_wp2_with fail
      refine HA1.out.mono ?_
      rintro e w2 ⟨rfl, hS3⟩
      have HA2 := Lib.hid (hS3.step (i := 1) rfl (fun _ => ⟨stt_s0 ⟨hk1, hk4⟩, (inv_s0 (B := 0) ⟨hk1, hk4⟩ (by omega)).fit⟩) HT.out.2 (by omega))
      rw [HT.out.1] at HA2
      clear hS3 HA1 HT
      go_wp2_with fail
      refine HA2.out.mono ?_
      rintro e w3 ⟨rfl, hS4⟩
      have HS4 : Hid (SG v1 (.slice (some ⟨g, 0, none⟩) m c) bx d m (2 * (j + 1)) (s0L m) w3 [(A0, oLt m (j + 1)), (A1, oSt m (j + 1))]) := hS4
      clear hS4 HA2
      go_wp2
      go_roundg (gk - 1)
      case measure => omega
      case rel => exact ⟨j + 1, by omega, by go_num, HS4⟩
    have i1 : ¬ ((j : Int) < ((7 * m : Nat) : Int)) := by omega
    obtain rfl : j = 7 * m := by omega
    have a2 : IntKind.i64.wrap (y : Int) = (y : Int) := IntWalk.i64_in _ (by omega)
    have d2 : (y : Int).tmod (m : Int) = (i : Int) := by rw [Int.tmod_eq_emod_of_nonneg (by omega), ← hi]; rfl
    have wi : IntKind.i64.wrap (i : Int) = (i : Int) := IntWalk.i64_in _ (by omega)
    have hm0 : ¬ ((m : Int) = 0) := by omega
    have hm1 : ¬ (m = 0) := by omega
    have i0 : (0 : Int) ≤ (i : Int) := by omega
    have i2 : (i : Int) < (m : Int) := by omega
    obtain ⟨ri, hri⟩ : ∃ ri, rfN i = ri := ⟨_, rfl⟩
    have HRi := Lib.hid hri
    obtain ⟨p0, -, p2⟩ := HH.out.cells
    have p3 := HH.out.at_ hik
    rw [hri] at p3
    clear hri
    have hC : wr.drew.cell? ⟨bx, 0, none⟩ = some (.slice (some ⟨g, 0, none⟩) m c) ∧ wr.drew.cell? ⟨g, i, none⟩ = some (.int .i64 ri) := ⟨p2, p3⟩
    have k2 : IntKind.i64.wrap (10 * (i : Int)) = 10 * (i : Int) := IntWalk.i64_in _ (by omega)
    have k3 : IntKind.i64.wrap (201 + 10 * (i : Int)) = 201 + 10 * (i : Int) := IntWalk.i64_in _ (by omega)
    obtain ⟨X0, hX0, bX0⟩ : ∃ X0 : World, wr.drew = X0 ∧ Below wr.heap.size wr X0 := ⟨_, rfl, (Below.refl _ wr).drew⟩
    have HS3 := Lib.hid (HH.out.below bX0)
    have hC3 := HS3.out.change1 (me := 1) (j := i) (kp := 1) (wy := 1) (od := 201 + 10 * (i : Int)) (nw := 51) (t := rfT) hik HDM.out (by omega) (in64_small (by omega))
    rw [HRi.out] at hC3
    have hq0 := HS3.out.cells.1
    obtain ⟨Z, bz, hZ, hbz, hZ0⟩ : ∃ (Z : World) (b : Nat), X0.alloc (.cells #[.int .i64 ri] rfT) = Z ∧ X0.heap.size = b ∧ Z.cell? ⟨d.W, 0, none⟩ = some (ptr d.A) := ⟨_, _, rfl, rfl, c_old hq0⟩
    rw [hZ, hbz] at hC3
    have HC3 := Lib.hid hC3
    clear hC3 HH p0 p2 p3 hq0 bX0
    go_upto_region 12 with fail
    refine region_T (fun _ => false) (fun w' => w'.cell? ⟨bx, 0, none⟩ = some (.slice (some ⟨g, 0, none⟩) m c) ∧ w'.cell? ⟨g, i, none⟩ = some (.int .i64 ri)) (by kernel_rfl) ?_
    rw [hX0] at hC ⊢
    clear hX0
    refine takeX 0 49 (v := ?_) rfl rfl (by kernel_rfl) (by kernel_rfl) (by kernel_rfl) (by kernel_rfl) (by kernel_rfl) (fun _ _ _ _ h => h) hC (by rfl) ?_ ?_
    rotate_left
    · intro w hSw; (try dsimp only at hSw); go_simp; try (with_reducible rfl)
    simp only [List.setIfInBounds_toArray, List.set_cons_zero, List.set_cons_succ]
    refine takeX 1 50 (v := ?_) rfl rfl (by kernel_rfl) (by kernel_rfl) (by kernel_rfl) (by kernel_rfl) (by kernel_rfl) (fun _ _ _ _ h => h) hC (by rfl) ?_ ?_
    rotate_left
    · intro w hSw; (try dsimp only at hSw); go_simp; try (with_reducible rfl)
    simp only [List.setIfInBounds_toArray, List.set_cons_zero, List.set_cons_succ]
    refine takeX 2 51 (v := ?_) rfl rfl (by kernel_rfl) (by kernel_rfl) (by kernel_rfl) (by kernel_rfl) (by kernel_rfl) (fun _ _ _ _ h => h) hC (by rfl) ?_ ?_
    rotate_left
    · intro w hSw; (try dsimp only at hSw); go_simp; try (with_reducible rfl)
    simp only [List.setIfInBounds_toArray, List.set_cons_zero, List.set_cons_succ]
    refine takeX 3 52 (v := ?_) rfl rfl (by kernel_rfl) (by kernel_rfl) (by kernel_rfl) (by kernel_rfl) (by kernel_rfl) (fun _ _ _ _ h => h) hC (by rfl) ?_ ?_
    rotate_left
    · intro w hSw; (try dsimp only at hSw); go_simp; try (with_reducible rfl)
    simp only [List.setIfInBounds_toArray, List.set_cons_zero, List.set_cons_succ]
    refine takeX 4 53 (v := ?_) rfl rfl (by kernel_rfl) (by kernel_rfl) (by kernel_rfl) (by kernel_rfl) (by kernel_rfl) (fun _ _ _ _ h => h) hC (by rfl) ?_ ?_
    rotate_left
    · intro w hSw; (try dsimp only at hSw); go_simp; try (with_reducible rfl)
    simp only [List.setIfInBounds_toArray, List.set_cons_zero, List.set_cons_succ]
    refine takeX 5 54 (v := ?_) rfl rfl (by kernel_rfl) (by kernel_rfl) (by kernel_rfl) (by kernel_rfl) (by kernel_rfl) (fun _ _ _ _ h => h) hC (by rfl) ?_ ?_
    rotate_left
    · intro w hSw; (try dsimp only at hSw); go_simp; try (with_reducible rfl)
    simp only [List.setIfInBounds_toArray, List.set_cons_zero, List.set_cons_succ]
    refine takeX 6 55 (v := ?_) rfl rfl (by kernel_rfl) (by kernel_rfl) (by kernel_rfl) (by kernel_rfl) (by kernel_rfl) (fun _ _ _ _ h => h) hC (by rfl) ?_ ?_
    rotate_left
    · intro w hSw; (try dsimp only at hSw); go_simp; try (with_reducible rfl)
    simp only [List.setIfInBounds_toArray, List.set_cons_zero, List.set_cons_succ]
    refine takeX 7 12 (v := ?_) rfl rfl (by kernel_rfl) (by kernel_rfl) (by kernel_rfl) (by kernel_rfl) (by kernel_rfl) (fun _ _ _ _ h => h) hC (by rfl) ?_ ?_
    rotate_left
    · intro w hSw; (try dsimp only at hSw); go_simp; try (with_reducible rfl)
    simp only [List.setIfInBounds_toArray, List.set_cons_zero, List.set_cons_succ]
    refine doneT (by kernel_rfl) ?_
    clear hC
    go_wp2_with fail
    (try rw [hZ]); (try rw [hbz])
    go_wp2_with fail
    refine HC3.out.mono ?_
    rintro e u4 ⟨A2, rfl, hS4⟩
    rw [← HRi.out] at hS4
    obtain ⟨uL, eL, rL, vL, nL, tL, gL, iL⟩ := all_lt (k := m) (i := i) ⟨hk1, hk4⟩ hik
    obtain ⟨uS, eS, rS, vS, nS2, tS2, gS, iS⟩ := all_st (k := m) (i := i) ⟨hk1, hk4⟩ hik
    obtain ⟨vQ, nQ, tQ⟩ := evq (k := m) (i := i) ⟨hk1, hk4⟩ hik
    obtain ⟨gQ, iQ⟩ := all_qk (k := m) (i := i) ⟨hk1, hk4⟩ hik
    have HS4 : Hid (SG v1 (.slice (some ⟨g, 0, none⟩) m c) bx d m (2 * (7 * m)) (s0L m) u4 [(A0, .run uL), (A1, .run uS), (A2, .run (nrm (tQk i) (s0L m)))]) := by rw [← eL, ← eS]; exact hS4
    have hA1 := HS4.out.alone (i := 2) (M := 40) rfl (rj_qk ⟨hk1, hk4⟩ hik) (inv_s0 ⟨hk1, hk4⟩ (by omega)) (stt_s0 ⟨hk1, hk4⟩) vQ nQ (by omega) (by simp)
    rw [tQ] at hA1
    have HA1 := Lib.hid hA1
    have HL : Hid (RJ (ndsN m) 40 2 uL (sQk m i) ∧ (ev uL (sQk m i)).1 = [0] ∧ (ev uL (sQk m i)).2.2 ≤ 60 ∧ (ev uL (sQk m i)).2.1 = sLt m i ∧ Stt (ndsN m) 40 (sQk m i) ∧ Inv 2 61 (sQk m i)) := ⟨rL, vL, nL, tL, gQ, iQ.mono (by omega)⟩
    have HT : Hid (RJ (ndsN m) 40 2 uS (sLt m i) ∧ (ev uS (sLt m i)).1 = [1] ∧ (ev uS (sLt m i)).2.2 ≤ 60 ∧ (ev uS (sLt m i)).2.1 = sSt m i ∧ Stt (ndsN m) 40 (sLt m i) ∧ Inv 2 61 (sLt m i)) := ⟨rS, vS, nS2, tS2, gL, iL.mono (by omega)⟩
    have HE : Hid (Stt (ndsN m) 40 (sSt m i) ∧ Inv 2 100 (sSt m i)) := ⟨gS, iS⟩
    clear hS4 HC3 HS3 HS4 hA1 rL vL nL tL gL iL rS vS nS2 tS2 gS iS vQ nQ tQ gQ iQ eL eS hZ hbz hZ0
    go_wp2_with fail
    refine HA1.out.mono ?_
    rintro e u5 ⟨A5, q5, c5, kz5, rfl, hS5⟩
    have HS5 : Hid (SG v1 (.slice (some ⟨g, 0, none⟩) m c) bx d m (2 * (7 * m) + 40 + 1) (sQk m i) u5 [(A0, .run uL), (A1, .run uS), (A2, .fin [1])]) := hS5
    have HCa := Lib.hid (HS5.out.came (i := 2) (z := 1) rfl)
    clear hS5 HA1
    go_wp2_with fail
    refine HCa.out.mono ?_
    rintro e u6 ⟨rfl, hb6⟩
    have HS6 := Lib.hid (HS5.out.below hb6)
    have hA2 := HS6.out.alone (i := 0) (M := 60) rfl HL.out.1 HL.out.2.2.2.2.2 HL.out.2.2.2.2.1 HL.out.2.1 HL.out.2.2.1 (by omega) (by simp)
    rw [HL.out.2.2.2.1] at hA2
    have HA2 := Lib.hid hA2
    clear hA2 hb6 HCa HS5 HL
    go_wp2_with fail
    refine HA2.out.mono ?_
    rintro e u7 ⟨A7, q7, c7, kz7, rfl, hS7⟩
    have HS7 : Hid (SG v1 (.slice (some ⟨g, 0, none⟩) m c) bx d m (2 * (7 * m) + 40 + 1 + 60 + 1) (sLt m i) u7 [(A0, .fin [0]), (A1, .run uS), (A2, .fin [1])]) := hS7
    have hA3 := HS7.out.alone (i := 1) (M := 60) rfl HT.out.1 HT.out.2.2.2.2.2 HT.out.2.2.2.2.1 HT.out.2.1 HT.out.2.2.1 (by omega) (by simp)
    rw [HT.out.2.2.2.1] at hA3
    have HA3 := Lib.hid hA3
    clear hA3 hS7 HA2 HS6 HS7 HT
    go_wp2_with fail
    refine HA3.out.mono ?_
    rintro e u8 ⟨A8, q8, c8, kz8, rfl, hS8⟩
    have HS8 : Hid (SG v1 (.slice (some ⟨g, 0, none⟩) m c) bx d m (2 * (7 * m) + 40 + 1 + 60 + 1 + 60 + 1) (sSt m i) u8 [(A0, .fin [0]), (A1, .fin [1]), (A2, .fin [1])]) := hS8
    clear hS8 HA3
    obtain ⟨pz, hpz, hpz3⟩ : ∃ pz : Nat, z % 3 = pz ∧ pz < 3 := ⟨_, rfl, Nat.mod_lt _ (by omega)⟩
    have dz : (z : Int).tmod 3 = (pz : Int) := by rw [Int.tmod_eq_emod_of_nonneg (by omega), ← hpz]; rfl
    have wz : IntKind.u8.wrap (pz : Int) = (pz : Int) := by
      have : pz = 0 ∨ pz = 1 ∨ pz = 2 := by omega
      rcases this with rfl | rfl | rfl <;> rfl
    go_wp2_with fail
    go_loopg [97] pz (fun gk iv wr => ∃ j : Nat, j + gk = pz ∧ iv = .int .u8 (j : Int) ∧ Hid (SG v1 (.slice (some ⟨g, 0, none⟩) m c) bx d m (2 * (7 * m) + 40 + 1 + 60 + 1 + 60 + 1 + j) (sSt m i) wr [(A0, .fin [0]), (A1, .fin [1]), (A2, .fin [1])]))
    case atStart => exact ⟨0, by omega, rfl, HS8⟩
    case round =>
      clear HS8
      obtain ⟨j, hj, rfl, HH⟩ := hrel
      by_cases hlt : j < pz
      case pos =>
        have j1 : (j : Int) < (pz : Int) := by omega
        have j0 : (0 : Int) ≤ (j : Int) := by omega
        have hkw : IntKind.u8.wrap ((j : Int) + 1) = (j : Int) + 1 := by
          have : j = 0 ∨ j = 1 := by omega
          rcases this with rfl | rfl <;> rfl
        have HA4 := Lib.hid (HH.out.step (i := 0) rfl (fun e => by cases e) trivial (by omega))
        go_wp2_with fail
        refine HA4.out.mono ?_
        rintro e w2 ⟨rfl, hS9⟩
        have HS9 : Hid (SG v1 (.slice (some ⟨g, 0, none⟩) m c) bx d m (2 * (7 * m) + 40 + 1 + 60 + 1 + 60 + 1 + (j + 1)) (sSt m i) w2 [(A0, .fin [0]), (A1, .fin [1]), (A2, .fin [1])]) := hS9
        clear hS9 HA4
        go_wp2
        go_roundg (gk - 1)
        case measure => omega
        case rel => exact ⟨j + 1, by omega, by go_num, HS9⟩
      have j1 : ¬ ((j : Int) < (pz : Int)) := by omega
      obtain rfl : j = pz := by omega
      obtain ⟨r0, hr0⟩ : ∃ r0, rfN 0 = r0 := ⟨_, rfl⟩
      have HR0 := Lib.hid hr0
      have m0 : 0 < m := by omega
      have HCG : Hid (∀ T s V ps, SG v1 (.slice (some ⟨g, 0, none⟩) m c) bx d m T s V ps → V.cell? ⟨d.W, 0, none⟩ = some (ptr d.A) ∧ V.cell? ⟨d.W, 1, none⟩ = some (ptr d.R) ∧ V.cell? ⟨bx, 0, none⟩ = some (.slice (some ⟨g, 0, none⟩) m c) ∧ V.cell? ⟨g, 0, none⟩ = some (.int .i64 r0)) := fun T s V ps h => by
        rw [← HR0.out]
        exact ⟨h.cells.1, h.cells.2.1, h.cells.2.2, h.at_ m0⟩
      obtain ⟨⟨pA, hpA, hwA⟩, ⟨pB, hpB, hwB⟩, jx, rx, hrx, hst⟩ := end_st (k := m) (i := i) ⟨hk1, hk4⟩ hik
      have HW : Hid (∀ T V ps, SG v1 (.slice (some ⟨g, 0, none⟩) m c) bx d m T (sSt m i) V ps → (Calls Try.prog 23 #[ptr d.A, .int .i64 r0, .int .i64 0] V fun e w' => e = .returned (.int .i64 200) ∧ V = w') ∧ (Calls Try.prog 23 #[ptr d.A, .int .i64 ri, .int .i64 1] V fun e w' => e = .returned (.int .i64 51) ∧ V = w') ∧ Calls Try.prog 19 #[ptr d.R, .int .i64 2] V fun e w' => e = .returned (.int .u8 0) ∧ V = w') := fun T V ps h => by
        obtain ⟨FW, hW⟩ := h.ws
        have g1 := nxW_way (k := 0) hW HE.out.2.fit.ok hpA
        have g2 := nxW_way (k := 1) hW HE.out.2.fit.ok hpB
        have g3 := nxW_stateR hW (by have h9 : (sSt m i).rs.length ≤ 40 := HE.out.1.few; omega) hrx
        rw [hwA, HR0.out] at g1
        rw [hwB, HRi.out] at g2
        rw [hst] at g3
        exact ⟨g1, g2, g3⟩
      obtain ⟨X1, hX1, bX1⟩ : ∃ X1 : World, wr.drew = X1 ∧ Below wr.heap.size wr X1 := ⟨_, rfl, (Below.refl _ wr).drew⟩
      have HG1 := Lib.hid (HH.out.below bX1)
      have HCa := Lib.hid (HG1.out.came (i := 0) (z := 0) rfl)
      clear hr0 hpA hwA hpB hwB hrx hst HH bX1 HE
      go_upto_region 27 with fail
      refine region_T (fun _ => false) (fun V => V.cell? ⟨d.W, 0, none⟩ = some (ptr d.A) ∧ V.cell? ⟨d.W, 1, none⟩ = some (ptr d.R) ∧ V.cell? ⟨bx, 0, none⟩ = some (.slice (some ⟨g, 0, none⟩) m c) ∧ V.cell? ⟨g, 0, none⟩ = some (.int .i64 r0)) (by kernel_rfl) ?_
      rw [hX1]
      clear hX1
      have hC := HCG.out _ _ _ _ HG1.out
      refine takeX 0 102 (v := ?_) rfl rfl (by kernel_rfl) (by kernel_rfl) (by kernel_rfl) (by kernel_rfl) (by kernel_rfl) (fun _ _ _ _ h => h) hC (by rfl) ?_ ?_
      rotate_left
      · intro w hSw; (try dsimp only at hSw); go_simp; try (with_reducible rfl)
      simp only [List.setIfInBounds_toArray, List.set_cons_zero, List.set_cons_succ]
      refine oneT (i := 1) (by kernel_rfl) rfl (by rfl) (fun K hK => ?_)
      go_simp
      refine HCa.out.mono ?_
      rintro e t1 ⟨rfl, hb1⟩
      have HG2 := Lib.hid (HG1.out.below hb1)
      refine hK.out _ _ (fun _ => HCG.out _ _ _ _ HG2.out) ?_
      clear hK K hC hb1 HCa HG1
      have hC := HCG.out _ _ _ _ HG2.out
      have HCa := Lib.hid (HG2.out.came (i := 1) (z := 1) rfl)
      try simp only [Act.put, List.setIfInBounds_toArray, List.set_cons_zero, List.set_cons_succ]
      refine takeX 2 104 (v := ?_) rfl rfl (by kernel_rfl) (by kernel_rfl) (by kernel_rfl) (by kernel_rfl) (by kernel_rfl) (fun _ _ _ _ h => h) hC (by rfl) ?_ ?_
      rotate_left
      · intro w hSw; (try dsimp only at hSw); go_simp; try (with_reducible rfl)
      simp only [List.setIfInBounds_toArray, List.set_cons_zero, List.set_cons_succ]
      refine takeX 3 105 (v := ?_) rfl rfl (by kernel_rfl) (by kernel_rfl) (by kernel_rfl) (by kernel_rfl) (by kernel_rfl) (fun _ _ _ _ h => h) hC (by rfl) ?_ ?_
      rotate_left
      · intro w hSw; (try dsimp only at hSw); go_simp; try (with_reducible rfl)
      simp only [List.setIfInBounds_toArray, List.set_cons_zero, List.set_cons_succ]
      refine takeX 4 106 (v := ?_) rfl rfl (by kernel_rfl) (by kernel_rfl) (by kernel_rfl) (by kernel_rfl) (by kernel_rfl) (fun _ _ _ _ h => h) hC (by rfl) ?_ ?_
      rotate_left
      · intro w hSw; (try dsimp only at hSw); go_simp; try (with_reducible rfl)
      simp only [List.setIfInBounds_toArray, List.set_cons_zero, List.set_cons_succ]
      refine oneT (i := 5) (by kernel_rfl) rfl (by rfl) (fun K hK => ?_)
      go_simp
      refine HCa.out.mono ?_
      rintro e t2 ⟨rfl, hb2⟩
      have HG3 := Lib.hid (HG2.out.below hb2)
      refine hK.out _ _ (fun _ => HCG.out _ _ _ _ HG3.out) ?_
      clear hK K hC hb2 HCa HG2
      have hC := HCG.out _ _ _ _ HG3.out
      try simp only [Act.put, List.setIfInBounds_toArray, List.set_cons_zero, List.set_cons_succ]
      refine takeX 6 108 (v := ?_) rfl rfl (by kernel_rfl) (by kernel_rfl) (by kernel_rfl) (by kernel_rfl) (by kernel_rfl) (fun _ _ _ _ h => h) hC (by rfl) ?_ ?_
      rotate_left
      · intro w hSw; (try dsimp only at hSw); go_simp; try (with_reducible rfl)
      simp only [List.setIfInBounds_toArray, List.set_cons_zero, List.set_cons_succ]
      refine takeX 7 109 (v := ?_) rfl rfl (by kernel_rfl) (by kernel_rfl) (by kernel_rfl) (by kernel_rfl) (by kernel_rfl) (fun _ _ _ _ h => h) hC (by rfl) ?_ ?_
      rotate_left
      · intro w hSw; (try dsimp only at hSw); go_simp; try (with_reducible rfl)
      simp only [List.setIfInBounds_toArray, List.set_cons_zero, List.set_cons_succ]
      refine takeX 8 110 (v := ?_) rfl rfl (by kernel_rfl) (by kernel_rfl) (by kernel_rfl) (by kernel_rfl) (by kernel_rfl) (fun _ _ _ _ h => h) hC (by rfl) ?_ ?_
      rotate_left
      · intro w hSw; (try dsimp only at hSw); go_simp; try (with_reducible rfl)
      simp only [List.setIfInBounds_toArray, List.set_cons_zero, List.set_cons_succ]
      refine takeX 9 111 (v := ?_) rfl rfl (by kernel_rfl) (by kernel_rfl) (by kernel_rfl) (by kernel_rfl) (by kernel_rfl) (fun _ _ _ _ h => h) hC (by rfl) ?_ ?_
      rotate_left
      · intro w hSw; (try dsimp only at hSw); go_simp; try (with_reducible rfl)
      simp only [List.setIfInBounds_toArray, List.set_cons_zero, List.set_cons_succ]
      refine takeX 10 112 (v := ?_) rfl rfl (by kernel_rfl) (by kernel_rfl) (by kernel_rfl) (by kernel_rfl) (by kernel_rfl) (fun _ _ _ _ h => h) hC (by rfl) ?_ ?_
      rotate_left
      · intro w hSw; (try dsimp only at hSw); go_simp; try (with_reducible rfl)
      simp only [List.setIfInBounds_toArray, List.set_cons_zero, List.set_cons_succ]
      refine takeX 11 113 (v := ?_) rfl rfl (by kernel_rfl) (by kernel_rfl) (by kernel_rfl) (by kernel_rfl) (by kernel_rfl) (fun _ _ _ _ h => h) hC (by rfl) ?_ ?_
      rotate_left
      · intro w hSw; (try dsimp only at hSw); go_simp; try (with_reducible rfl)
      simp only [List.setIfInBounds_toArray, List.set_cons_zero, List.set_cons_succ]
      refine takeX 12 114 (v := ?_) rfl rfl (by kernel_rfl) (by kernel_rfl) (by kernel_rfl) (by kernel_rfl) (by kernel_rfl) (fun _ _ _ _ h => h) hC (by rfl) ?_ ?_
      rotate_left
      · intro w hSw; (try dsimp only at hSw); go_simp; try (with_reducible rfl)
      simp only [List.setIfInBounds_toArray, List.set_cons_zero, List.set_cons_succ]
      refine takeX 13 115 (v := ?_) rfl rfl (by kernel_rfl) (by kernel_rfl) (by kernel_rfl) (by kernel_rfl) (by kernel_rfl) (fun _ _ _ _ h => h) hC (by rfl) ?_ ?_
      rotate_left
      · intro w hSw; (try dsimp only at hSw); go_simp; try (with_reducible rfl)
      simp only [List.setIfInBounds_toArray, List.set_cons_zero, List.set_cons_succ]
      refine takeX 14 116 (v := ?_) rfl rfl (by kernel_rfl) (by kernel_rfl) (by kernel_rfl) (by kernel_rfl) (by kernel_rfl) (fun _ _ _ _ h => h) hC (by rfl) ?_ ?_
      rotate_left
      · intro w hSw; (try dsimp only at hSw); go_simp; try (with_reducible rfl)
      simp only [List.setIfInBounds_toArray, List.set_cons_zero, List.set_cons_succ]
      refine takeX 15 117 (v := ?_) rfl rfl (by kernel_rfl) (by kernel_rfl) (by kernel_rfl) (by kernel_rfl) (by kernel_rfl) (fun _ _ _ _ h => h) hC (by rfl) ?_ ?_
      rotate_left
      · intro w hSw; (try dsimp only at hSw); go_simp; try (with_reducible rfl)
      simp only [List.setIfInBounds_toArray, List.set_cons_zero, List.set_cons_succ]
      refine oneT (i := 16) (by kernel_rfl) rfl (by rfl) (fun K hK => ?_)
      go_simp
      refine (HW.out _ _ _ HG3.out).1.mono ?_
      rintro e t3 ⟨rfl, rfl⟩
      refine hK.out _ _ (fun _ => hC) ?_
      clear hK K
      try simp only [Act.put, List.setIfInBounds_toArray, List.set_cons_zero, List.set_cons_succ]
      refine takeX 17 119 (v := ?_) rfl rfl (by kernel_rfl) (by kernel_rfl) (by kernel_rfl) (by kernel_rfl) (by kernel_rfl) (fun _ _ _ _ h => h) hC (by rfl) ?_ ?_
      rotate_left
      · intro w hSw; (try dsimp only at hSw); go_simp; try (with_reducible rfl)
      simp only [List.setIfInBounds_toArray, List.set_cons_zero, List.set_cons_succ]
      refine takeX 18 120 (v := ?_) rfl rfl (by kernel_rfl) (by kernel_rfl) (by kernel_rfl) (by kernel_rfl) (by kernel_rfl) (fun _ _ _ _ h => h) hC (by rfl) ?_ ?_
      rotate_left
      · intro w hSw; (try dsimp only at hSw); go_simp; try (with_reducible rfl)
      simp only [List.setIfInBounds_toArray, List.set_cons_zero, List.set_cons_succ]
      refine takeX 19 121 (v := ?_) rfl rfl (by kernel_rfl) (by kernel_rfl) (by kernel_rfl) (by kernel_rfl) (by kernel_rfl) (fun _ _ _ _ h => h) hC (by rfl) ?_ ?_
      rotate_left
      · intro w hSw; (try dsimp only at hSw); go_simp; try (with_reducible rfl)
      simp only [List.setIfInBounds_toArray, List.set_cons_zero, List.set_cons_succ]
      refine takeX 20 122 (v := ?_) rfl rfl (by kernel_rfl) (by kernel_rfl) (by kernel_rfl) (by kernel_rfl) (by kernel_rfl) (fun _ _ _ _ h => h) hC (by rfl) ?_ ?_
      rotate_left
      · intro w hSw; (try dsimp only at hSw); go_simp; try (with_reducible rfl)
      simp only [List.setIfInBounds_toArray, List.set_cons_zero, List.set_cons_succ]
      refine takeX 21 123 (v := ?_) rfl rfl (by kernel_rfl) (by kernel_rfl) (by kernel_rfl) (by kernel_rfl) (by kernel_rfl) (fun _ _ _ _ h => h) hC (by rfl) ?_ ?_
      rotate_left
      · intro w hSw; (try dsimp only at hSw); go_simp; try (with_reducible rfl)
      simp only [List.setIfInBounds_toArray, List.set_cons_zero, List.set_cons_succ]
      refine takeX 22 124 (v := ?_) rfl rfl (by kernel_rfl) (by kernel_rfl) (by kernel_rfl) (by kernel_rfl) (by kernel_rfl) (fun _ _ _ _ h => h) hC (by rfl) ?_ ?_
      rotate_left
      · intro w hSw; (try dsimp only at hSw); go_simp; try (with_reducible rfl)
      simp only [List.setIfInBounds_toArray, List.set_cons_zero, List.set_cons_succ]
      refine takeX 23 125 (v := ?_) rfl rfl (by kernel_rfl) (by kernel_rfl) (by kernel_rfl) (by kernel_rfl) (by kernel_rfl) (fun _ _ _ _ h => h) hC (by rfl) ?_ ?_
      rotate_left
      · intro w hSw; (try dsimp only at hSw); go_simp; try (with_reducible rfl)
      simp only [List.setIfInBounds_toArray, List.set_cons_zero, List.set_cons_succ]
      refine takeX 24 126 (v := ?_) rfl rfl (by kernel_rfl) (by kernel_rfl) (by kernel_rfl) (by kernel_rfl) (by kernel_rfl) (fun _ _ _ _ h => h) hC (by rfl) ?_ ?_
      rotate_left
      · intro w hSw; (try dsimp only at hSw); go_simp; try (with_reducible rfl)
      simp only [List.setIfInBounds_toArray, List.set_cons_zero, List.set_cons_succ]
      refine oneT (i := 25) (by kernel_rfl) rfl (by rfl) (fun K hK => ?_)
      go_simp
      refine (HW.out _ _ _ HG3.out).2.1.mono ?_
      rintro e t3 ⟨rfl, rfl⟩
      refine hK.out _ _ (fun _ => hC) ?_
      clear hK K
      try simp only [Act.put, List.setIfInBounds_toArray, List.set_cons_zero, List.set_cons_succ]
      refine takeX 26 128 (v := ?_) rfl rfl (by kernel_rfl) (by kernel_rfl) (by kernel_rfl) (by kernel_rfl) (by kernel_rfl) (fun _ _ _ _ h => h) hC (by rfl) ?_ ?_
      rotate_left
      · intro w hSw; (try dsimp only at hSw); go_simp; try (with_reducible rfl)
      simp only [List.setIfInBounds_toArray, List.set_cons_zero, List.set_cons_succ]
      refine takeX 27 129 (v := ?_) rfl rfl (by kernel_rfl) (by kernel_rfl) (by kernel_rfl) (by kernel_rfl) (by kernel_rfl) (fun _ _ _ _ h => h) hC (by rfl) ?_ ?_
      rotate_left
      · intro w hSw; (try dsimp only at hSw); go_simp; try (with_reducible rfl)
      simp only [List.setIfInBounds_toArray, List.set_cons_zero, List.set_cons_succ]
      refine takeX 28 130 (v := ?_) rfl rfl (by kernel_rfl) (by kernel_rfl) (by kernel_rfl) (by kernel_rfl) (by kernel_rfl) (fun _ _ _ _ h => h) hC (by rfl) ?_ ?_
      rotate_left
      · intro w hSw; (try dsimp only at hSw); go_simp; try (with_reducible rfl)
      simp only [List.setIfInBounds_toArray, List.set_cons_zero, List.set_cons_succ]
      refine takeX 29 131 (v := ?_) rfl rfl (by kernel_rfl) (by kernel_rfl) (by kernel_rfl) (by kernel_rfl) (by kernel_rfl) (fun _ _ _ _ h => h) hC (by rfl) ?_ ?_
      rotate_left
      · intro w hSw; (try dsimp only at hSw); go_simp; try (with_reducible rfl)
      simp only [List.setIfInBounds_toArray, List.set_cons_zero, List.set_cons_succ]
      refine takeX 30 132 (v := ?_) rfl rfl (by kernel_rfl) (by kernel_rfl) (by kernel_rfl) (by kernel_rfl) (by kernel_rfl) (fun _ _ _ _ h => h) hC (by rfl) ?_ ?_
      rotate_left
      · intro w hSw; (try dsimp only at hSw); go_simp; try (with_reducible rfl)
      simp only [List.setIfInBounds_toArray, List.set_cons_zero, List.set_cons_succ]
      refine takeX 31 133 (v := ?_) rfl rfl (by kernel_rfl) (by kernel_rfl) (by kernel_rfl) (by kernel_rfl) (by kernel_rfl) (fun _ _ _ _ h => h) hC (by rfl) ?_ ?_
      rotate_left
      · intro w hSw; (try dsimp only at hSw); go_simp; try (with_reducible rfl)
      simp only [List.setIfInBounds_toArray, List.set_cons_zero, List.set_cons_succ]
      refine takeX 32 134 (v := ?_) rfl rfl (by kernel_rfl) (by kernel_rfl) (by kernel_rfl) (by kernel_rfl) (by kernel_rfl) (fun _ _ _ _ h => h) hC (by rfl) ?_ ?_
      rotate_left
      · intro w hSw; (try dsimp only at hSw); go_simp; try (with_reducible rfl)
      simp only [List.setIfInBounds_toArray, List.set_cons_zero, List.set_cons_succ]
      refine oneT (i := 33) (by kernel_rfl) rfl (by rfl) (fun K hK => ?_)
      go_simp
      refine (HW.out _ _ _ HG3.out).2.2.mono ?_
      rintro e t3 ⟨rfl, rfl⟩
      refine hK.out _ _ (fun _ => hC) ?_
      clear hK K
      try simp only [Act.put, List.setIfInBounds_toArray, List.set_cons_zero, List.set_cons_succ]
      refine takeX 34 136 (v := ?_) rfl rfl (by kernel_rfl) (by kernel_rfl) (by kernel_rfl) (by kernel_rfl) (by kernel_rfl) (fun _ _ _ _ h => h) hC (by rfl) ?_ ?_
      rotate_left
      · intro w hSw; (try dsimp only at hSw); go_simp; try (with_reducible rfl)
      simp only [List.setIfInBounds_toArray, List.set_cons_zero, List.set_cons_succ]
      refine takeX 35 137 (v := ?_) rfl rfl (by kernel_rfl) (by kernel_rfl) (by kernel_rfl) (by kernel_rfl) (by kernel_rfl) (fun _ _ _ _ h => h) hC (by rfl) ?_ ?_
      rotate_left
      · intro w hSw; (try dsimp only at hSw); go_simp; try (with_reducible rfl)
      simp only [List.setIfInBounds_toArray, List.set_cons_zero, List.set_cons_succ]
      refine takeX 36 6 (v := ?_) rfl rfl (by kernel_rfl) (by kernel_rfl) (by kernel_rfl) (by kernel_rfl) (by kernel_rfl) (fun _ _ _ _ h => h) hC (by rfl) ?_ ?_
      rotate_left
      · intro w hSw; (try dsimp only at hSw); go_simp; try (with_reducible rfl)
      simp only [List.setIfInBounds_toArray, List.set_cons_zero, List.set_cons_succ]
      refine doneT (by kernel_rfl) ?_
      have HEND : Hid (Below w.heap.size w t2) := HB1.out.trans (HG3.out.bel.mono HB1.out.size)
      clear hC HG3 HW HCG
      go_wp2
      go_ret
      exact ⟨rfl, HEND.out⟩
end Go.Proofs.Ytmhmgdpcibldlaa
