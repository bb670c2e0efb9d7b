/-
  Law LlxLoads: a node with any record, of any state, marked or not: what Load tells.
-/
import Derived.Test.YtmhmgdpcibldlaaSn10
import Derived.BigQuiet
namespace Go.Proofs.Ytmhmgdpcibldlaa
open Go.ChangeShapes Go.WideShapes Go.ChangeAt Go.RowKit
set_option linter.unusedVariables false
set_option linter.unusedSimpArgs false
set_option maxRecDepth 20000

def rcL : Rc := ⟨[rfN 0], [0], 1, 1, 201, 55⟩
/-- The law's world behind its beginning. -/
def fL (i : Int) (m : Bool) : Nat → Ns := upd ns0 0 ⟨i, m, 200, 201⟩
def sL (st i : Int) (m : Bool) : Sig := sN 1 2 (fL i m) [⟨rcL, st, false⟩]
theorem fL0 : fL 0 false = ns0 := upd_same ns0 0
abbrev tL : Tr (List Int) := tLook (rfN 0) (nodeNd 0)
theorem stt_sL (st i : Int) (m : Bool) : Stt (ndsN 2) 40 (sL st i m) := stt_sN (by omega) (fun j hj => by
  unfold fL upd
  split
  · exact ⟨in64_small (z := 200) (by decide), in64_small (z := 201) (by decide)⟩
  · exact ⟨in64_small (z := 200 + 10 * (j : Int)) (by omega), in64_small (z := 201 + 10 * (j : Int)) (by omega)⟩) (fun x hx => by
  obtain rfl : x = ⟨rcL, st, false⟩ := by simpa using hx
  have hg : GoodR rcL := ⟨by decide, rfl, by decide⟩
  exact ⟨hg, in64_small (z := 55) (by decide)⟩) (by simp)
theorem inv_sL (st i : Int) (m : Bool) (hi : in64 i) : Inv 1 100 (sL st i m) := inv_sN (by omega) (by omega) (by omega) (fun j hj => by
  unfold fL upd
  split
  · exact hi
  · exact in01.1) (by simp)
theorem in64_b (b : Bool) : in64 (if b = true then 0 else 1) := by cases b; exact in01.2.1; exact in01.1
theorem evL_110 : ∃ S', ev tL (sL 0 0 true) = ([0, 0, 200, 201], S', 7) := ⟨_, Prod.ext (by rfl) (Prod.ext rfl (by rfl))⟩
theorem evL_111 : ∃ S', ev tL (sL 1 0 true) = ([0, 0, 200, 201], S', 7) := ⟨_, Prod.ext (by rfl) (Prod.ext rfl (by rfl))⟩
theorem evL_112 : ∃ S', ev tL (sL 2 0 true) = ([0, 0, 200, 201], S', 7) := ⟨_, Prod.ext (by rfl) (Prod.ext rfl (by rfl))⟩
theorem evL_100 : ∃ S', ev tL (sL 0 0 false) = ([0, 0, 200, 201], S', 7) := ⟨_, Prod.ext (by rfl) (Prod.ext rfl (by rfl))⟩
theorem evL_101 : ∃ S', ev tL (sL 1 0 false) = ([0, 0, 200, 201], S', 7) := ⟨_, Prod.ext (by rfl) (Prod.ext rfl (by rfl))⟩
theorem evL_102 : ∃ S', ev tL (sL 2 0 false) = ([0, 0, 200, 201], S', 7) := ⟨_, Prod.ext (by rfl) (Prod.ext rfl (by rfl))⟩
theorem evL_010 : ∃ S', ev tL (sL 0 1 true) = ([0, 1, 200, 201], S', 7) := ⟨_, Prod.ext (by rfl) (Prod.ext rfl (by rfl))⟩
theorem evL_011 : ∃ S', ev tL (sL 1 1 true) = ([2, 0], S', 10) ∧ rcAt S'.rs 1 = some (0, ⟨rcL, 2, true⟩) ∧ ∃ p, S'.ar.hit (rfN 0) = some (2, p) ∧ wayAt p 1 = 55 := ⟨_, Prod.ext (by rfl) (Prod.ext rfl (by rfl)), by rfl, _, by rfl, by rfl⟩
theorem evL_012 : ∃ S', ev tL (sL 2 1 true) = ([2, 0], S', 5) := ⟨_, Prod.ext (by rfl) (Prod.ext rfl (by rfl))⟩
theorem evL_000 : ∃ S', ev tL (sL 0 1 false) = ([0, 1, 200, 201], S', 7) := ⟨_, Prod.ext (by rfl) (Prod.ext rfl (by rfl))⟩
theorem evL_001 : ∃ S', ev tL (sL 1 1 false) = ([1, 0], S', 12) ∧ rcAt S'.rs 1 = some (0, ⟨rcL, 2, true⟩) ∧ ∃ p, S'.ar.hit (rfN 0) = some (2, p) ∧ wayAt p 1 = 55 := ⟨_, Prod.ext (by rfl) (Prod.ext rfl (by rfl)), by rfl, _, by rfl, by rfl⟩
theorem evL_002 : ∃ S', ev tL (sL 2 1 false) = ([0, 1, 200, 201], S', 7) := ⟨_, Prod.ext (by rfl) (Prod.ext rfl (by rfl))⟩
theorem swap_sL (st : Int) : gSwapInfo (rfN 0) 0 1 (sL st 0 false) = (1, sL st 1 false) := by
  unfold sL
  rw [g_swapInfo (by omega) (by omega)]
  have h : (fL 0 false 0).inf = 0 := rfl
  rw [if_pos h]
  refine Prod.ext rfl ?_
  unfold fL
  simp only [upd_at, upd_upd]
theorem mark_sL (st i : Int) : gSetMark (rfN 0) (sL st i false) = (0, sL st i true) := by
  unfold sL
  rw [g_setMark (by omega) (by omega)]
  refine Prod.ext rfl ?_
  unfold fL
  simp only [upd_at, upd_upd]
set_option maxRecDepth 200000 in
set_option maxHeartbeats 16000000 in
theorem llxLoads_walk (x : Nat) (marked none : Bool) (hx : x < 256) (w : World) :
    Calls Try.prog 4 #[.int .u8 (x : Int), .bool marked, .bool none] w fun e w' => e = .returned (.bool true) ∧ Below w.heap.size w w' := by
  obtain ⟨st, d1, d2, hst⟩ : ∃ st : Int, (x : Int).tmod 3 = st ∧ (x : Int) % 3 = st ∧ (st = 0 ∨ st = 1 ∨ st = 2) := ⟨_, rfl, by rw [Int.tmod_eq_emod_of_nonneg (by omega)], by rw [Int.tmod_eq_emod_of_nonneg (by omega)]; omega⟩
  have w1 : IntKind.u8.wrap st = st := IntWalk.u8_in _ (by omega)
  have HST := Lib.hid hst
  have hs0 : 0 ≤ st := by omega
  have hs2 : st ≤ 2 := by omega
  clear hst
  go_enter Try.func4, Try.ntmps4
  go_wp2_with fail
  refine (awake10_walk w).mono ?_
  rintro e v1 ⟨rfl, b1⟩
  go_wp2_with fail
  refine (nodes_walk 1 2 (by omega) (by omega) v1).mono ?_
  rintro e v2 ⟨d, A, m, c, rfl, hN⟩
  have HB1 := Lib.hid b1
  have HDM := Lib.hid hN.dm
  obtain ⟨g, c', hv, hX0, hcg⟩ := hN.rowX.at_ (refN_at (k := 2) (i := 0) (by omega))
  injection hv with e5 e2 e4
  subst e5 e4
  obtain rfl : m = 2 := by rw [e2]; exact refN_len 2
  obtain ⟨X, hX⟩ : ∃ X, ownX v1 (.slice (some ⟨g, 0, Option.none⟩) 2 c) = X := ⟨_, rfl⟩
  have hG := hN.lg
  rw [hX] at hG hX0
  have HG : Hid (LG v1 X (.slice (some ⟨g, 0, Option.none⟩) 2 c) d 2 0 0 h0 o0 (sN 1 2 ns0 []) v2) := hG
  obtain ⟨A', c2, hv, hsl, -⟩ := hN.rowX.len
  injection hv with e5 e6 e4
  subst e5 e4
  obtain ⟨A1, hsl1, hcut⟩ := cut_upto rowR hsl 1 (by rw [refN_len]; omega)
  rw [refN_len] at hcut
  have HSL : Hid (∀ V, Below v2.heap.size v2 V → Sl V A1 1 c [rfN 0]) := fun V hb => hsl1.below hb
  have HCG : Hid (∀ n T hs os s V, LG v1 X (.slice (some ⟨g, 0, Option.none⟩) 2 c) d 2 n T hs os s V → V.cell? ⟨g, 0, Option.none⟩ = some (.int .i64 (rfN 0)) ∧ V.cell? ⟨d.W, 0, Option.none⟩ = some (ptr d.A) ∧ V.cell? ⟨d.W, 1, Option.none⟩ = some (ptr d.R)) := fun n T hs os s V h => by
    obtain ⟨g', c', hv, -, hc⟩ := h.row.at_ (refN_at (k := 2) (i := 0) (by omega))
    injection hv with e5 e2 e4
    injection e5 with e5
    injection e5 with e5
    subst e5
    exact ⟨hc, h.mb.cells.1, h.mb.cells.2.1⟩
  have HMK : Hid (∀ V p, Below v2.heap.size v2 V → V.cell? ⟨p, 0, Option.none⟩ = some (.int .i64 0) → Calls Try.prog 14 #[ptr d.R, .agg #[.slice A1 1 c, .slice (some ⟨p, 0, Option.none⟩) 1 1, .int .i64 1, .int .i64 1, .int .i64 201, .int .i64 55]] V fun e w' => e = .returned (.tuple #[.int .i64 1, .bool true]) ∧ LG v1 X (.slice (some ⟨g, 0, Option.none⟩) 2 c) d 2 0 0 h0 o0 (sL 1 0 false) w') := by
    intro V p hb hp
    have e : sL 1 0 false = { sN 1 2 ns0 [] with rs := (sN 1 2 ns0 []).rs ++ [⟨rcL, 1, false⟩] } := by unfold sL; rw [fL0]; rfl
    rw [e]
    exact (HG.out.below hb).nx fun FW hW => nxW_rmake (r := rcL) hW (HSL.out V hb) (sl_one9 hp) (by decide) (by show 0 < d.m; rw [HDM.out]; omega) (by rw [HDM.out]; omega) (by omega)
  have hcut' : ∀ W : World, (Instr.slice 26 (.slice (some ⟨g, 0, Option.none⟩) 2 c) Option.none (some (.int .i64 1)) Option.none).run Try.prog W = .ok (.slice A1 1 c) W := hcut
  have g1 := HG.out.mb.cells.2.1
  clear hN b1 hsl e2 e6 hcg hX hG hX0 hcut hsl1
  obtain ⟨r0, hr0⟩ : ∃ r0, rfN 0 = r0 := ⟨_, rfl⟩
  have HR0 := Lib.hid hr0
  rw [hr0] at HCG
  clear hr0
  go_wp2_with fail
  refine region_T (fun _ => false) (fun w' => w'.cell? ⟨d.W, 1, Option.none⟩ = some (ptr d.R)) (by kernel_rfl) ?_
  obtain ⟨X0, hX0, bX0⟩ : ∃ X0 : World, v2.drew = X0 ∧ Below v2.heap.size v2 X0 := ⟨_, rfl, (Below.refl _ v2).drew⟩
  rw [hX0]
  have hC := below_read bX0 g1
  clear hX0 g1
  refine takeX 0 24 (v := ?_) rfl rfl (by kernel_rfl) (by kernel_rfl) (by kernel_rfl) (by kernel_rfl) (by kernel_rfl) (fun _ _ _ _ h => h) hC (by rfl) ?_ ?_
  rotate_left
  · intro w hSw; (try dsimp only at hSw); go_simp; try (with_reducible rfl)
  simp only [List.setIfInBounds_toArray, List.set_cons_zero, List.set_cons_succ]
  refine takeX 1 25 (v := ?_) rfl rfl (by kernel_rfl) (by kernel_rfl) (by kernel_rfl) (by kernel_rfl) (by kernel_rfl) (fun _ _ _ _ h => h) hC (by rfl) ?_ ?_
  rotate_left
  · intro w hSw; (try dsimp only at hSw); go_simp; try (with_reducible rfl)
  simp only [List.setIfInBounds_toArray, List.set_cons_zero, List.set_cons_succ]
  refine takeX 2 26 (v := ?_) rfl rfl (by kernel_rfl) (by kernel_rfl) (by kernel_rfl) (by kernel_rfl) (by kernel_rfl) (fun _ _ _ _ h => h) hC (by rfl) ?_ ?_
  rotate_left
  · intro w hSw; (try dsimp only at hSw); go_simp; try (with_reducible rfl)
  simp only [List.setIfInBounds_toArray, List.set_cons_zero, List.set_cons_succ]
  refine takeX 3 27 (v := ?_) rfl rfl (by kernel_rfl) (by kernel_rfl) (by kernel_rfl) (by kernel_rfl) (by kernel_rfl) (fun _ _ _ _ h => h) hC (by rfl) ?_ ?_
  rotate_left
  · intro w hSw; (try dsimp only at hSw); go_simp; try (with_reducible rfl)
  simp only [List.setIfInBounds_toArray, List.set_cons_zero, List.set_cons_succ]
  refine takeX 4 28 (v := ?_) rfl rfl (by kernel_rfl) (by kernel_rfl) (by kernel_rfl) (by kernel_rfl) (by kernel_rfl) (fun _ _ _ _ h => h) hC (by rfl) ?_ ?_
  rotate_left
  · intro w hSw; (try dsimp only at hSw); go_simp; try (with_reducible rfl)
  simp only [List.setIfInBounds_toArray, List.set_cons_zero, List.set_cons_succ]
  refine takeX 5 29 (v := ?_) rfl rfl (by kernel_rfl) (by kernel_rfl) (by kernel_rfl) (by kernel_rfl) (by kernel_rfl) (fun _ _ _ _ h => h) hC (by rfl) ?_ ?_
  rotate_left
  · intro w hSw; (try dsimp only at hSw); go_simp; try (with_reducible rfl)
  simp only [List.setIfInBounds_toArray, List.set_cons_zero, List.set_cons_succ]
  refine oneT (i := 6) (by kernel_rfl) rfl (by rfl) (fun K hK => ?_)
  go_simp
  obtain ⟨Y, p, hY, hp, bY, cp⟩ : ∃ (Y : World) (p : Nat), X0.alloc (.cells #[.int .i64 0] 2) = Y ∧ X0.heap.size = p ∧ Below X0.heap.size X0 Y ∧ Y.cell? ⟨p, 0, Option.none⟩ = some (.int .i64 0) := ⟨_, _, rfl, rfl, below_new _ _, c_new rfl rfl⟩
  (try rw [hY]); (try rw [hp])
  have hCY := below_read bY hC
  have HM := Lib.hid (HMK.out Y p (bX0.trans (bY.mono bX0.size)) cp)
  refine hK.out _ _ (fun _ => hCY) ?_
  clear hK K hC hY hp bY cp bX0 hcut' HMK HSL
  have hC := hCY
  clear hCY
  try simp only [Act.put, List.setIfInBounds_toArray, List.set_cons_zero, List.set_cons_succ]
  refine takeX 7 31 (v := ?_) rfl rfl (by kernel_rfl) (by kernel_rfl) (by kernel_rfl) (by kernel_rfl) (by kernel_rfl) (fun _ _ _ _ h => h) hC (by rfl) ?_ ?_
  rotate_left
  · intro w hSw; (try dsimp only at hSw); go_simp; try (with_reducible rfl)
  simp only [List.setIfInBounds_toArray, List.set_cons_zero, List.set_cons_succ]
  refine oneT (i := 8) (by kernel_rfl) rfl (by rfl) (fun K hK => ?_)
  go_simp
  refine HM.out.mono ?_
  rintro e u ⟨rfl, hu⟩
  have HU := Lib.hid hu
  refine hK.out _ _ (fun _ => (HCG.out _ _ _ _ _ _ hu).2.2) ?_
  clear hK K HM hC hu HG
  have hC := (HCG.out _ _ _ _ _ _ HU.out).2.2
  try simp only [Act.put, List.setIfInBounds_toArray, List.set_cons_zero, List.set_cons_succ]
  refine takeX 9 23 (v := ?_) rfl rfl (by kernel_rfl) (by kernel_rfl) (by kernel_rfl) (by kernel_rfl) (by kernel_rfl) (fun _ _ _ _ h => h) hC (by rfl) ?_ ?_
  rotate_left
  · intro w hSw; (try dsimp only at hSw); go_simp; try (with_reducible rfl)
  simp only [List.setIfInBounds_toArray, List.set_cons_zero, List.set_cons_succ]
  refine takeX 10 33 (v := ?_) rfl rfl (by kernel_rfl) (by kernel_rfl) (by kernel_rfl) (by kernel_rfl) (by kernel_rfl) (fun _ _ _ _ h => h) hC (by rfl) ?_ ?_
  rotate_left
  · intro w hSw; (try dsimp only at hSw); go_simp; try (with_reducible rfl)
  simp only [List.setIfInBounds_toArray, List.set_cons_zero, List.set_cons_succ]
  refine takeX 11 34 (v := ?_) rfl rfl (by kernel_rfl) (by kernel_rfl) (by kernel_rfl) (by kernel_rfl) (by kernel_rfl) (fun _ _ _ _ h => h) hC (by rfl) ?_ ?_
  rotate_left
  · intro w hSw; (try dsimp only at hSw); go_simp; try (with_reducible rfl)
  simp only [List.setIfInBounds_toArray, List.set_cons_zero, List.set_cons_succ]
  refine takeX 12 9 (v := ?_) rfl rfl (by kernel_rfl) (by kernel_rfl) (by kernel_rfl) (by kernel_rfl) (by kernel_rfl) (fun _ _ _ _ h => h) hC (by rfl) ?_ ?_
  rotate_left
  · intro w hSw; (try dsimp only at hSw); go_simp; try (with_reducible rfl)
  simp only [List.setIfInBounds_toArray, List.set_cons_zero, List.set_cons_succ]
  refine takeX 13 10 (v := ?_) rfl rfl (by kernel_rfl) (by kernel_rfl) (by kernel_rfl) (by kernel_rfl) (by kernel_rfl) (fun _ _ _ _ h => h) hC (by rfl) ?_ ?_
  rotate_left
  · intro w hSw; (try dsimp only at hSw); go_simp; try (with_reducible rfl)
  simp only [List.setIfInBounds_toArray, List.set_cons_zero, List.set_cons_succ]
  refine doneT (by kernel_rfl) ?_
  have HS := Lib.hid (HU.out.nx (s' := sL st 0 false) fun FW hW => nxW_set hW (by simp [sL, sN]) 1 st)
  have g1 := hC
  clear hC HU
  go_wp2_with fail
  refine HS.out.mono ?_
  rintro e u1 ⟨rfl, hu⟩
  have HU1 := Lib.hid hu
  clear hu HS g1
  go_upto_if 45 with fail
  go_cut [] (fun wx => Hid (LG v1 X (.slice (some ⟨g, 0, Option.none⟩) 2 c) d 2 0 0 h0 o0 (sL st (if none = true then 0 else 1) false) wx))
  case first =>
    cases none with
    | true =>
      go_wp2
      go_meet
      case rel => exact HU1.out
    | false =>
      obtain ⟨k0, k1, k2⟩ := HCG.out _ _ _ _ _ _ HU1.out
      have hI := (inv_sL st 0 false in01.1).fit
      have hs := swap_sL st
      have S1 := (HU1.out.below ((Below.refl _ u1).drew)).nx fun FW hW => nxW_swapInfo hW hI.ok (rfN 0) 0 1
      rw [hs, HR0.out] at S1
      have S1 := Lib.hid S1
      have hC0 : u1.drew.cell? ⟨g, 0, Option.none⟩ = some (.int .i64 r0) ∧ u1.drew.cell? ⟨d.W, 0, Option.none⟩ = some (ptr d.A) := ⟨k0, k1⟩
      clear k0 k1 k2 hI hs
      go_wp2_with fail
      refine region_T (fun k => Nat.ble 8 k) (fun w' => w'.cell? ⟨g, 0, Option.none⟩ = some (.int .i64 r0) ∧ w'.cell? ⟨d.W, 0, Option.none⟩ = some (ptr d.A)) (by kernel_rfl) ?_
      have hC := hC0
      refine takeX 0 46 (v := ?_) rfl rfl (by kernel_rfl) (by kernel_rfl) (by kernel_rfl) (by kernel_rfl) (by kernel_rfl) (fun _ _ _ _ h => h) hC (by rfl) ?_ ?_
      rotate_left
      · intro w hSw; (try dsimp only at hSw); go_simp; try (with_reducible rfl)
      simp only [List.setIfInBounds_toArray, List.set_cons_zero, List.set_cons_succ]
      refine takeX 1 47 (v := ?_) rfl rfl (by kernel_rfl) (by kernel_rfl) (by kernel_rfl) (by kernel_rfl) (by kernel_rfl) (fun _ _ _ _ h => h) hC (by rfl) ?_ ?_
      rotate_left
      · intro w hSw; (try dsimp only at hSw); go_simp; try (with_reducible rfl)
      simp only [List.setIfInBounds_toArray, List.set_cons_zero, List.set_cons_succ]
      refine takeX 2 48 (v := ?_) rfl rfl (by kernel_rfl) (by kernel_rfl) (by kernel_rfl) (by kernel_rfl) (by kernel_rfl) (fun _ _ _ _ h => h) hC (by rfl) ?_ ?_
      rotate_left
      · intro w hSw; (try dsimp only at hSw); go_simp; try (with_reducible rfl)
      simp only [List.setIfInBounds_toArray, List.set_cons_zero, List.set_cons_succ]
      refine takeX 3 49 (v := ?_) rfl rfl (by kernel_rfl) (by kernel_rfl) (by kernel_rfl) (by kernel_rfl) (by kernel_rfl) (fun _ _ _ _ h => h) hC (by rfl) ?_ ?_
      rotate_left
      · intro w hSw; (try dsimp only at hSw); go_simp; try (with_reducible rfl)
      simp only [List.setIfInBounds_toArray, List.set_cons_zero, List.set_cons_succ]
      refine takeX 4 50 (v := ?_) rfl rfl (by kernel_rfl) (by kernel_rfl) (by kernel_rfl) (by kernel_rfl) (by kernel_rfl) (fun _ _ _ _ h => h) hC (by rfl) ?_ ?_
      rotate_left
      · intro w hSw; (try dsimp only at hSw); go_simp; try (with_reducible rfl)
      simp only [List.setIfInBounds_toArray, List.set_cons_zero, List.set_cons_succ]
      refine takeX 5 51 (v := ?_) rfl rfl (by kernel_rfl) (by kernel_rfl) (by kernel_rfl) (by kernel_rfl) (by kernel_rfl) (fun _ _ _ _ h => h) hC (by rfl) ?_ ?_
      rotate_left
      · intro w hSw; (try dsimp only at hSw); go_simp; try (with_reducible rfl)
      simp only [List.setIfInBounds_toArray, List.set_cons_zero, List.set_cons_succ]
      refine takeX 6 52 (v := ?_) rfl rfl (by kernel_rfl) (by kernel_rfl) (by kernel_rfl) (by kernel_rfl) (by kernel_rfl) (fun _ _ _ _ h => h) hC (by rfl) ?_ ?_
      rotate_left
      · intro w hSw; (try dsimp only at hSw); go_simp; try (with_reducible rfl)
      simp only [List.setIfInBounds_toArray, List.set_cons_zero, List.set_cons_succ]
      refine takeX 7 53 (v := ?_) rfl rfl (by kernel_rfl) (by kernel_rfl) (by kernel_rfl) (by kernel_rfl) (by kernel_rfl) (fun _ _ _ _ h => h) hC (by rfl) ?_ ?_
      rotate_left
      · intro w hSw; (try dsimp only at hSw); go_simp; try (with_reducible rfl)
      simp only [List.setIfInBounds_toArray, List.set_cons_zero, List.set_cons_succ]
      refine oneT (i := 8) (by kernel_rfl) rfl (by rfl) (fun K hK => ?_)
      go_simp
      refine S1.out.mono ?_
      rintro e u2 ⟨rfl, hn⟩
      refine hK.out _ _ (fun h => absurd h (by decide)) ?_
      clear hK K hC hC0 S1
      have HN := Lib.hid hn
      clear hn
      try simp only [Act.put, List.setIfInBounds_toArray, List.set_cons_zero, List.set_cons_succ]
      refine doneT (by kernel_rfl) ?_
      go_wp2
      go_meet
      case rel => exact HN.out
  case rest =>
    have HA : Hid (LG v1 X (.slice (some ⟨g, 0, Option.none⟩) 2 c) d 2 0 0 h0 o0 (sL st (if none = true then 0 else 1) false) wc) := hcut
    clear HU1 hcut
    go_upto_if 55 with fail
    go_cut [] (fun wx => Hid (LG v1 X (.slice (some ⟨g, 0, Option.none⟩) 2 c) d 2 0 0 h0 o0 (sL st (if none = true then 0 else 1) marked) wx))
    case first =>
      cases marked with
      | false =>
        go_wp2
        go_meet
        case rel => exact HA.out
      | true =>
        obtain ⟨k0, k1, k2⟩ := HCG.out _ _ _ _ _ _ HA.out
        have hI := (inv_sL st (if none = true then 0 else 1) false (in64_b none)).fit
        have hs := mark_sL st (if none = true then 0 else 1)
        have S1 := (HA.out.below ((Below.refl _ wc).drew)).nx fun FW hW => nxW_setMark hW hI.ok (rfN 0)
        rw [hs, HR0.out] at S1
        have S1 := Lib.hid S1
        have hC0 : wc.drew.cell? ⟨g, 0, Option.none⟩ = some (.int .i64 r0) ∧ wc.drew.cell? ⟨d.W, 0, Option.none⟩ = some (ptr d.A) := ⟨k0, k1⟩
        clear k0 k1 k2 hI hs
        go_wp2_with fail
        refine region_T (fun k => Nat.ble 7 k) (fun w' => w'.cell? ⟨g, 0, Option.none⟩ = some (.int .i64 r0) ∧ w'.cell? ⟨d.W, 0, Option.none⟩ = some (ptr d.A)) (by kernel_rfl) ?_
        have hC := hC0
        refine takeX 0 56 (v := ?_) rfl rfl (by kernel_rfl) (by kernel_rfl) (by kernel_rfl) (by kernel_rfl) (by kernel_rfl) (fun _ _ _ _ h => h) hC (by rfl) ?_ ?_
        rotate_left
        · intro w hSw; (try dsimp only at hSw); go_simp; try (with_reducible rfl)
        simp only [List.setIfInBounds_toArray, List.set_cons_zero, List.set_cons_succ]
        refine takeX 1 57 (v := ?_) rfl rfl (by kernel_rfl) (by kernel_rfl) (by kernel_rfl) (by kernel_rfl) (by kernel_rfl) (fun _ _ _ _ h => h) hC (by rfl) ?_ ?_
        rotate_left
        · intro w hSw; (try dsimp only at hSw); go_simp; try (with_reducible rfl)
        simp only [List.setIfInBounds_toArray, List.set_cons_zero, List.set_cons_succ]
        refine takeX 2 58 (v := ?_) rfl rfl (by kernel_rfl) (by kernel_rfl) (by kernel_rfl) (by kernel_rfl) (by kernel_rfl) (fun _ _ _ _ h => h) hC (by rfl) ?_ ?_
        rotate_left
        · intro w hSw; (try dsimp only at hSw); go_simp; try (with_reducible rfl)
        simp only [List.setIfInBounds_toArray, List.set_cons_zero, List.set_cons_succ]
        refine takeX 3 59 (v := ?_) rfl rfl (by kernel_rfl) (by kernel_rfl) (by kernel_rfl) (by kernel_rfl) (by kernel_rfl) (fun _ _ _ _ h => h) hC (by rfl) ?_ ?_
        rotate_left
        · intro w hSw; (try dsimp only at hSw); go_simp; try (with_reducible rfl)
        simp only [List.setIfInBounds_toArray, List.set_cons_zero, List.set_cons_succ]
        refine takeX 4 60 (v := ?_) rfl rfl (by kernel_rfl) (by kernel_rfl) (by kernel_rfl) (by kernel_rfl) (by kernel_rfl) (fun _ _ _ _ h => h) hC (by rfl) ?_ ?_
        rotate_left
        · intro w hSw; (try dsimp only at hSw); go_simp; try (with_reducible rfl)
        simp only [List.setIfInBounds_toArray, List.set_cons_zero, List.set_cons_succ]
        refine takeX 5 61 (v := ?_) rfl rfl (by kernel_rfl) (by kernel_rfl) (by kernel_rfl) (by kernel_rfl) (by kernel_rfl) (fun _ _ _ _ h => h) hC (by rfl) ?_ ?_
        rotate_left
        · intro w hSw; (try dsimp only at hSw); go_simp; try (with_reducible rfl)
        simp only [List.setIfInBounds_toArray, List.set_cons_zero, List.set_cons_succ]
        refine takeX 6 62 (v := ?_) rfl rfl (by kernel_rfl) (by kernel_rfl) (by kernel_rfl) (by kernel_rfl) (by kernel_rfl) (fun _ _ _ _ h => h) hC (by rfl) ?_ ?_
        rotate_left
        · intro w hSw; (try dsimp only at hSw); go_simp; try (with_reducible rfl)
        simp only [List.setIfInBounds_toArray, List.set_cons_zero, List.set_cons_succ]
        refine oneT (i := 7) (by kernel_rfl) rfl (by rfl) (fun K hK => ?_)
        go_simp
        refine S1.out.mono ?_
        rintro e u2 ⟨rfl, hn⟩
        refine hK.out _ _ (fun h => absurd h (by decide)) ?_
        clear hK K hC hC0 S1
        have HN := Lib.hid hn
        clear hn
        try simp only [Act.put, List.setIfInBounds_toArray, List.set_cons_zero, List.set_cons_succ]
        refine doneT (by kernel_rfl) ?_
        go_wp2
        go_meet
        case rel => exact HN.out
    case rest =>
      have HA2 : Hid (LG v1 X (.slice (some ⟨g, 0, Option.none⟩) 2 c) d 2 0 0 h0 o0 (sL st (if none = true then 0 else 1) marked) wc) := hcut
      clear HA hcut
      have HL := Lib.hid (HA2.out.mb.looker (nds := ndsN 2) (Mx := 40) (r := rfN 0) (nd := nodeNd 0) (ndsN_mem (by omega)) (nodeNd_small 0) (by omega))
      rw [HR0.out] at HL
      obtain ⟨k0, k1, k2⟩ := HCG.out _ _ _ _ _ _ HA2.out
      have HRW := Lib.hid HA2.out
      clear HA2 k1 k2
      go_wp2_with fail
      refine HL.out.mono ?_
      rintro e u1 ⟨a, b, rfl, hM1, hb1⟩
      have HM1 : Hid (MB v1 (fun q => X q ∨ q = b) d 1 0 (upd h0 0 ⟨a, 0, lookF, #[ptr b], tL, Stt (ndsN 2) 40⟩) (upd o0 0 (.run (nrm tL (sL st (if none = true then 0 else 1) marked)))) (sL st (if none = true then 0 else 1) marked) u1) := by
        have e : tLook r0 (nodeNd 0) = tL := by rw [← HR0.out]
        rw [e] at hM1
        exact hM1
      have HB2 := Lib.hid hb1
      clear HL hM1 hb1 k0
      obtain hst := HST.out
      clear d1 d2 w1 hs0 hs2 HST
      rcases hst with rfl | rfl | rfl
      · cases none with
        | false =>
          cases marked with
          | false =>
            have HM2 : Hid (MB v1 (fun q => X q ∨ q = b) d 1 0 (upd h0 0 ⟨a, 0, lookF, #[ptr b], tL, Stt (ndsN 2) 40⟩) (upd o0 0 (.run (nrm tL (sL 0 1 false)))) (sL 0 1 false) u1) := HM1.out
            clear HM1
            obtain ⟨S', hev⟩ := evL_000
            have HA := Lib.hid (HM2.out.alone (i := 0) (M := 30) (L := 1) (nds := ndsN 2) (Mx := 40) (by omega) (upd_at ..) (by rw [upd_at]) ((inv_sL 0 1 false in01.2.1).mono (by omega)) (stt_sL _ _ _) (tj_look _ _) (kl_look _ _) (good_look _ _ _) hev (by omega) (by omega) (by simp) (kz := 7) (by decide))
            rw [upd_at] at HA
            clear HM2
            go_wp2_with fail
            refine HA.out.mono ?_
            rintro e u2 ⟨A3, q3, c3, rfl, h1, h2, h3⟩
            have hs := h1.sl
            obtain rfl : q3 = 4 := hs.len
            obtain ⟨g0, off, rfl, hg, hc0⟩ := hs.at_ (k := 0) (by simp)
            have hc0 : u2.cell? ⟨g0, off, Option.none⟩ = some (.int .i64 0) := hc0
            obtain ⟨g1, off1, hgo, -, hc1⟩ := hs.at_ (k := 1) (by simp)
            injection hgo with hgo
            injection hgo with e1 e2
            subst e1 e2
            have hc1 : u2.cell? ⟨g0, off + 1, Option.none⟩ = some (.int .i64 1) := hc1
            obtain ⟨g1, off1, hgo, -, hc2⟩ := hs.at_ (k := 2) (by simp)
            injection hgo with hgo
            injection hgo with e1 e2
            subst e1 e2
            have hc2 : u2.cell? ⟨g0, off + 2, Option.none⟩ = some (.int .i64 200) := hc2
            obtain ⟨g1, off1, hgo, -, hc3⟩ := hs.at_ (k := 3) (by simp)
            injection hgo with hgo
            injection hgo with e1 e2
            subst e1 e2
            have hc3 : u2.cell? ⟨g0, off + 3, Option.none⟩ = some (.int .i64 201) := hc3
            have HE : Hid (Below w.heap.size w u2) := HB1.out.trans (h2.bel.mono HB1.out.size)
            clear HA h1 h2 h3 hs hg HRW HB2 HR0 hev
            go_wp2
            go_ret
            exact ⟨rfl, HE.out⟩
          | true =>
            have HM2 : Hid (MB v1 (fun q => X q ∨ q = b) d 1 0 (upd h0 0 ⟨a, 0, lookF, #[ptr b], tL, Stt (ndsN 2) 40⟩) (upd o0 0 (.run (nrm tL (sL 0 1 true)))) (sL 0 1 true) u1) := HM1.out
            clear HM1
            obtain ⟨S', hev⟩ := evL_010
            have HA := Lib.hid (HM2.out.alone (i := 0) (M := 30) (L := 1) (nds := ndsN 2) (Mx := 40) (by omega) (upd_at ..) (by rw [upd_at]) ((inv_sL 0 1 true in01.2.1).mono (by omega)) (stt_sL _ _ _) (tj_look _ _) (kl_look _ _) (good_look _ _ _) hev (by omega) (by omega) (by simp) (kz := 7) (by decide))
            rw [upd_at] at HA
            clear HM2
            go_wp2_with fail
            refine HA.out.mono ?_
            rintro e u2 ⟨A3, q3, c3, rfl, h1, h2, h3⟩
            have hs := h1.sl
            obtain rfl : q3 = 4 := hs.len
            obtain ⟨g0, off, rfl, hg, hc0⟩ := hs.at_ (k := 0) (by simp)
            have hc0 : u2.cell? ⟨g0, off, Option.none⟩ = some (.int .i64 0) := hc0
            obtain ⟨g1, off1, hgo, -, hc1⟩ := hs.at_ (k := 1) (by simp)
            injection hgo with hgo
            injection hgo with e1 e2
            subst e1 e2
            have hc1 : u2.cell? ⟨g0, off + 1, Option.none⟩ = some (.int .i64 1) := hc1
            obtain ⟨g1, off1, hgo, -, hc2⟩ := hs.at_ (k := 2) (by simp)
            injection hgo with hgo
            injection hgo with e1 e2
            subst e1 e2
            have hc2 : u2.cell? ⟨g0, off + 2, Option.none⟩ = some (.int .i64 200) := hc2
            obtain ⟨g1, off1, hgo, -, hc3⟩ := hs.at_ (k := 3) (by simp)
            injection hgo with hgo
            injection hgo with e1 e2
            subst e1 e2
            have hc3 : u2.cell? ⟨g0, off + 3, Option.none⟩ = some (.int .i64 201) := hc3
            have HE : Hid (Below w.heap.size w u2) := HB1.out.trans (h2.bel.mono HB1.out.size)
            clear HA h1 h2 h3 hs hg HRW HB2 HR0 hev
            go_wp2
            go_ret
            exact ⟨rfl, HE.out⟩
        | true =>
          cases marked with
          | false =>
            have HM2 : Hid (MB v1 (fun q => X q ∨ q = b) d 1 0 (upd h0 0 ⟨a, 0, lookF, #[ptr b], tL, Stt (ndsN 2) 40⟩) (upd o0 0 (.run (nrm tL (sL 0 0 false)))) (sL 0 0 false) u1) := HM1.out
            clear HM1
            obtain ⟨S', hev⟩ := evL_100
            have HA := Lib.hid (HM2.out.alone (i := 0) (M := 30) (L := 1) (nds := ndsN 2) (Mx := 40) (by omega) (upd_at ..) (by rw [upd_at]) ((inv_sL 0 0 false in01.1).mono (by omega)) (stt_sL _ _ _) (tj_look _ _) (kl_look _ _) (good_look _ _ _) hev (by omega) (by omega) (by simp) (kz := 7) (by decide))
            rw [upd_at] at HA
            clear HM2
            go_wp2_with fail
            refine HA.out.mono ?_
            rintro e u2 ⟨A3, q3, c3, rfl, h1, h2, h3⟩
            have hs := h1.sl
            obtain rfl : q3 = 4 := hs.len
            obtain ⟨g0, off, rfl, hg, hc0⟩ := hs.at_ (k := 0) (by simp)
            have hc0 : u2.cell? ⟨g0, off, Option.none⟩ = some (.int .i64 0) := hc0
            obtain ⟨g1, off1, hgo, -, hc1⟩ := hs.at_ (k := 1) (by simp)
            injection hgo with hgo
            injection hgo with e1 e2
            subst e1 e2
            have hc1 : u2.cell? ⟨g0, off + 1, Option.none⟩ = some (.int .i64 0) := hc1
            obtain ⟨g1, off1, hgo, -, hc2⟩ := hs.at_ (k := 2) (by simp)
            injection hgo with hgo
            injection hgo with e1 e2
            subst e1 e2
            have hc2 : u2.cell? ⟨g0, off + 2, Option.none⟩ = some (.int .i64 200) := hc2
            obtain ⟨g1, off1, hgo, -, hc3⟩ := hs.at_ (k := 3) (by simp)
            injection hgo with hgo
            injection hgo with e1 e2
            subst e1 e2
            have hc3 : u2.cell? ⟨g0, off + 3, Option.none⟩ = some (.int .i64 201) := hc3
            have HE : Hid (Below w.heap.size w u2) := HB1.out.trans (h2.bel.mono HB1.out.size)
            clear HA h1 h2 h3 hs hg HRW HB2 HR0 hev
            go_wp2
            go_ret
            exact ⟨rfl, HE.out⟩
          | true =>
            have HM2 : Hid (MB v1 (fun q => X q ∨ q = b) d 1 0 (upd h0 0 ⟨a, 0, lookF, #[ptr b], tL, Stt (ndsN 2) 40⟩) (upd o0 0 (.run (nrm tL (sL 0 0 true)))) (sL 0 0 true) u1) := HM1.out
            clear HM1
            obtain ⟨S', hev⟩ := evL_110
            have HA := Lib.hid (HM2.out.alone (i := 0) (M := 30) (L := 1) (nds := ndsN 2) (Mx := 40) (by omega) (upd_at ..) (by rw [upd_at]) ((inv_sL 0 0 true in01.1).mono (by omega)) (stt_sL _ _ _) (tj_look _ _) (kl_look _ _) (good_look _ _ _) hev (by omega) (by omega) (by simp) (kz := 7) (by decide))
            rw [upd_at] at HA
            clear HM2
            go_wp2_with fail
            refine HA.out.mono ?_
            rintro e u2 ⟨A3, q3, c3, rfl, h1, h2, h3⟩
            have hs := h1.sl
            obtain rfl : q3 = 4 := hs.len
            obtain ⟨g0, off, rfl, hg, hc0⟩ := hs.at_ (k := 0) (by simp)
            have hc0 : u2.cell? ⟨g0, off, Option.none⟩ = some (.int .i64 0) := hc0
            obtain ⟨g1, off1, hgo, -, hc1⟩ := hs.at_ (k := 1) (by simp)
            injection hgo with hgo
            injection hgo with e1 e2
            subst e1 e2
            have hc1 : u2.cell? ⟨g0, off + 1, Option.none⟩ = some (.int .i64 0) := hc1
            obtain ⟨g1, off1, hgo, -, hc2⟩ := hs.at_ (k := 2) (by simp)
            injection hgo with hgo
            injection hgo with e1 e2
            subst e1 e2
            have hc2 : u2.cell? ⟨g0, off + 2, Option.none⟩ = some (.int .i64 200) := hc2
            obtain ⟨g1, off1, hgo, -, hc3⟩ := hs.at_ (k := 3) (by simp)
            injection hgo with hgo
            injection hgo with e1 e2
            subst e1 e2
            have hc3 : u2.cell? ⟨g0, off + 3, Option.none⟩ = some (.int .i64 201) := hc3
            have HE : Hid (Below w.heap.size w u2) := HB1.out.trans (h2.bel.mono HB1.out.size)
            clear HA h1 h2 h3 hs hg HRW HB2 HR0 hev
            go_wp2
            go_ret
            exact ⟨rfl, HE.out⟩
      · cases none with
        | false =>
          cases marked with
          | false =>
            have HM2 : Hid (MB v1 (fun q => X q ∨ q = b) d 1 0 (upd h0 0 ⟨a, 0, lookF, #[ptr b], tL, Stt (ndsN 2) 40⟩) (upd o0 0 (.run (nrm tL (sL 1 1 false)))) (sL 1 1 false) u1) := HM1.out
            clear HM1
            obtain ⟨S', hev, hqs, pp, hq1, hq2⟩ := evL_001
            have HA := Lib.hid (HM2.out.alone (i := 0) (M := 30) (L := 1) (nds := ndsN 2) (Mx := 40) (by omega) (upd_at ..) (by rw [upd_at]) ((inv_sL 1 1 false in01.2.1).mono (by omega)) (stt_sL _ _ _) (tj_look _ _) (kl_look _ _) (good_look _ _ _) hev (by omega) (by omega) (by simp) (kz := 12) (by decide))
            rw [upd_at] at HA
            clear HM2
            go_wp2_with fail
            refine HA.out.mono ?_
            rintro e u2 ⟨A3, q3, c3, rfl, h1, h2, h3⟩
            have hs := h1.sl
            obtain rfl : q3 = 2 := hs.len
            obtain ⟨g0, off, rfl, hg, hc0⟩ := hs.at_ (k := 0) (by simp)
            have hc0 : u2.cell? ⟨g0, off, Option.none⟩ = some (.int .i64 1) := hc0
            obtain ⟨g1, off1, hgo, -, hc1⟩ := hs.at_ (k := 1) (by simp)
            injection hgo with hgo
            injection hgo with e1 e2
            subst e1 e2
            have hc1 : u2.cell? ⟨g0, off + 1, Option.none⟩ = some (.int .i64 0) := hc1
            have hrow := (HRW.out.row.kp (HRW.out.mb.kb HB2.out)).kp (h3.mono fun q e => e.imp id .inl)
            obtain ⟨g4, c4, hv4, -, k0⟩ := hrow.at_ (refN_at (k := 2) (i := 0) (by omega))
            injection hv4 with hv4 hx8 hx9
            clear hx8 hx9
            injection hv4 with hv4
            injection hv4 with hv4
            subst hv4
            rw [HR0.out] at k0
            obtain ⟨k1, k2, -⟩ := h2.cells
            have hI' := (tj_all (nds := ndsN 2) (M := 40) (L := 1) (tj_look (rfN 0) (nodeNd 0)) (kl_look _ _) (sL 1 1 false) 5 (stt_sL _ _ _) ((inv_sL 1 1 false in01.2.1).mono (by rw [hev]; exact Nat.le_of_ble_eq_true rfl))).2
            have hS' := ev_kpL (kl_look (nds := ndsN 2) (M := 40) (rfN 0) (nodeNd 0)) (stt_sL 1 1 false)
            rw [hev] at hI' hS'
            have HW : Hid (Reads 23 #[ptr d.A, .int .i64 r0, .int .i64 1] u2 (.int .i64 55)) := by
              rw [← hq2, ← HR0.out]
              exact h2.reads fun w FW h => nxW_way (k := 1) h hI'.fit.ok hq1
            have HSt : Hid (Reads 19 #[ptr d.R, .int .i64 1] u2 (.int .u8 2)) := h2.reads fun w FW h => nxW_stateR h (by have h9 : S'.rs.length ≤ 40 := hS'.few; omega) hqs
            have HEND : Hid (∀ t, Below w.heap.size w (u2.drewN t)) := fun t => HB1.out.trans ((below_drewN h2.bel t).mono HB1.out.size)
            clear HA h1 h2 h3 hs hg HRW HB2 hrow hI' hS' HR0 hev hqs hq1 hq2
            go_wp2_with fail
            go_quiet (first | (go_at_call 19; exact HSt.out _) | (go_at_call 23; exact HW.out _))
            go_wp2
            go_ret
            exact ⟨rfl, HEND.out _⟩
          | true =>
            have HM2 : Hid (MB v1 (fun q => X q ∨ q = b) d 1 0 (upd h0 0 ⟨a, 0, lookF, #[ptr b], tL, Stt (ndsN 2) 40⟩) (upd o0 0 (.run (nrm tL (sL 1 1 true)))) (sL 1 1 true) u1) := HM1.out
            clear HM1
            obtain ⟨S', hev, hqs, pp, hq1, hq2⟩ := evL_011
            have HA := Lib.hid (HM2.out.alone (i := 0) (M := 30) (L := 1) (nds := ndsN 2) (Mx := 40) (by omega) (upd_at ..) (by rw [upd_at]) ((inv_sL 1 1 true in01.2.1).mono (by omega)) (stt_sL _ _ _) (tj_look _ _) (kl_look _ _) (good_look _ _ _) hev (by omega) (by omega) (by simp) (kz := 10) (by decide))
            rw [upd_at] at HA
            clear HM2
            go_wp2_with fail
            refine HA.out.mono ?_
            rintro e u2 ⟨A3, q3, c3, rfl, h1, h2, h3⟩
            have hs := h1.sl
            obtain rfl : q3 = 2 := hs.len
            obtain ⟨g0, off, rfl, hg, hc0⟩ := hs.at_ (k := 0) (by simp)
            have hc0 : u2.cell? ⟨g0, off, Option.none⟩ = some (.int .i64 2) := hc0
            obtain ⟨g1, off1, hgo, -, hc1⟩ := hs.at_ (k := 1) (by simp)
            injection hgo with hgo
            injection hgo with e1 e2
            subst e1 e2
            have hc1 : u2.cell? ⟨g0, off + 1, Option.none⟩ = some (.int .i64 0) := hc1
            have hrow := (HRW.out.row.kp (HRW.out.mb.kb HB2.out)).kp (h3.mono fun q e => e.imp id .inl)
            obtain ⟨g4, c4, hv4, -, k0⟩ := hrow.at_ (refN_at (k := 2) (i := 0) (by omega))
            injection hv4 with hv4 hx8 hx9
            clear hx8 hx9
            injection hv4 with hv4
            injection hv4 with hv4
            subst hv4
            rw [HR0.out] at k0
            obtain ⟨k1, k2, -⟩ := h2.cells
            have hI' := (tj_all (nds := ndsN 2) (M := 40) (L := 1) (tj_look (rfN 0) (nodeNd 0)) (kl_look _ _) (sL 1 1 true) 5 (stt_sL _ _ _) ((inv_sL 1 1 true in01.2.1).mono (by rw [hev]; exact Nat.le_of_ble_eq_true rfl))).2
            have hS' := ev_kpL (kl_look (nds := ndsN 2) (M := 40) (rfN 0) (nodeNd 0)) (stt_sL 1 1 true)
            rw [hev] at hI' hS'
            have HW : Hid (Reads 23 #[ptr d.A, .int .i64 r0, .int .i64 1] u2 (.int .i64 55)) := by
              rw [← hq2, ← HR0.out]
              exact h2.reads fun w FW h => nxW_way (k := 1) h hI'.fit.ok hq1
            have HSt : Hid (Reads 19 #[ptr d.R, .int .i64 1] u2 (.int .u8 2)) := h2.reads fun w FW h => nxW_stateR h (by have h9 : S'.rs.length ≤ 40 := hS'.few; omega) hqs
            have HEND : Hid (∀ t, Below w.heap.size w (u2.drewN t)) := fun t => HB1.out.trans ((below_drewN h2.bel t).mono HB1.out.size)
            clear HA h1 h2 h3 hs hg HRW HB2 hrow hI' hS' HR0 hev hqs hq1 hq2
            go_wp2_with fail
            go_quiet (first | (go_at_call 19; exact HSt.out _) | (go_at_call 23; exact HW.out _))
            go_wp2
            go_ret
            exact ⟨rfl, HEND.out _⟩
        | true =>
          cases marked with
          | false =>
            have HM2 : Hid (MB v1 (fun q => X q ∨ q = b) d 1 0 (upd h0 0 ⟨a, 0, lookF, #[ptr b], tL, Stt (ndsN 2) 40⟩) (upd o0 0 (.run (nrm tL (sL 1 0 false)))) (sL 1 0 false) u1) := HM1.out
            clear HM1
            obtain ⟨S', hev⟩ := evL_101
            have HA := Lib.hid (HM2.out.alone (i := 0) (M := 30) (L := 1) (nds := ndsN 2) (Mx := 40) (by omega) (upd_at ..) (by rw [upd_at]) ((inv_sL 1 0 false in01.1).mono (by omega)) (stt_sL _ _ _) (tj_look _ _) (kl_look _ _) (good_look _ _ _) hev (by omega) (by omega) (by simp) (kz := 7) (by decide))
            rw [upd_at] at HA
            clear HM2
            go_wp2_with fail
            refine HA.out.mono ?_
            rintro e u2 ⟨A3, q3, c3, rfl, h1, h2, h3⟩
            have hs := h1.sl
            obtain rfl : q3 = 4 := hs.len
            obtain ⟨g0, off, rfl, hg, hc0⟩ := hs.at_ (k := 0) (by simp)
            have hc0 : u2.cell? ⟨g0, off, Option.none⟩ = some (.int .i64 0) := hc0
            obtain ⟨g1, off1, hgo, -, hc1⟩ := hs.at_ (k := 1) (by simp)
            injection hgo with hgo
            injection hgo with e1 e2
            subst e1 e2
            have hc1 : u2.cell? ⟨g0, off + 1, Option.none⟩ = some (.int .i64 0) := hc1
            obtain ⟨g1, off1, hgo, -, hc2⟩ := hs.at_ (k := 2) (by simp)
            injection hgo with hgo
            injection hgo with e1 e2
            subst e1 e2
            have hc2 : u2.cell? ⟨g0, off + 2, Option.none⟩ = some (.int .i64 200) := hc2
            obtain ⟨g1, off1, hgo, -, hc3⟩ := hs.at_ (k := 3) (by simp)
            injection hgo with hgo
            injection hgo with e1 e2
            subst e1 e2
            have hc3 : u2.cell? ⟨g0, off + 3, Option.none⟩ = some (.int .i64 201) := hc3
            have HE : Hid (Below w.heap.size w u2) := HB1.out.trans (h2.bel.mono HB1.out.size)
            clear HA h1 h2 h3 hs hg HRW HB2 HR0 hev
            go_wp2
            go_ret
            exact ⟨rfl, HE.out⟩
          | true =>
            have HM2 : Hid (MB v1 (fun q => X q ∨ q = b) d 1 0 (upd h0 0 ⟨a, 0, lookF, #[ptr b], tL, Stt (ndsN 2) 40⟩) (upd o0 0 (.run (nrm tL (sL 1 0 true)))) (sL 1 0 true) u1) := HM1.out
            clear HM1
            obtain ⟨S', hev⟩ := evL_111
            have HA := Lib.hid (HM2.out.alone (i := 0) (M := 30) (L := 1) (nds := ndsN 2) (Mx := 40) (by omega) (upd_at ..) (by rw [upd_at]) ((inv_sL 1 0 true in01.1).mono (by omega)) (stt_sL _ _ _) (tj_look _ _) (kl_look _ _) (good_look _ _ _) hev (by omega) (by omega) (by simp) (kz := 7) (by decide))
            rw [upd_at] at HA
            clear HM2
            go_wp2_with fail
            refine HA.out.mono ?_
            rintro e u2 ⟨A3, q3, c3, rfl, h1, h2, h3⟩
            have hs := h1.sl
            obtain rfl : q3 = 4 := hs.len
            obtain ⟨g0, off, rfl, hg, hc0⟩ := hs.at_ (k := 0) (by simp)
            have hc0 : u2.cell? ⟨g0, off, Option.none⟩ = some (.int .i64 0) := hc0
            obtain ⟨g1, off1, hgo, -, hc1⟩ := hs.at_ (k := 1) (by simp)
            injection hgo with hgo
            injection hgo with e1 e2
            subst e1 e2
            have hc1 : u2.cell? ⟨g0, off + 1, Option.none⟩ = some (.int .i64 0) := hc1
            obtain ⟨g1, off1, hgo, -, hc2⟩ := hs.at_ (k := 2) (by simp)
            injection hgo with hgo
            injection hgo with e1 e2
            subst e1 e2
            have hc2 : u2.cell? ⟨g0, off + 2, Option.none⟩ = some (.int .i64 200) := hc2
            obtain ⟨g1, off1, hgo, -, hc3⟩ := hs.at_ (k := 3) (by simp)
            injection hgo with hgo
            injection hgo with e1 e2
            subst e1 e2
            have hc3 : u2.cell? ⟨g0, off + 3, Option.none⟩ = some (.int .i64 201) := hc3
            have HE : Hid (Below w.heap.size w u2) := HB1.out.trans (h2.bel.mono HB1.out.size)
            clear HA h1 h2 h3 hs hg HRW HB2 HR0 hev
            go_wp2
            go_ret
            exact ⟨rfl, HE.out⟩
      · cases none with
        | false =>
          cases marked with
          | false =>
            have HM2 : Hid (MB v1 (fun q => X q ∨ q = b) d 1 0 (upd h0 0 ⟨a, 0, lookF, #[ptr b], tL, Stt (ndsN 2) 40⟩) (upd o0 0 (.run (nrm tL (sL 2 1 false)))) (sL 2 1 false) u1) := HM1.out
            clear HM1
            obtain ⟨S', hev⟩ := evL_002
            have HA := Lib.hid (HM2.out.alone (i := 0) (M := 30) (L := 1) (nds := ndsN 2) (Mx := 40) (by omega) (upd_at ..) (by rw [upd_at]) ((inv_sL 2 1 false in01.2.1).mono (by omega)) (stt_sL _ _ _) (tj_look _ _) (kl_look _ _) (good_look _ _ _) hev (by omega) (by omega) (by simp) (kz := 7) (by decide))
            rw [upd_at] at HA
            clear HM2
            go_wp2_with fail
            refine HA.out.mono ?_
            rintro e u2 ⟨A3, q3, c3, rfl, h1, h2, h3⟩
            have hs := h1.sl
            obtain rfl : q3 = 4 := hs.len
            obtain ⟨g0, off, rfl, hg, hc0⟩ := hs.at_ (k := 0) (by simp)
            have hc0 : u2.cell? ⟨g0, off, Option.none⟩ = some (.int .i64 0) := hc0
            obtain ⟨g1, off1, hgo, -, hc1⟩ := hs.at_ (k := 1) (by simp)
            injection hgo with hgo
            injection hgo with e1 e2
            subst e1 e2
            have hc1 : u2.cell? ⟨g0, off + 1, Option.none⟩ = some (.int .i64 1) := hc1
            obtain ⟨g1, off1, hgo, -, hc2⟩ := hs.at_ (k := 2) (by simp)
            injection hgo with hgo
            injection hgo with e1 e2
            subst e1 e2
            have hc2 : u2.cell? ⟨g0, off + 2, Option.none⟩ = some (.int .i64 200) := hc2
            obtain ⟨g1, off1, hgo, -, hc3⟩ := hs.at_ (k := 3) (by simp)
            injection hgo with hgo
            injection hgo with e1 e2
            subst e1 e2
            have hc3 : u2.cell? ⟨g0, off + 3, Option.none⟩ = some (.int .i64 201) := hc3
            have HE : Hid (Below w.heap.size w u2) := HB1.out.trans (h2.bel.mono HB1.out.size)
            clear HA h1 h2 h3 hs hg HRW HB2 HR0 hev
            go_wp2
            go_ret
            exact ⟨rfl, HE.out⟩
          | true =>
            have HM2 : Hid (MB v1 (fun q => X q ∨ q = b) d 1 0 (upd h0 0 ⟨a, 0, lookF, #[ptr b], tL, Stt (ndsN 2) 40⟩) (upd o0 0 (.run (nrm tL (sL 2 1 true)))) (sL 2 1 true) u1) := HM1.out
            clear HM1
            obtain ⟨S', hev⟩ := evL_012
            have HA := Lib.hid (HM2.out.alone (i := 0) (M := 30) (L := 1) (nds := ndsN 2) (Mx := 40) (by omega) (upd_at ..) (by rw [upd_at]) ((inv_sL 2 1 true in01.2.1).mono (by omega)) (stt_sL _ _ _) (tj_look _ _) (kl_look _ _) (good_look _ _ _) hev (by omega) (by omega) (by simp) (kz := 5) (by decide))
            rw [upd_at] at HA
            clear HM2
            go_wp2_with fail
            refine HA.out.mono ?_
            rintro e u2 ⟨A3, q3, c3, rfl, h1, h2, h3⟩
            have hs := h1.sl
            obtain rfl : q3 = 2 := hs.len
            obtain ⟨g0, off, rfl, hg, hc0⟩ := hs.at_ (k := 0) (by simp)
            have hc0 : u2.cell? ⟨g0, off, Option.none⟩ = some (.int .i64 2) := hc0
            obtain ⟨g1, off1, hgo, -, hc1⟩ := hs.at_ (k := 1) (by simp)
            injection hgo with hgo
            injection hgo with e1 e2
            subst e1 e2
            have hc1 : u2.cell? ⟨g0, off + 1, Option.none⟩ = some (.int .i64 0) := hc1
            have HE : Hid (Below w.heap.size w u2) := HB1.out.trans (h2.bel.mono HB1.out.size)
            clear HA h1 h2 h3 hs hg HRW HB2 HR0 hev
            go_wp2
            go_ret
            exact ⟨rfl, HE.out⟩
        | true =>
          cases marked with
          | false =>
            have HM2 : Hid (MB v1 (fun q => X q ∨ q = b) d 1 0 (upd h0 0 ⟨a, 0, lookF, #[ptr b], tL, Stt (ndsN 2) 40⟩) (upd o0 0 (.run (nrm tL (sL 2 0 false)))) (sL 2 0 false) u1) := HM1.out
            clear HM1
            obtain ⟨S', hev⟩ := evL_102
            have HA := Lib.hid (HM2.out.alone (i := 0) (M := 30) (L := 1) (nds := ndsN 2) (Mx := 40) (by omega) (upd_at ..) (by rw [upd_at]) ((inv_sL 2 0 false in01.1).mono (by omega)) (stt_sL _ _ _) (tj_look _ _) (kl_look _ _) (good_look _ _ _) hev (by omega) (by omega) (by simp) (kz := 7) (by decide))
            rw [upd_at] at HA
            clear HM2
            go_wp2_with fail
            refine HA.out.mono ?_
            rintro e u2 ⟨A3, q3, c3, rfl, h1, h2, h3⟩
            have hs := h1.sl
            obtain rfl : q3 = 4 := hs.len
            obtain ⟨g0, off, rfl, hg, hc0⟩ := hs.at_ (k := 0) (by simp)
            have hc0 : u2.cell? ⟨g0, off, Option.none⟩ = some (.int .i64 0) := hc0
            obtain ⟨g1, off1, hgo, -, hc1⟩ := hs.at_ (k := 1) (by simp)
            injection hgo with hgo
            injection hgo with e1 e2
            subst e1 e2
            have hc1 : u2.cell? ⟨g0, off + 1, Option.none⟩ = some (.int .i64 0) := hc1
            obtain ⟨g1, off1, hgo, -, hc2⟩ := hs.at_ (k := 2) (by simp)
            injection hgo with hgo
            injection hgo with e1 e2
            subst e1 e2
            have hc2 : u2.cell? ⟨g0, off + 2, Option.none⟩ = some (.int .i64 200) := hc2
            obtain ⟨g1, off1, hgo, -, hc3⟩ := hs.at_ (k := 3) (by simp)
            injection hgo with hgo
            injection hgo with e1 e2
            subst e1 e2
            have hc3 : u2.cell? ⟨g0, off + 3, Option.none⟩ = some (.int .i64 201) := hc3
            have HE : Hid (Below w.heap.size w u2) := HB1.out.trans (h2.bel.mono HB1.out.size)
            clear HA h1 h2 h3 hs hg HRW HB2 HR0 hev
            go_wp2
            go_ret
            exact ⟨rfl, HE.out⟩
          | true =>
            have HM2 : Hid (MB v1 (fun q => X q ∨ q = b) d 1 0 (upd h0 0 ⟨a, 0, lookF, #[ptr b], tL, Stt (ndsN 2) 40⟩) (upd o0 0 (.run (nrm tL (sL 2 0 true)))) (sL 2 0 true) u1) := HM1.out
            clear HM1
            obtain ⟨S', hev⟩ := evL_112
            have HA := Lib.hid (HM2.out.alone (i := 0) (M := 30) (L := 1) (nds := ndsN 2) (Mx := 40) (by omega) (upd_at ..) (by rw [upd_at]) ((inv_sL 2 0 true in01.1).mono (by omega)) (stt_sL _ _ _) (tj_look _ _) (kl_look _ _) (good_look _ _ _) hev (by omega) (by omega) (by simp) (kz := 7) (by decide))
            rw [upd_at] at HA
            clear HM2
            go_wp2_with fail
            refine HA.out.mono ?_
            rintro e u2 ⟨A3, q3, c3, rfl, h1, h2, h3⟩
            have hs := h1.sl
            obtain rfl : q3 = 4 := hs.len
            obtain ⟨g0, off, rfl, hg, hc0⟩ := hs.at_ (k := 0) (by simp)
            have hc0 : u2.cell? ⟨g0, off, Option.none⟩ = some (.int .i64 0) := hc0
            obtain ⟨g1, off1, hgo, -, hc1⟩ := hs.at_ (k := 1) (by simp)
            injection hgo with hgo
            injection hgo with e1 e2
            subst e1 e2
            have hc1 : u2.cell? ⟨g0, off + 1, Option.none⟩ = some (.int .i64 0) := hc1
            obtain ⟨g1, off1, hgo, -, hc2⟩ := hs.at_ (k := 2) (by simp)
            injection hgo with hgo
            injection hgo with e1 e2
            subst e1 e2
            have hc2 : u2.cell? ⟨g0, off + 2, Option.none⟩ = some (.int .i64 200) := hc2
            obtain ⟨g1, off1, hgo, -, hc3⟩ := hs.at_ (k := 3) (by simp)
            injection hgo with hgo
            injection hgo with e1 e2
            subst e1 e2
            have hc3 : u2.cell? ⟨g0, off + 3, Option.none⟩ = some (.int .i64 201) := hc3
            have HE : Hid (Below w.heap.size w u2) := HB1.out.trans (h2.bel.mono HB1.out.size)
            clear HA h1 h2 h3 hs hg HRW HB2 HR0 hev
            go_wp2
            go_ret
            exact ⟨rfl, HE.out⟩
end Go.Proofs.Ytmhmgdpcibldlaa
