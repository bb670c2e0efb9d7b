/-
  The law HelpNone.
-/
import Derived.Test.YtfloblofdkemlaaLk9
import Derived.Test.YtfloblofdkemlaaAw9
namespace Go.Proofs.Ytfloblofdkemlaa
open Go.ChangeShapes Go.WideShapes Go.ChangeAt Go.RowKit
set_option linter.unusedVariables false
set_option linter.unusedSimpArgs false
set_option maxRecDepth 20000

def rNo : Rc := ⟨refN 2, [0, 0], 0, 0, 200, 77⟩
def sNo (L : Nat) : Sig := sN L 2 ns0 [⟨rNo, 1, false⟩]
theorem sNo_none {n : Int} (h : n ≠ 1) : rcAt (sNo 1).rs n = none := by
  unfold rcAt
  by_cases h1 : n < 1
  · rw [if_pos h1]
  · rw [if_neg h1]
    have : (n - 1).toNat = (n - 2).toNat + 1 := by omega
    rw [this]
    rfl
set_option maxHeartbeats 4000000 in
theorem helpNone_walk (n : Int) (hn1 : -9223372036854775808 ≤ n) (hn2 : n ≤ 9223372036854775807) (w : World) :
    Calls Try.prog 8 #[.int .i64 n] w fun e w' => e = .returned (.bool true) ∧ Below w.heap.size w w' := by
  go_enter Try.func8, Try.ntmps8
  go_wp2_with fail
  refine (awake9_walk w).mono ?_
  rintro e v1 ⟨rfl, b1⟩
  by_cases h1 : n = 1
  · subst h1
    go_wp2
    go_ret
    exact ⟨rfl, b1⟩
  have h1b : (n == 1) = false := by simpa using h1
  go_wp2_with fail
  refine (nodes_walk 1 2 (by omega) (by omega) v1).mono ?_
  rintro e v2 ⟨d, A, m, c, rfl, hN⟩
  have HN := Lib.hid hN
  have HB1 := Lib.hid b1
  obtain ⟨A', c', hv, hsl, hX⟩ := hN.rowX.len
  injection hv with e1 e2 e3
  subst e1 e3
  rw [refN_len] at e2 hsl
  subst e2
  have g1 := hN.mb.cells.2.1
  obtain ⟨Y, p, hY, hp, bY, cp0, cp1⟩ : ∃ (Y : World) (p : Nat), v2.alloc (.cells #[.int .i64 0, .int .i64 0] 2) = Y ∧ v2.heap.size = p ∧ Below v2.heap.size v2 Y ∧ Y.cell? ⟨p, 0, none⟩ = some (.int .i64 0) ∧ Y.cell? ⟨p, 1, none⟩ = some (.int .i64 0) := ⟨_, _, rfl, rfl, below_new _ _, c_new rfl rfl, c_new rfl rfl⟩
  have HM : Hid (Calls Try.prog 23 #[ptr d.R, .agg #[.slice A 2 c, .slice (some ⟨p, 0, none⟩) 2 2, .int .i64 0, .int .i64 0, .int .i64 200, .int .i64 77]] Y fun e w' => e = .returned (.tuple #[.int .i64 1, .bool true]) ∧ Hid (MB v1 (ownX v1 (.slice A 2 c)) d 0 0 h0 o0 (sNo 1) w' ∧ RowX (ownX v1 (.slice A 2 c)) 30 w' (.slice A 2 c) (refN 2))) := by
    have hmb := hN.mb.below bY
    have hrow := hN.rowX.kp (hN.mb.kb bY)
    refine (hmb.nxK fun FW hW => nxW_rmake (r := rNo) hW (hsl.below bY) (sl_two9 cp0 cp1) (by decide) (by show 0 < d.m; rw [hN.dm]; omega) (by rw [hN.dm]; omega) (by omega)).mono ?_
    rintro e w' ⟨rfl, k1, k2⟩
    exact ⟨rfl, k1, hrow.kp k2⟩
  clear hN hsl hX bY cp0 cp1 b1 HN
  go_wp2_with fail
  (try rw [hY]); (try rw [hp])
  refine HM.out.mono ?_
  rintro e v3 ⟨rfl, HX⟩
  clear HM hY hp g1
  have HS := Lib.hid (helper_walk (me := 0) (z := n) (r := Rc.nil) HX.out.1.me ⟨by decide, rfl, by decide⟩)
  go_wp2_with fail
  refine HS.out.mono ?_
  rintro e v4 ⟨a, rfl, hME, hb⟩
  have hI := inv_ns0 1 2 101 (by omega) (by omega) (by omega) [⟨rNo, 1, false⟩] (by simp)
  have hAl := ME.alone' (i := 0) (L := 1) hME (by omega) (upd_at ..) hI (by rw [upd_at]; show rcOf (sNo 1).rs n = Rc.nil; unfold rcOf; rw [sNo_none h1]) (by rw [upd_at]; exact ⟨hn1, hn2⟩) (by omega)
  rw [upd_at] at hAl
  simp only at hAl
  rw [ev_none (sNo_none h1)] at hAl
  have HA := Lib.hid hAl
  have HBX : Hid (MB v1 (ownX v1 (.slice A 2 c)) d (0 + 1) 0 (upd h0 0 ⟨a, 0, n, Rc.nil⟩) (upd o0 0 (.run (tHelp Rc.nil n))) (sNo 1) v4 ∧ RowX (ownX v1 (.slice A 2 c)) 30 v4 (.slice A 2 c) (refN 2)) := ⟨⟨hME, HX.out.1.bel.trans (hb.mono HX.out.1.bel.size)⟩, HX.out.2.kp (HX.out.1.kb hb)⟩
  clear HS hME hb hAl HX hI
  go_wp2_with fail
  refine HA.out.mono ?_
  rintro e v5 ⟨A5, q5, c5, rfl, -, hM2, hK⟩
  have HJ : Hid (MB v1 (ownX v1 (.slice A 2 c)) d 1 101 (upd h0 0 ⟨a, 0, n, Rc.nil⟩) (upd o0 0 (.fin true)) (sNo 1) v5 ∧ RowX (ownX v1 (.slice A 2 c)) 30 v5 (.slice A 2 c) (refN 2)) := by
    have := HBX.out.1.kp hM2 hK
    simp only [upd_upd] at this
    exact ⟨this, HBX.out.2.kp hK⟩
  clear HA HBX hM2 hK
  go_wp2_with fail
  go_loopg [38] 2 (fun gk i wr => ∃ j : Nat, j + gk = 2 ∧ i = .int .i64 (j : Int) ∧ v5 = wr)
  case atStart => exact ⟨0, by omega, rfl, rfl⟩
  case round =>
    obtain ⟨j, hj, rfl, rfl⟩ := hrel
    have hI := inv_ns0 1 2 0 (by omega) (by omega) (by omega) [⟨rNo, 1, false⟩] (by simp)
    by_cases hlt : j < 2
    case neg =>
      have i1 : ¬ ((j : Int) < 2) := by omega
      have HY := Lib.hid (HJ.out.1.me.yes (i := 0) (by omega) (upd_at ..))
      rw [upd_at] at HY
      simp only at HY
      clear hI
      go_wp2_with fail
      refine HY.out.mono ?_
      rintro e v6 ⟨rfl, hM, hb⟩
      have HJ6 : Hid (MB v1 (ownX v1 (.slice A 2 c)) d 1 101 (upd h0 0 ⟨a, 0, n, Rc.nil⟩) (upd o0 0 (.fin true)) (sNo 1) v6) := ⟨hM, HJ.out.1.bel.trans (hb.mono HJ.out.1.bel.size)⟩
      clear HY HJ hM hb
      obtain ⟨FW, hW⟩ := HJ6.out.ws
      have g1 := HJ6.out.cells.2.1
      have S1 := Lib.hid (nxW_rlen hW)
      have S2 := Lib.hid (nxW_stateR hW (by simp [sNo, sN]) (show rcAt (sNo 1).rs 1 = some (0, ⟨rNo, 1, false⟩) from rfl))
      have hl : ((sNo 1).rs.length : Int) = 1 := rfl
      rw [hl] at S1
      clear hW hl
      go_wp2_with fail
      refine S1.out.mono ?_
      rintro e v7 ⟨rfl, rfl⟩
      go_wp2_with fail
      refine S2.out.mono ?_
      rintro e v7 ⟨rfl, rfl⟩
      have HE := Lib.hid (HB1.out.trans (HJ6.out.bel.mono HB1.out.size))
      clear S1 S2 HJ6
      go_wp2
      go_ret
      exact ⟨rfl, HE.out⟩
    have i1 : (j : Int) < 2 := by omega
    have i0 : (0 : Int) ≤ (j : Int) := by omega
    have hkw : IntKind.i64.wrap ((j : Int) + 1) = (j : Int) + 1 := IntWalk.i64_in _ (by omega)
    have m1 : IntKind.i64.wrap (10 * (j : Int)) = 10 * (j : Int) := IntWalk.i64_in _ (by omega)
    have m2 : IntKind.i64.wrap (200 + 10 * (j : Int)) = 200 + 10 * (j : Int) := IntWalk.i64_in _ (by omega)
    obtain ⟨b, c2, hv, -, hc⟩ := HJ.out.2.at_ (refN_at hlt)
    injection hv with e1 e2 e3
    subst e1
    obtain ⟨FW, hW⟩ := HJ.out.1.ws
    have g0 := HJ.out.1.cells.1
    have hh : (sNo 1).ar.hit (rfN j) = some (j + 2, nodePa j (ns0 j)) := arN_hit hlt (by omega)
    have S1 : Hid (Calls Try.prog 30 #[ptr d.A, .int .i64 (rfN j)] v5 fun e w' => e = .returned (.int .i64 0) ∧ v5 = w') := nxW_infoR hW hI.fit.ok hh
    have S2 : Hid (Calls Try.prog 31 #[ptr d.A, .int .i64 (rfN j)] v5 fun e w' => e = .returned (.bool false) ∧ v5 = w') := nxW_markR hW hI.fit.ok hh
    have S3 : Hid (Calls Try.prog 13 #[ptr d.A, .int .i64 (rfN j), .int .i64 0] v5 fun e w' => e = .returned (.int .i64 (200 + 10 * (j : Int))) ∧ v5 = w') := nxW_way hW hI.fit.ok hh 0
    have hne : ((200 + 10 * (j : Int)) != (200 + 10 * (j : Int))) = false := by simp
    generalize rfN j = rj at *
    clear hW hI hh e2 e3
    go_wp2_with fail
    refine S1.out.mono ?_
    rintro e u ⟨rfl, rfl⟩
    go_wp2_with fail
    refine S2.out.mono ?_
    rintro e u ⟨rfl, rfl⟩
    go_wp2_with fail
    refine S3.out.mono ?_
    rintro e u ⟨rfl, rfl⟩
    clear S1 S2 S3
    go_wp2
    go_roundg (gk - 1)
    case measure => omega
    case rel => exact ⟨j + 1, by omega, by go_num, rfl⟩
end Go.Proofs.Ytfloblofdkemlaa
