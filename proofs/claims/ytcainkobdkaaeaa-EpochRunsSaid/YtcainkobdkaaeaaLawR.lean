/-
  The law EpochRuns.
-/
import Derived.Test.YtcainkobdkaaeaaDoAll
namespace Go.Proofs.Ytcainkobdkaaeaa
open Go.ChangeShapes Go.WideShapes Go.ChangeAt Go.RowKit
set_option linter.unusedVariables false
set_option linter.unusedSimpArgs false
set_option maxRecDepth 20000

set_option maxHeartbeats 4000000 in
theorem epochRuns_walk (mo : Int) (A : Option Addr) (n c : Nat) (l : List Ac) (w : World) (hl : Sts AcC 4 w A n l) :
    Calls Try.prog 3 #[.int .i64 mo, .slice A n c] w fun e w' => e = .returned (.bool true) ∧ Below w.heap.size w w' := by
  have HL := Lib.hid hl
  have hmax := hl.2.1
  unfold maxLen at hmax
  clear hl
  by_cases hn : n ≤ 60
  case neg =>
    have h60 : (60 : Int) < (n : Int) := by omega
    go_enter Try.func3, Try.ntmps3
    go_wp2_with fail
    refine (awake_walk _).mono ?_
    rintro e w1 ⟨rfl, hb1⟩
    go_wp2
    go_ret
    exact ⟨rfl, hb1⟩
  have h60 : ¬ ((60 : Int) < (n : Int)) := by omega
  go_enter Try.func3, Try.ntmps3
  go_wp2_with fail
  refine (awake_walk _).mono ?_
  rintro e w1 ⟨rfl, b1⟩
  go_wp2_with fail
  refine (new_walk mo w1).mono ?_
  rintro e w2 ⟨a, F, rfl, hE, hF, b2⟩
  go_wp2_with fail
  refine (dnew_walk mo w2).mono ?_
  rintro e w3 ⟨d, G, rfl, hD, hG, b3⟩
  have HS : Hid (Fin w a d 0 (mostOf mo) [] w3) := by
    have b12 : Below w.heap.size w w2 := b1.trans (b2.mono b1.size)
    refine ⟨0, List.replicate (mostOf mo) (-1, []), Nat.le_refl _, ⟨by rw [List.length_replicate]; exact mostOf_le mo, fun x hx => ?_⟩, List.length_replicate, F, G, hE.below b3, hD, fun b e1 e2 => ?_, fun b e => Nat.le_trans b1.size (hF b e), fun b e => Nat.le_trans b12.size (hG b e), b12.trans (b3.mono b12.size), fun y hy => by cases hy⟩
    · rw [List.mem_replicate] at hx
      rw [hx.2]
      exact ⟨by simp, by simp⟩
    · have := hE.lt b e1
      have := hG b e2
      omega
  have hm64 := mostOf_le mo
  generalize mostOf mo = m at *
  clear b1 b2 b3 hE hD hF hG
  go_wp2_with fail
  go_loopg [25] n (fun gk i wr => ∃ (k : Nat), k + gk = n ∧ i = .int .i64 (k : Int) ∧ Hid (Fin w a d k m [] wr))
  case atStart => exact ⟨0, by omega, rfl, HS⟩
  case round =>
    clear HS
    obtain ⟨k, hk, rfl, HH⟩ := hrel
    by_cases hlt : k < n
    case neg =>
      have i1 : ¬ ((k : Int) < (n : Int)) := by omega
      obtain ⟨j, S, hj, hS, hm, hR⟩ := HH.out
      obtain ⟨-, -, ⟨A1, c1, e1⟩, -⟩ := hR.cells
      rw [hm] at e1
      have HQ : Hid (∀ q, Calls Try.prog 18 #[ptr a] (wr.drewN q) fun e w'' => e = .returned (.int .i64 (m : Int)) ∧ ∃ t, w'' = wr.drewN t) := fun q => hR.quietE (fun F w h => by rw [← hm]; exact len_walk h) q
      have HB := Lib.hid hR.below
      clear HH hR hS hj hm
      go_wp2_with fail
      go_quiet ((go_at_call 18; exact HQ.out _))
      go_wp2
      go_ret
      exact ⟨rfl, below_drewN HB.out _⟩
    obtain ⟨j, S, hj, hS, hm, hR⟩ := HH.out
    have HR := Lib.hid hR
    have HOK := Lib.hid hS
    have HJ := Lib.hid hj
    have HM := Lib.hid hm
    clear hR hS hj hm HH
    obtain ⟨g, off, x, hA, hxw, t0, t1, t2, t3⟩ := acts_at HL.out hlt
    subst hA
    obtain ⟨u, on, xn, xt⟩ := x
    obtain ⟨w1', w2', w3', w4'⟩ := hxw
    simp only at w1' w2' w3' w4' t0 t1 t2 t3
    have t0' := below_read HR.out.below t0
    have t1' := below_read HR.out.below t1
    have t2' := below_read HR.out.below t2
    have t3' := below_read HR.out.below t3
    have hon : IntKind.i64.wrap on = on := IntWalk.i64_in _ (by omega)
    have HON := Lib.hid w2'
    have HXN := Lib.hid w3'
    have HXT := Lib.hid w4'
    have i0 : (0 : Int) ≤ (k : Int) := by omega
    have i1 : (k : Int) < (n : Int) := by omega
    have hkw : IntKind.i64.wrap ((k : Int) + 1) = (k : Int) + 1 := IntWalk.i64_in _ (by omega)
    clear w2' w3' w4' t0 t1 t2 t3
    obtain ⟨bv, hbv⟩ : ∃ bv, wr.heap.size = bv := ⟨_, rfl⟩
    obtain ⟨W1, hW1, hR1⟩ : ∃ W1 : World, wr.alloc (.cells #[.int .u8 (u : Int), .int .i8 on, .int .i64 xn, .int .i64 xt] acT) = W1 ∧ RR w a d (j : Int) S (j : Int) S [(bv, #[.int .u8 (u : Int), .int .i8 on, .int .i64 xn, .int .i64 xt], acT)] W1 := ⟨_, rfl, by rw [← hbv]; exact HR.out.add _ _⟩
    obtain ⟨y0, y1, y2, y3⟩ := four_cells (hR1.at_ (List.mem_singleton.2 rfl))
    obtain ⟨-, -, ⟨A1, c1, e1⟩, -⟩ := hR1.cells
    rw [HM.out] at e1
    have HR1 := Lib.hid hR1
    clear hR1 HR
    go_upto_region 10 with fail
    (try rw [hW1]); (try rw [hbv])
    clear hW1 hbv t0' t1' t2' t3'
    go_cut [11] (fun v wc => v = .bool (decide (0 ≤ on ∧ on < (m : Int))) ∧ W1 = wc)
    case first =>
      by_cases h1 : 0 ≤ on
      · by_cases h2 : on < (m : Int)
        · have hd : decide (0 ≤ on ∧ on < (m : Int)) = true := by simp [h1, h2]
          go_wp2
          go_meet
          exact ⟨by rw [hd], rfl⟩
        · have hd : decide (0 ≤ on ∧ on < (m : Int)) = false := by simp; omega
          go_wp2
          go_meet
          exact ⟨by rw [hd], rfl⟩
      · have hd : decide (0 ≤ on ∧ on < (m : Int)) = false := by simp; omega
        have h1d : decide (0 ≤ on) = false := by simpa using h1
        go_wp2
        go_meet
        exact ⟨by rw [hd], rfl⟩
    case rest =>
    obtain ⟨rfl, hwc⟩ := hcut
    subst hwc
    go_upto_block 2 with fail
    refine act_all HR1 HOK HJ HM HXN HXT (by omega) hm64 w1' _ _ (fun _ _ _ _ h => h) _ _ _ _ _ _ _ _ _ _ _ _ _ _ _ _ _ _ _ _ _ _ _ _ _ _ _ _ _ _ _ _ _ _ _ _ _ _ _ _ _ _ _ _ _ _ _ _ _ _ _ _ _ _ _ _ _ _ _ _ _ _ _ _ _ _ _ _ _ _ _ _ _ _ _ _ _ _ _ _ _ _ _ _ _ _ _ _ _ _ _ _ _ _ _ _ _ _ _ _ _ _ _ _ _ _ _ _ _ _ _ _ _ _ _ _ _ _ _ _ _ _ _ _ _ _ _ _ _ _ _ _ _ _ _ _ _ _ _ _ _ _ _ _ _ _ _ _ _ _ _ _ _ _ _ _ _ _ _ _ _ _ _ _ _ _ _ _ _ _ _ _ _ _ _ _ _ _ _ _ _ ?_
    intro t11 t12 t13 t45 t46 t47 t48 t49 t50 t51 t52 t53 t54 t55 t56 t57 t58 t59 t60 t61 t62 t63 t64 t65 t66 t67 t68 t69 t70 t71 t72 t73 t74 t75 t76 t77 t78 t79 t80 t81 t82 t83 t84 t85 t86 t87 t88 t89 t90 t91 t92 t93 t94 t95 t96 t97 t98 t99 t100 t101 t102 t103 t104 t105 t106 t107 t108 t109 t110 t111 t112 t113 t114 t115 t116 t117 t118 t119 t120 t121 t122 t123 t124 t125 t126 t127 t128 t129 t130 t131 t132 t133 t134 t135 t136 t137 t138 t139 t140 t141 t142 t143 t144 t145 t146 t147 t148 t149 t150 t151 t152 t153 t154 t155 t156 t157 t158 t159 t160 t161 wc HFN
    clear y0 y1 y2 y3 e1 HR1 HOK HJ HM HON HXN HXT
    obtain ⟨j', S', hj', hS', hm', hR'⟩ := HFN.out
    obtain ⟨e0, -, -, -⟩ := hR'.cells
    have HQ1 : Hid (∀ q, Calls Try.prog 19 #[ptr a] (wc.drewN q) fun e w'' => e = .returned (.int .i64 (j' : Int)) ∧ ∃ t, w'' = wc.drewN t) := fun q => hR'.quietE (fun F w h => now_walk h) q
    have HQ2 : Hid (∀ q, Calls Try.prog 20 #[ptr a] (wc.drewN q) fun e w'' => e = .returned (.int .i64 (tot S' : Int)) ∧ ∃ t, w'' = wc.drewN t) := fun q => hR'.quietE (fun F w h => limbo_walk h (hS'.few (by omega))) q
    have HQ3 : Hid (∀ q, Calls Try.prog 21 #[ptr d] (wc.drewN q) fun e w'' => e = .returned (.int .i64 (tot S' : Int)) ∧ ∃ t, w'' = wc.drewN t) := fun q => hR'.quietD (fun F w h => many_walk h (hS'.few (by omega))) q
    have HEND : Hid (∀ q, Fin w a d (k + 1) m [] (wc.drewN q)) := fun q => ⟨j', S', hj', hS', hm', (hR'.sub (fun y hy => by cases hy)).drewN q⟩
    clear hj' hS' hm' hR' HFN
    generalize tot S' = T at *
    go_wp2_with fail
    go_quiet (first
      | (go_at_call 19; exact HQ1.out _)
      | (go_at_call 20; exact HQ2.out _)
      | (go_at_call 21; exact HQ3.out _))
    go_wp2
    go_roundg (gk - 1)
    case measure => omega
    case rel => exact ⟨k + 1, by omega, by go_num, HEND.out _⟩
end Go.Proofs.Ytcainkobdkaaeaa
