/-
  The law RecordRuns.
-/
import Derived.Test.YtokheagoddmmiaaDoAll
import Derived.Deep.CutBlock
import Derived.Deep.DeepCutAuto
import Derived.Deep.LoopGhost
namespace Go.Proofs.Ytokheagoddmmiaa
open Go.ChangeShapes Go.WideShapes Go.ChangeAt Go.RowKit
set_option linter.unusedVariables false
set_option linter.unusedSimpArgs false
set_option maxRecDepth 20000

set_option maxHeartbeats 8000000 in
theorem recordRuns_walk (mo : Int) (A : Option Addr) (n c : Nat) (l : List Ac) (w : World) (hl : Sts AcC 10 w A n l) :
    Calls Try.prog 3 #[.int .i64 mo, .slice A n c] w fun e w' => e = .returned (.bool true) ∧ Below w.heap.size w w' := by
  have HL := Lib.hid hl
  have hmax := hl.2.1
  unfold maxLen at hmax
  clear hl
  by_cases hn : n ≤ 60
  case neg =>
    have h60 : (60 : Int) < (n : Int) := by omega
    go_enter Try.func3, Try.ntmps3
    go_wp2_with fail
    refine (awake_walk _).mono ?_
    rintro e w1 ⟨rfl, hb1⟩
    go_wp2
    go_ret
    exact ⟨rfl, hb1⟩
  have h60 : ¬ ((60 : Int) < (n : Int)) := by omega
  go_enter Try.func3, Try.ntmps3
  go_wp2_with fail
  refine (awake_walk _).mono ?_
  rintro e w1 ⟨rfl, b1⟩
  go_wp2_with fail
  refine (new_walk mo w1).mono ?_
  rintro e w2 ⟨rfl, t2, b2⟩
  obtain ⟨a, ha⟩ : ∃ a, w1.heap.size = a := ⟨_, rfl⟩
  obtain ⟨M, hM⟩ : ∃ M, mostOf mo = M := ⟨_, rfl⟩
  rw [ha] at t2 ⊢
  rw [hM] at t2
  have HM := Lib.hid hM
  have HS : Hid (St w a M 0 0 (.slice none 0 0) w2) := ⟨_, _, [], [], _, ⟨t2, Its.nil _ _, fun b _ e => e, fun b e => by rcases e with e | e; (have : b = a := e; have := b1.size; omega); exact e.elim, (fun y hy => by cases hy), b1.trans (b2.mono b1.size)⟩, Rel.nil, Nat.le_refl _, rfl⟩
  clear b1 b2 t2 ha hM
  go_wp2_with fail
  go_loopg [25, 6] n (fun gk i hv wr => ∃ (k L c : Nat) (T : Option Addr), k + gk = n ∧ i = .int .i64 (k : Int) ∧ hv = .slice T L c ∧ Hid (St w a M k L (.slice T L c) wr))
  case atStart => exact ⟨0, 0, 0, none, by omega, rfl, rfl, HS⟩
  case round =>
    clear HS
    obtain ⟨k, L, hc, T, hk, rfl, rfl, HH⟩ := hrel
    by_cases hlt : k < n
    case neg =>
      have i1 : ¬ ((k : Int) < (n : Int)) := by omega
      obtain ⟨F, G, l1, e1, P1, hR, hrl, hk1, hL⟩ := HH.out
      have HR := Lib.hid hR
      have hll : l1.length = L := hrl.len.trans hL
      clear hR hrl hk1 hL HH
      have HLL := Lib.hid hll
      clear hll
      go_wp2_with fail
      refine (len_walk HR.out.tb).mono ?_
      rintro e w3 ⟨rfl, rfl⟩
      rw [HLL.out]
      go_wp2
      go_ret
      exact ⟨rfl, HR.out.below⟩
    have hHS := HH.out
    obtain ⟨F, G, l1, e1, P1, hR, hrl, hk1, hL⟩ := hHS
    have HR := Lib.hid hR
    have HRL := Lib.hid hrl
    have HK1 := Lib.hid hk1
    have HLE := Lib.hid hL
    have hL60 : L ≤ 60 := by have := hrl.len; omega
    clear hR hrl hk1 hL HH
    obtain ⟨g, off, x, A1, n1, c1, B1, m1, d1, rfl, hgl, hxw, t0, t1, t2, t3, t4, t5, t6, t7, t8, t9, s1, s2⟩ := acts_at HL.out HR.out.below hlt
    obtain ⟨dd, on, raw, st, ⟨ns, is, kp, wy, od, nw⟩⟩ := x
    obtain ⟨w1', w2', w3', w4'⟩ := hxw
    simp only at w1' w2' w3' w4' t0 t1 t2 t3 t4 t5 t6 t7 t8 t9 s1 s2
    obtain ⟨u, rfl⟩ := Int.eq_ofNat_of_zero_le w1'.1
    have hu : u < 256 := by omega
    have hon : IntKind.i64.wrap on = on := IntWalk.i64_in _ (by omega)
    have HON := Lib.hid w2'
    have i0 : (0 : Int) ≤ (k : Int) := by omega
    have i1 : (k : Int) < (n : Int) := by omega
    have hkw : IntKind.i64.wrap ((k : Int) + 1) = (k : Int) + 1 := IntWalk.i64_in _ (by omega)
    clear w1' w2' w3' w4'
    obtain ⟨bv, hbv⟩ : ∃ bv, wr.heap.size = bv := ⟨_, rfl⟩
    obtain ⟨W1, hW1, hbW1, hR1⟩ : ∃ W1 : World, wr.alloc (.cells #[.int .u8 (u : Int), .int .i8 on, .int .i64 raw, .int .u8 st, .slice A1 n1 c1, .slice B1 m1 d1, .int .i64 kp, .int .i64 wy, .int .i64 od, .int .i64 nw] 34) = W1 ∧ Below wr.heap.size wr W1 ∧ RI w a M F G l1 e1 P1 (.slice T L hc) [(bv, #[.int .u8 (u : Int), .int .i8 on, .int .i64 raw, .int .u8 st, .slice A1 n1 c1, .slice B1 m1 d1, .int .i64 kp, .int .i64 wy, .int .i64 od, .int .i64 nw], 34)] W1 := ⟨_, rfl, below_new _ _, by rw [← hbv]; exact HR.out.add _ _⟩
    have HS1 := Lib.hid s1
    have HS2 := Lib.hid s2
    obtain ⟨y0, y1, y2, y3, y4, y5, y6, y7, y8, y9⟩ := ten_cells hR1.first
    have HR1 := Lib.hid hR1
    clear s1 s2 hR1 HR
    go_wp2_with fail
    (try rw [hW1]); (try rw [hbv])
    clear hW1 hbv t0 t1 t2 t3 t4 t5 t6 t7 t8 t9 hbW1 y0 y1 y2 y3 y4 y5 y6 y7 y8 y9
    refine (short_walk A1 B1 n1 c1 m1 d1 ⟨ns, is, kp, wy, od, nw⟩ W1).mono ?_
    rintro e W2 ⟨rfl, b2⟩
    by_cases hsh : n1 ≤ 20 ∧ m1 ≤ 20
    case neg =>
      have hd : decide (n1 ≤ 20 ∧ m1 ≤ 20) = false := by simpa using hsh
      rw [hd]
      clear hd hsh
      go_wp2
      go_ret
      exact ⟨rfl, (HR1.out.next b2).below⟩
    have hd : decide (n1 ≤ 20 ∧ m1 ≤ 20) = true := by simpa using hsh
    rw [hd]
    obtain ⟨hs1, hs2⟩ := hsh
    have HR2 := Lib.hid (HR1.out.next b2)
    obtain ⟨y0, y1, y2, y3, y4, y5, y6, y7, y8, y9⟩ := ten_cells HR2.out.first
    clear hd b2 HR1
    obtain ⟨nn, hnn⟩ : ∃ nn : Int, (if on = 127 then raw else on) = nn := ⟨_, rfl⟩
    have HNN := Lib.hid hnn
    clear hnn
    go_upto_if 38 with fail
    go_cut [9] (fun v wc => v = .int .i64 nn ∧ W2 = wc)
    case first =>
      by_cases h127 : on = 127
      · subst h127
        have e1 : raw = nn := by have := HNN.out; simpa using this
        have HE := Lib.hid e1
        clear e1
        go_wp2
        go_meet
        exact ⟨by rw [HE.out], rfl⟩
      · have hb127 : (on == 127) = false := by simp [h127]
        have e1 : on = nn := by have := HNN.out; simpa [h127] using this
        have HE := Lib.hid e1
        clear e1
        go_wp2
        go_meet
        exact ⟨by rw [HE.out], rfl⟩
    case rest =>
    obtain ⟨rfl, hwc⟩ := hcut
    subst hwc
    obtain ⟨be, hbe⟩ : ∃ be, W2.heap.size = be := ⟨_, rfl⟩
    obtain ⟨W3, hW3, hbW3, hR3⟩ : ∃ W3 : World, W2.alloc (.cells #[.slice none 0 0, .slice none 0 0, .int .i64 0, .int .i64 0, .int .i64 0, .int .i64 0, .int .u8 0, .bool false] enT) = W3 ∧ Below W2.heap.size W2 W3 ∧ RI w a M F G l1 e1 P1 (.slice T L hc) [(be, blkE It.nil, enT), (bv, #[.int .u8 (u : Int), .int .i8 on, .int .i64 raw, .int .u8 st, .slice A1 n1 c1, .slice B1 m1 d1, .int .i64 kp, .int .i64 wy, .int .i64 od, .int .i64 nw], 34)] W3 := ⟨_, rfl, below_new _ _, by rw [← hbe]; exact HR2.out.add _ _⟩
    have HR3 := Lib.hid hR3
    have hbn : bv ≠ be := by
      have h1 := (Array.getElem?_eq_some_iff.1 HR2.out.first).1
      omega
    have HBN : Hid (∀ z ∈ [((bv, #[.int .u8 (u : Int), .int .i8 on, .int .i64 raw, .int .u8 st, .slice A1 n1 c1, .slice B1 m1 d1, .int .i64 kp, .int .i64 wy, .int .i64 od, .int .i64 nw], 34) : Nat × Array Value × TypeId)], z.1 ≠ be) := fun z hz => by rw [List.mem_singleton] at hz; subst hz; exact hbn
    go_upto_region 17 with fail
    (try rw [hW3]); (try rw [hbe])
    clear hW3 hbe hR3 hbW3 HR2 y0 y1 y2 y3 y4 y5 y6 y7 y8 y9 hbn
    go_cut [48] (fun v wc => v = .bool (decide (1 ≤ nn ∧ nn ≤ (L : Int))) ∧ W3 = wc)
    case first =>
      by_cases h1 : 1 ≤ nn
      · by_cases h2 : nn ≤ (L : Int)
        · have hd : decide (1 ≤ nn ∧ nn ≤ (L : Int)) = true := by simp [h1, h2]
          go_wp2
          go_meet
          exact ⟨by rw [hd], rfl⟩
        · have hd : decide (1 ≤ nn ∧ nn ≤ (L : Int)) = false := by simp; omega
          go_wp2
          go_meet
          exact ⟨by rw [hd], rfl⟩
      · have hd : decide (1 ≤ nn ∧ nn ≤ (L : Int)) = false := by simp; omega
        go_wp2
        go_meet
        exact ⟨by rw [hd], rfl⟩
    case rest =>
    obtain ⟨rfl, hwc⟩ := hcut
    subst hwc
    go_upto_if 48 with fail
    go_cut [10] (fun v wc => ∃ (iv : Int) (y : It), v = .int .i64 iv ∧ Hid (EOK e1 nn iv y ∧ RI w a M F G l1 e1 P1 (.slice T L hc) [(be, blkE y, enT), (bv, #[.int .u8 (u : Int), .int .i8 on, .int .i64 raw, .int .u8 st, .slice A1 n1 c1, .slice B1 m1 d1, .int .i64 kp, .int .i64 wy, .int .i64 od, .int .i64 nw], 34)] wc))
    case first =>
      by_cases hin : 1 ≤ nn ∧ nn ≤ (L : Int)
      · have hd : decide (1 ≤ nn ∧ nn ≤ (L : Int)) = true := by simpa using hin
        rw [hd]
        obtain ⟨i, rfl⟩ : ∃ i : Nat, nn = (i : Int) + 1 := ⟨(nn - 1).toNat, by omega⟩
        have hil : i < e1.length := by have := HLE.out; omega
        obtain ⟨y, hy⟩ : ∃ y, e1[i]? = some y := ⟨_, List.getElem?_eq_getElem hil⟩
        obtain ⟨r', s', b', A2, n2, c2, B2, m2, d2, rfl, -, -, -, -⟩ := EOK.form (nn := (i : Int) + 1) (.inr ⟨i, rfl, rfl, hy⟩) HR3.out
        obtain ⟨ns', is', kp', wy', od', nw'⟩ := r'
        obtain ⟨g2, c2', hP2, hg2, -, -, -, -, q0, q1, q2, q3, q4, q5, q6, q7, -⟩ := HR3.out.en.cells hy
        obtain ⟨x0, x1, x2, x3, x4, x5, x6, x7⟩ := eight_cells HR3.out.first
        obtain ⟨z0, z1, z2, z3, z4, z5, z6, z7⟩ := eight_frees HR3.out.first
        injection hP2 with hT hL2 hc2
        subst hT hc2
        have HEND := Lib.hid (HR3.out.write HBN.out ⟨⟨ns', is', kp', wy', od', nw'⟩, s', b', .slice A2 n2 c2, .slice B2 m2 d2⟩)
        have HY := Lib.hid hy
        have h3 : IntKind.i64.wrap ((i : Int) + 1 - 1) = (i : Int) := by rw [Int.add_sub_cancel]; exact IntWalk.i64_in _ (by omega)
        have j0 : (0 : Int) ≤ (i : Int) := by omega
        have j1 : (i : Int) < (L : Int) := by omega
        have hgb : g2 ≠ be := fun e => by have h := HR3.out.keep _ (List.mem_cons_self ..); exact h.2.2.1 (e ▸ HR3.out.en.frow g2 rfl)
        simp only at q0 q1 q2 q3 q4 q5 q6 q7
        clear hy hil hd hL2 hin
        go_wp2
        go_meet
        exact ⟨(i : Int), ⟨⟨ns', is', kp', wy', od', nw'⟩, s', b', .slice A2 n2 c2, .slice B2 m2 d2⟩, rfl, .inr ⟨i, rfl, rfl, HY.out⟩, HEND.out⟩
      · have hd : decide (1 ≤ nn ∧ nn ≤ (L : Int)) = false := by simpa using hin
        rw [hd]
        clear hd
        go_wp2
        go_meet
        exact ⟨-1, It.nil, rfl, .inl ⟨rfl, by have := HLE.out; omega, rfl⟩, HR3.out⟩
    case rest =>
    obtain ⟨iv, y, rfl, HQ⟩ := hcut
    have HEO := Lib.hid HQ.out.1
    have HR4 := Lib.hid HQ.out.2
    clear HQ HR3
    obtain ⟨y0, y1, y2, y3, y4, y5, y6, y7, y8, y9⟩ := ten_cells HR4.out.second
    obtain ⟨W4, hW4⟩ : ∃ W4, wc = W4 := ⟨_, rfl⟩
    subst hW4
    go_upto_block 2 with fail
    refine act_all HR4 HEO HRL HK1 HLE HM HS1 HS2 HBN hs1 hs2 hL60 (by omega) hu _ _ _ _ _ _ _ _ _ _ _ _ _ _ _ _ _ _ _ _ _ _ _ _ _ _ _ _ _ _ _ _ _ _ _ _ _ _ _ _ _ _ _ _ _ _ _ _ _ _ _ _ _ _ _ _ _ _ _ _ _ _ _ _ _ _ _ _ _ _ _ _ _ _ _ _ _ _ _ _ _ _ _ _ _ _ _ _ _ _ _ _ _ _ _ _ _ _ _ _ _ _ _ _ _ _ _ _ _ _ _ _ _ _ _ _ _ _ _ _ _ _ _ _ _ _ _ _ _ _ _ _ _ _ _ _ _ _ _ _ _ _ _ _ _ _ _ _ _ _ _ _ _ _ _ _ _ _ _ _ _ _ _ _ ?_
    intro t6 t13 t14 t15 t26 t27 t28 t29 t30 t31 t32 t33 t34 t35 t36 t37 t38 t39 t40 t41 t42 t43 t44 t45 t46 t47 t48 t49 t50 t51 t52 t53 t54 t55 t56 t57 t58 t59 t60 t61 t62 t63 t64 t65 t66 t67 t68 t69 t70 t71 t72 t73 t74 t75 t76 t77 t78 t79 t80 t81 t82 t83 t84 t85 t86 t87 t88 t89 t90 t91 t92 t93 t94 t95 t96 t97 t98 t99 t100 t101 t102 t103 t104 t105 t106 t107 t108 t109 t110 t111 t112 t113 t114 t115 t116 t117 t118 t119 t120 t121 t122 t123 t124 t125 t126 t127 t128 t129 t130 t131 t132 t133 t134 t135 t136 t137 t138 t139 t140 t141 t142 t143 t144 t145 t146 t147 t148 t149 t150 t151 t152 t153 t154 t155 t156 t157 t158 t159 t160 t161 t162 t163 t164 t165 wc ⟨T', L', hc', ht6, HFN⟩
    subst ht6
    clear y0 y1 y2 y3 y4 y5 y6 y7 y8 y9 HS1 HS2 HRL HK1 HLE HBN HNN HON HM
    obtain ⟨F5, G5, l5, e5, P5, z, hR5, hl5, hL5, he5, hfin⟩ := HFN.out
    have HR5 := Lib.hid hR5
    have HLL := Lib.hid hl5
    have HLE := Lib.hid he5
    clear hR5 HFN hl5 he5 HR4
    obtain ⟨y0, -⟩ := ten_cells HR5.out.second
    rcases hfin with ⟨h0, hrel⟩ | ⟨h6, i, rfl, ⟨x5, hx5⟩, hm5, hrel⟩
    · have HREL := Lib.hid hrel
      clear hrel
      by_cases hiv : iv = -1
      · subst hiv
        clear h0
        go_wp2_with fail
        refine (len_walk HR5.out.tb).mono ?_
        rintro e w3 ⟨rfl, rfl⟩
        rw [HLL.out]
        go_wp2
        go_roundg (gk - 1)
        case measure => omega
        case rel => exact ⟨k + 1, L', hc', T', by omega, by go_num, rfl, _, _, _, _, _, HR5.out.sub (by intro y hy; cases hy), HREL.out, by have := HLL.out; omega, HLE.out⟩
      · have h00 : u % 6 = 0 := by rcases h0 with h | h; exact h; exact absurd h hiv
        have hu6 : (u : Int) % 6 = 0 := by omega
        obtain ⟨i, rfl⟩ : ∃ i : Nat, iv = (i : Int) := by
          rcases HEO.out with ⟨h, _⟩ | ⟨i, h, _⟩
          · exact absurd h hiv
          · exact ⟨i, h⟩
        have j0 : (0 : Int) ≤ (i : Int) := by omega
        clear h0 hiv h00
        go_wp2_with fail
        refine (len_walk HR5.out.tb).mono ?_
        rintro e w3 ⟨rfl, rfl⟩
        rw [HLL.out]
        go_wp2
        go_roundg (gk - 1)
        case measure => omega
        case rel => exact ⟨k + 1, L', hc', T', by omega, by go_num, rfl, _, _, _, _, _, HR5.out.sub (by intro y hy; cases hy), HREL.out, by have := HLL.out; omega, HLE.out⟩
    · have HREL := Lib.hid hrel
      have hu6 : ¬ ((u : Int) % 6 = 0) := by omega
      have hu6b : ((u : Int) % 6 != 0) = true := by simp; omega
      have j0 : (0 : Int) ≤ (i : Int) := by omega
      have j1 : (i : Int) < (L' : Int) := by have := (List.getElem?_eq_some_iff.1 hx5).1; have := HLE.out; omega
      obtain ⟨⟨ns', is', kp', wy', od', nw'⟩, s', b', nv', iv'⟩ := z
      obtain ⟨A2, n2, c2, rfl⟩ : ∃ A n c, nv' = .slice A n c := hm5.ns.shape
      obtain ⟨B2, m2, d2, rfl⟩ : ∃ A n c, iv' = .slice A n c := hm5.is.shape
      obtain ⟨g2, c2', hP2, hg2, -, -, -, -, q0, q1, q2, q3, q4, q5, q6, q7, hz⟩ := HR5.out.en.cells hx5
      injection hP2 with hT hL2 hc2
      subst hT hc2
      obtain ⟨x0, x1, x2, x3, x4, x5', x6, x7⟩ := eight_cells HR5.out.first
      have z0 := hz (i * 8)
      have z1 := hz (i * 8 + 1)
      have z2 := hz (i * 8 + 2)
      have z3 := hz (i * 8 + 3)
      have z4 := hz (i * 8 + 4)
      have z5 := hz (i * 8 + 5)
      have z6 := hz (i * 8 + 6)
      have z7 := hz (i * 8 + 7)
      have HR6 := Lib.hid (HR5.out.over HLE.out hx5 hm5)
      obtain ⟨W6, hW6⟩ : ∃ W6, putR wc g2 i ⟨⟨ns', is', kp', wy', od', nw'⟩, s', b', .slice A2 n2 c2, .slice B2 m2 d2⟩ = W6 := ⟨_, rfl⟩
      rw [hW6] at HR6
      unfold putR at hW6
      simp only at hW6
      clear hrel hm5 hx5 hL2 hz h6 HR5
      go_wp2_with fail
      (try rw [hW6])
      clear hW6 x0 x1 x2 x3 x4 x5' x6 x7 q0 q1 q2 q3 q4 q5 q6 q7 z0 z1 z2 z3 z4 z5 z6 z7
      refine (len_walk HR6.out.tb).mono ?_
      rintro e w3 ⟨rfl, rfl⟩
      rw [HLL.out]
      go_wp2
      go_roundg (gk - 1)
      case measure => omega
      case rel => exact ⟨k + 1, L', hc', _, by omega, by go_num, rfl, _, _, _, _, _, HR6.out.sub (by intro y hy; cases hy), HREL.out, by have := HLL.out; omega, by rw [List.length_set]; exact HLE.out⟩
end Go.Proofs.Ytokheagoddmmiaa
