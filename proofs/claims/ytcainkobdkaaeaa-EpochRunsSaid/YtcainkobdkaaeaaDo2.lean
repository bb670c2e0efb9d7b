/-
  The law EpochRuns: its call 2.
-/
import Derived.Test.YtcainkobdkaaeaaAct7
namespace Go.Proofs.Ytcainkobdkaaeaa
open Go.ChangeShapes Go.WideShapes Go.ChangeAt Go.RowKit
set_option linter.unusedVariables false
set_option linter.unusedSimpArgs false
set_option maxRecDepth 20000

set_option maxHeartbeats 8000000 in
theorem act_2 {w wc : World} {a d j k m bv u : Nat} {S : List Tq} {mo on xn xt : Int}
    (HR : Hid (RR w a d (j : Int) S (j : Int) S [(bv, #[.int .u8 (u : Int), .int .i8 on, .int .i64 xn, .int .i64 xt], acT)] wc)) (HOK : Hid (Ok k S)) (HJ : Hid (j ≤ k)) (HM : Hid (S.length = m)) (HXN : Hid (-9223372036854775808 ≤ xn ∧ xn ≤ 9223372036854775807)) (HXT : Hid (-9223372036854775808 ≤ xt ∧ xt ≤ 9223372036854775807)) (hk60 : k ≤ 60) (hm64 : m ≤ 64) (hu : u < 256)
    (K : Act → World → Prop) (Q : Exit → Act → World → Prop) (HQQ : ∀ c (a : Act) t w, Q (.panic c) { a with tmps := t } w → Q (.panic c) a w) (s1 s2 s3 s4 s7 s12 s13 s14 s15 s16 s17 s18 s19 s20 s21 s22 s23 s24 s25 s26 s27 s28 s29 s30 s31 s32 s33 s34 s35 s36 s37 s38 s39 s40 s41 s42 s43 s44 s46 s47 s48 s49 s50 s51 s52 s53 s54 s55 s56 s57 s58 s59 s60 s61 s62 s63 s64 s65 s66 s67 s68 s69 s70 s71 s72 s73 s74 s75 s76 s77 s78 s79 s80 s81 s82 s83 s84 s85 s86 s87 s88 s89 s90 s91 s92 s93 s94 s95 s96 s97 s98 s99 s100 s101 s102 s103 s104 s105 s106 s107 s108 s109 s110 s111 s112 s113 s114 s115 s116 s117 s118 s119 s120 s121 s122 s123 s124 s125 s126 s127 s128 s129 s130 s131 s132 s133 s134 s135 s136 s137 s138 s139 s140 s141 s142 s143 s144 s145 s146 s147 s148 s149 s150 s151 s152 s153 s154 s155 s156 s157 s158 s159 s160 s161 s162 s163 s164 s165 s166 s167 s168 s169 s170 s171 s172 s173 s174 s175 s176 s177 s178 s179 s180 s181 s182 s183 s184 s185 s186 s187 s188 : Value)
    (hK : ∀ (t11 t12 t13 t45 t46 t47 t48 t49 t50 t51 t52 t53 t54 t55 t56 t57 t58 t59 t60 t61 t62 t63 t64 t65 t66 t67 t68 t69 t70 t71 t72 t73 t74 t75 t76 t77 t78 t79 t80 t81 t82 t83 t84 t85 t86 t87 t88 t89 t90 t91 t92 t93 t94 t95 t96 t97 t98 t99 t100 t101 t102 t103 t104 t105 t106 t107 t108 t109 t110 t111 t112 t113 t114 t115 t116 t117 t118 t119 t120 t121 t122 t123 t124 t125 t126 t127 t128 t129 t130 t131 t132 t133 t134 t135 t136 t137 t138 t139 t140 t141 t142 t143 t144 t145 t146 t147 t148 t149 t150 t151 t152 t153 t154 t155 t156 t157 t158 t159 t160 t161 : Value) (wz : World), (Hid (Fin w a d (k + 1) m [(bv, #[.int .u8 (u : Int), .int .i8 on, .int .i64 xn, .int .i64 xt], acT)] wz)) → K ⟨(.int .i64 mo :: s1 :: s2 :: s3 :: s4 :: ptr a :: ptr d :: s7 :: .pointer (some ⟨bv, 0, none⟩) :: .int .i64 on :: .bool true :: t11 :: t12 :: t13 :: s14 :: s15 :: s16 :: s17 :: s18 :: s19 :: s20 :: s21 :: s22 :: s23 :: s24 :: s25 :: s26 :: s27 :: s28 :: s29 :: s30 :: s31 :: s32 :: s33 :: s34 :: s35 :: s36 :: s37 :: s38 :: s39 :: s40 :: s41 :: s42 :: s43 :: s44 :: t45 :: t46 :: t47 :: t48 :: t49 :: t50 :: t51 :: t52 :: t53 :: t54 :: t55 :: t56 :: t57 :: t58 :: t59 :: t60 :: t61 :: t62 :: t63 :: t64 :: t65 :: t66 :: t67 :: t68 :: t69 :: t70 :: t71 :: t72 :: t73 :: t74 :: t75 :: t76 :: t77 :: t78 :: t79 :: t80 :: t81 :: t82 :: t83 :: t84 :: t85 :: t86 :: t87 :: t88 :: t89 :: t90 :: t91 :: t92 :: t93 :: t94 :: t95 :: t96 :: t97 :: t98 :: t99 :: t100 :: t101 :: t102 :: t103 :: t104 :: t105 :: t106 :: t107 :: t108 :: t109 :: t110 :: t111 :: t112 :: t113 :: t114 :: t115 :: t116 :: t117 :: t118 :: t119 :: t120 :: t121 :: t122 :: t123 :: t124 :: t125 :: t126 :: t127 :: t128 :: t129 :: t130 :: t131 :: t132 :: t133 :: t134 :: t135 :: t136 :: t137 :: t138 :: t139 :: t140 :: t141 :: t142 :: t143 :: t144 :: t145 :: t146 :: t147 :: t148 :: t149 :: t150 :: t151 :: t152 :: t153 :: t154 :: t155 :: t156 :: t157 :: t158 :: t159 :: t160 :: t161 :: s162 :: s163 :: s164 :: s165 :: s166 :: s167 :: s168 :: s169 :: s170 :: s171 :: s172 :: s173 :: s174 :: s175 :: s176 :: s177 :: s178 :: s179 :: s180 :: s181 :: s182 :: s183 :: s184 :: s185 :: s186 :: s187 :: s188 :: []).toArray, []⟩ wz)
    (h6 : u % 6 = 2) : Code.wp Try.prog switchC (Exit.then K Q) ⟨(.int .i64 mo :: s1 :: s2 :: s3 :: s4 :: ptr a :: ptr d :: s7 :: .pointer (some ⟨bv, 0, none⟩) :: .int .i64 on :: .bool true :: .bool (decide (0 ≤ on ∧ on < (m : Int))) :: s12 :: s13 :: s14 :: s15 :: s16 :: s17 :: s18 :: s19 :: s20 :: s21 :: s22 :: s23 :: s24 :: s25 :: s26 :: s27 :: s28 :: s29 :: s30 :: s31 :: s32 :: s33 :: s34 :: s35 :: s36 :: s37 :: s38 :: s39 :: s40 :: s41 :: s42 :: s43 :: s44 :: .int .u8 ((u : Int) % 6) :: s46 :: s47 :: s48 :: s49 :: s50 :: s51 :: s52 :: s53 :: s54 :: s55 :: s56 :: s57 :: s58 :: s59 :: s60 :: s61 :: s62 :: s63 :: s64 :: s65 :: s66 :: s67 :: s68 :: s69 :: s70 :: s71 :: s72 :: s73 :: s74 :: s75 :: s76 :: s77 :: s78 :: s79 :: s80 :: s81 :: s82 :: s83 :: s84 :: s85 :: s86 :: s87 :: s88 :: s89 :: s90 :: s91 :: s92 :: s93 :: s94 :: s95 :: s96 :: s97 :: s98 :: s99 :: s100 :: s101 :: s102 :: s103 :: s104 :: s105 :: s106 :: s107 :: s108 :: s109 :: s110 :: s111 :: s112 :: s113 :: s114 :: s115 :: s116 :: s117 :: s118 :: s119 :: s120 :: s121 :: s122 :: s123 :: s124 :: s125 :: s126 :: s127 :: s128 :: s129 :: s130 :: s131 :: s132 :: s133 :: s134 :: s135 :: s136 :: s137 :: s138 :: s139 :: s140 :: s141 :: s142 :: s143 :: s144 :: s145 :: s146 :: s147 :: s148 :: s149 :: s150 :: s151 :: s152 :: s153 :: s154 :: s155 :: s156 :: s157 :: s158 :: s159 :: s160 :: s161 :: s162 :: s163 :: s164 :: s165 :: s166 :: s167 :: s168 :: s169 :: s170 :: s171 :: s172 :: s173 :: s174 :: s175 :: s176 :: s177 :: s178 :: s179 :: s180 :: s181 :: s182 :: s183 :: s184 :: s185 :: s186 :: s187 :: s188 :: []).toArray, []⟩ wc := by
    conv => arg 2; whnf
    go_cut [10, 11, 12, 13, 45] from 46 to 161 (fun ok _ _ _ _ wz => ok = .bool true ∧ Hid (Fin w a d (k + 1) m [(bv, #[.int .u8 (u : Int), .int .i8 on, .int .i64 xn, .int .i64 xt], acT)] wz))
    case rest =>
      obtain ⟨rfl, hfin⟩ := hcut
      exact hK _ _ _ _ _ _ _ _ _ _ _ _ _ _ _ _ _ _ _ _ _ _ _ _ _ _ _ _ _ _ _ _ _ _ _ _ _ _ _ _ _ _ _ _ _ _ _ _ _ _ _ _ _ _ _ _ _ _ _ _ _ _ _ _ _ _ _ _ _ _ _ _ _ _ _ _ _ _ _ _ _ _ _ _ _ _ _ _ _ _ _ _ _ _ _ _ _ _ _ _ _ _ _ _ _ _ _ _ _ _ _ _ _ _ _ _ _ _ _ _ _ hfin
    case first =>
      clear hK
      obtain ⟨y0, y1, y2, y3⟩ := four_cells (HR.out.at_ (List.mem_singleton.2 rfl))
      obtain ⟨e0, f0, ⟨A1, c1, e1⟩, -⟩ := HR.out.cells
      rw [HM.out] at e1
      have u6 : (u : Int) % 6 = 2 := by omega
      clear h6
      clear e0 f0 y0 y1 y2 y3 e1
      by_cases hin : 0 ≤ on ∧ on < (m : Int)
      · have hd : decide (0 ≤ on ∧ on < (m : Int)) = true := by simpa using hin
        rw [hd]
        obtain ⟨i, rfl⟩ : ∃ i : Nat, on = (i : Int) := ⟨on.toNat, by omega⟩
        obtain ⟨y, hy⟩ : ∃ y, S[i]? = some y := ⟨_, List.getElem?_eq_getElem (by have := HM.out; omega)⟩
        have HY := Lib.hid hy
        have HYK := Lib.hid (HOK.out.2 y (List.mem_of_getElem? hy))
        have i0 : (0 : Int) ≤ (i : Int) := by omega
        have i1 : (i : Int) < (m : Int) := by omega
        clear hd hin hy
        obtain ⟨g, c, e1, e2, -, -⟩ := HR.out.said HY.out
        rw [HM.out] at e1
        go_wp2_with fail
        refine (HR.out.readE fun F h => said_yes (s := y.1) (q := y.2) h HY.out).mono ?_
        rintro e X ⟨rfl, hX⟩
        subst hX
        have HE : Hid (Fin w a d (k + 1) m [(bv, #[.int .u8 (u : Int), .int .i8 (i : Int), .int .i64 xn, .int .i64 xt], acT)] wc) := ⟨j, S, by have := HJ.out; omega, HOK.out.mono (by omega), HM.out, HR.out⟩
        clear HR e1 e2
        go_wp2
        go_meet
        exact ⟨by first | rfl | simp, HE.out⟩
      · have hd : decide (0 ≤ on ∧ on < (m : Int)) = false := by simpa using hin
        rw [hd]
        have HT : Hid (on < 0 ∨ (S.length : Int) ≤ on) := by show _ ∨ _; have := HM.out; omega
        have HS : Hid (Ok (k + 1) S) := HOK.out.mono (by omega)
        clear hd hin
        go_wp2_with fail
        refine (HR.out.readE fun F h => said_no h HT.out).mono ?_
        rintro e X ⟨rfl, hX⟩
        subst hX
        have HE : Hid (Fin w a d (k + 1) m [(bv, #[.int .u8 (u : Int), .int .i8 on, .int .i64 xn, .int .i64 xt], acT)] wc) := ⟨j, S, by have := HJ.out; omega, HS.out, HM.out, HR.out⟩
        clear HR
        go_wp2
        go_meet
        exact ⟨by first | rfl | simp, HE.out⟩
end Go.Proofs.Ytcainkobdkaaeaa
