/-
  The law RecordRuns: its act 2.
-/
import Derived.Test.YtokheagoddmmiaaAct5
import Derived.Deep.CutBlock
import Derived.Deep.DeepCutAuto
import Derived.Deep.LoopGhost
namespace Go.Proofs.Ytokheagoddmmiaa
open Go.ChangeShapes Go.WideShapes Go.ChangeAt Go.RowKit
set_option linter.unusedVariables false
set_option linter.unusedSimpArgs false
set_option maxRecDepth 20000

set_option maxHeartbeats 8000000 in
theorem act_2 {w wc : World} {a M k L hc be bv n1 c1 m1 d1 u : Nat} {T A1 B1 : Option Addr} {F G : Nat → Prop} {l1 e1 : List It} {P1 : Value} {y : It} {mo on raw st nn iv kp wy od nw : Int} {ns is : List Int}
    (HR4 : Hid (RI w a M F G l1 e1 P1 (.slice T L hc) [(be, blkE y, enT), (bv, #[.int .u8 (u : Int), .int .i8 on, .int .i64 raw, .int .u8 st, .slice A1 n1 c1, .slice B1 m1 d1, .int .i64 kp, .int .i64 wy, .int .i64 od, .int .i64 nw], 34)] wc)) (HEO : Hid (EOK e1 nn iv y)) (HRL : Hid (Rel l1 e1)) (HK1 : Hid (l1.length ≤ k)) (HLE : Hid (e1.length = L)) (HM : Hid (mostOf mo = M)) (HS1 : Hid (Sl w A1 n1 c1 ns)) (HS2 : Hid (Sl w B1 m1 d1 is))
    (HBN : Hid (∀ z ∈ [((bv, #[.int .u8 (u : Int), .int .i8 on, .int .i64 raw, .int .u8 st, .slice A1 n1 c1, .slice B1 m1 d1, .int .i64 kp, .int .i64 wy, .int .i64 od, .int .i64 nw], 34) : Nat × Array Value × TypeId)], z.1 ≠ be)) (hs1 : n1 ≤ 20) (hs2 : m1 ≤ 20) (hL60 : L ≤ 60) (hk60 : k ≤ 60) (hu : u < 256)
    (K : Act → World → Prop) (Q : Exit → Act → World → Prop) (s1 s2 s3 s4 s7 s13 s14 s15 s16 s17 s18 s19 s20 s21 s22 s23 s24 s25 s26 s27 s28 s29 s30 s31 s32 s33 s34 s35 s36 s37 s38 s39 s40 s41 s42 s43 s44 s45 s46 s47 s48 s49 s50 s51 s52 s53 s54 s55 s56 s58 s59 s60 s61 s62 s63 s64 s65 s66 s67 s68 s69 s70 s71 s72 s73 s74 s75 s76 s77 s78 s79 s80 s81 s82 s83 s84 s85 s86 s87 s88 s89 s90 s91 s92 s93 s94 s95 s96 s97 s98 s99 s100 s101 s102 s103 s104 s105 s106 s107 s108 s109 s110 s111 s112 s113 s114 s115 s116 s117 s118 s119 s120 s121 s122 s123 s124 s125 s126 s127 s128 s129 s130 s131 s132 s133 s134 s135 s136 s137 s138 s139 s140 s141 s142 s143 s144 s145 s146 s147 s148 s149 s150 s151 s152 s153 s154 s155 s156 s157 s158 s159 s160 s161 s162 s163 s164 s165 s166 s167 s168 s169 s170 : Value)
    (hK : ∀ (t6 t13 t14 t15 t26 t27 t28 t29 t30 t31 t32 t33 t34 t35 t36 t37 t38 t39 t40 t41 t42 t43 t44 t45 t46 t47 t48 t49 t50 t51 t52 t53 t54 t55 t56 t57 t58 t59 t60 t61 t62 t63 t64 t65 t66 t67 t68 t69 t70 t71 t72 t73 t74 t75 t76 t77 t78 t79 t80 t81 t82 t83 t84 t85 t86 t87 t88 t89 t90 t91 t92 t93 t94 t95 t96 t97 t98 t99 t100 t101 t102 t103 t104 t105 t106 t107 t108 t109 t110 t111 t112 t113 t114 t115 t116 t117 t118 t119 t120 t121 t122 t123 t124 t125 t126 t127 t128 t129 t130 t131 t132 t133 t134 t135 t136 t137 t138 t139 t140 t141 t142 t143 t144 t145 t146 t147 t148 t149 t150 t151 t152 t153 t154 t155 t156 t157 t158 t159 t160 t161 t162 t163 t164 t165 : Value) (wz : World), (∃ (T' : Option Addr) (L' hc' : Nat), t6 = .slice T' L' hc' ∧ Hid (Fin w a M k u iv be (bv, #[.int .u8 (u : Int), .int .i8 on, .int .i64 raw, .int .u8 st, .slice A1 n1 c1, .slice B1 m1 d1, .int .i64 kp, .int .i64 wy, .int .i64 od, .int .i64 nw], 34) L' (.slice T' L' hc') wz)) → K ⟨(.int .i64 mo :: s1 :: s2 :: s3 :: s4 :: ptr a :: t6 :: s7 :: .pointer (some ⟨bv, 0, none⟩) :: .int .i64 nn :: .int .i64 iv :: .pointer (some ⟨be, 0, none⟩) :: .bool true :: t13 :: t14 :: t15 :: s16 :: s17 :: s18 :: s19 :: s20 :: s21 :: s22 :: s23 :: s24 :: s25 :: t26 :: t27 :: t28 :: t29 :: t30 :: t31 :: t32 :: t33 :: t34 :: t35 :: t36 :: t37 :: t38 :: t39 :: t40 :: t41 :: t42 :: t43 :: t44 :: t45 :: t46 :: t47 :: t48 :: t49 :: t50 :: t51 :: t52 :: t53 :: t54 :: t55 :: t56 :: t57 :: t58 :: t59 :: t60 :: t61 :: t62 :: t63 :: t64 :: t65 :: t66 :: t67 :: t68 :: t69 :: t70 :: t71 :: t72 :: t73 :: t74 :: t75 :: t76 :: t77 :: t78 :: t79 :: t80 :: t81 :: t82 :: t83 :: t84 :: t85 :: t86 :: t87 :: t88 :: t89 :: t90 :: t91 :: t92 :: t93 :: t94 :: t95 :: t96 :: t97 :: t98 :: t99 :: t100 :: t101 :: t102 :: t103 :: t104 :: t105 :: t106 :: t107 :: t108 :: t109 :: t110 :: t111 :: t112 :: t113 :: t114 :: t115 :: t116 :: t117 :: t118 :: t119 :: t120 :: t121 :: t122 :: t123 :: t124 :: t125 :: t126 :: t127 :: t128 :: t129 :: t130 :: t131 :: t132 :: t133 :: t134 :: t135 :: t136 :: t137 :: t138 :: t139 :: t140 :: t141 :: t142 :: t143 :: t144 :: t145 :: t146 :: t147 :: t148 :: t149 :: t150 :: t151 :: t152 :: t153 :: t154 :: t155 :: t156 :: t157 :: t158 :: t159 :: t160 :: t161 :: t162 :: t163 :: t164 :: t165 :: s166 :: s167 :: s168 :: s169 :: s170 :: []).toArray, []⟩ wz)
    (h6 : u % 6 = 2) : Code.wp Try.prog switchC (Exit.then K Q) ⟨(.int .i64 mo :: s1 :: s2 :: s3 :: s4 :: ptr a :: .slice T L hc :: s7 :: .pointer (some ⟨bv, 0, none⟩) :: .int .i64 nn :: .int .i64 iv :: .pointer (some ⟨be, 0, none⟩) :: .bool true :: s13 :: s14 :: s15 :: s16 :: s17 :: s18 :: s19 :: s20 :: s21 :: s22 :: s23 :: s24 :: s25 :: s26 :: s27 :: s28 :: s29 :: s30 :: s31 :: s32 :: s33 :: s34 :: s35 :: s36 :: s37 :: s38 :: s39 :: s40 :: s41 :: s42 :: s43 :: s44 :: s45 :: s46 :: s47 :: s48 :: s49 :: s50 :: s51 :: s52 :: s53 :: s54 :: s55 :: s56 :: .int .u8 ((u : Int) % 6) :: s58 :: s59 :: s60 :: s61 :: s62 :: s63 :: s64 :: s65 :: s66 :: s67 :: s68 :: s69 :: s70 :: s71 :: s72 :: s73 :: s74 :: s75 :: s76 :: s77 :: s78 :: s79 :: s80 :: s81 :: s82 :: s83 :: s84 :: s85 :: s86 :: s87 :: s88 :: s89 :: s90 :: s91 :: s92 :: s93 :: s94 :: s95 :: s96 :: s97 :: s98 :: s99 :: s100 :: s101 :: s102 :: s103 :: s104 :: s105 :: s106 :: s107 :: s108 :: s109 :: s110 :: s111 :: s112 :: s113 :: s114 :: s115 :: s116 :: s117 :: s118 :: s119 :: s120 :: s121 :: s122 :: s123 :: s124 :: s125 :: s126 :: s127 :: s128 :: s129 :: s130 :: s131 :: s132 :: s133 :: s134 :: s135 :: s136 :: s137 :: s138 :: s139 :: s140 :: s141 :: s142 :: s143 :: s144 :: s145 :: s146 :: s147 :: s148 :: s149 :: s150 :: s151 :: s152 :: s153 :: s154 :: s155 :: s156 :: s157 :: s158 :: s159 :: s160 :: s161 :: s162 :: s163 :: s164 :: s165 :: s166 :: s167 :: s168 :: s169 :: s170 :: []).toArray, []⟩ wc := by
    conv => arg 2; whnf
    obtain ⟨y0, y1, y2, y3, y4, y5, y6, y7, y8, y9⟩ := ten_cells HR4.out.second
    go_cut [6, 12, 13, 14, 15, 57] from 26 to 165 (fun hv ok _ _ _ _ wz => ok = .bool true ∧ ∃ (T' : Option Addr) (L' hc' : Nat), hv = .slice T' L' hc' ∧ Hid (Fin w a M k u iv be (bv, #[.int .u8 (u : Int), .int .i8 on, .int .i64 raw, .int .u8 st, .slice A1 n1 c1, .slice B1 m1 d1, .int .i64 kp, .int .i64 wy, .int .i64 od, .int .i64 nw], 34) L' (.slice T' L' hc') wz))
    case rest =>
      obtain ⟨rfl, hfin⟩ := hcut
      exact hK _ _ _ _ _ _ _ _ _ _ _ _ _ _ _ _ _ _ _ _ _ _ _ _ _ _ _ _ _ _ _ _ _ _ _ _ _ _ _ _ _ _ _ _ _ _ _ _ _ _ _ _ _ _ _ _ _ _ _ _ _ _ _ _ _ _ _ _ _ _ _ _ _ _ _ _ _ _ _ _ _ _ _ _ _ _ _ _ _ _ _ _ _ _ _ _ _ _ _ _ _ _ _ _ _ _ _ _ _ _ _ _ _ _ _ _ _ _ _ _ _ _ _ _ _ _ _ _ _ _ _ _ _ _ _ _ _ _ _ _ _ _ _ _ _ hfin
    case first =>
      obtain ⟨r', s', b', A2, n2, c2, B2, m2, d2, hyy, hsA, hsB, hn2, hm2⟩ := HEO.out.form HR4.out
      subst hyy
      obtain ⟨ns', is', kp', wy', od', nw'⟩ := r'
      have HSA := Lib.hid hsA
      have HSB := Lib.hid hsB
      have HL1 : Hid (l1.length ≤ 100000) := by show _ ≤ _; have := HK1.out; omega
      clear hsA hsB hK
      obtain ⟨x0, x1, x2, x3, x4, x5, x6, x7⟩ := eight_cells HR4.out.first
      obtain ⟨z0, z1, z2, z3, z4, z5, z6, z7⟩ := eight_frees HR4.out.first
      have u6 : (u : Int) % 6 = 2 := by omega
      have HFIN : Hid (∀ w', Below wc.heap.size wc w' → Fin w a M k u iv be (bv, #[.int .u8 (u : Int), .int .i8 on, .int .i64 raw, .int .u8 st, .slice A1 n1 c1, .slice B1 m1 d1, .int .i64 kp, .int .i64 wy, .int .i64 od, .int .i64 nw], 34) L (.slice T L hc) w') := fun w' hb => Fin.same (HR4.out.next hb) HRL.out HEO.out HK1.out HLE.out (by omega)
      have HF : Hid (∀ w', Below wc.heap.size wc w' → w'.cell? ⟨be, 6, none⟩ = some (.int .u8 s')) := fun w' h => below_read h x6
      have hss : (s' == s') = true := by simp
      clear h6 x0 x1 x2 x3 x4 x5 x6 x7 z0 z1 z2 z3 z4 z5 z6 z7 y0 y1 y2 y3 y4 y5 y6 y7 y8 y9
      go_wp2_with fail
      go_region_held3 (fun w' => w'.cell? ⟨be, 6, none⟩ = some (.int .u8 s')) (first | (refine HF.out _ ?_; go_grown; done) | go_keep) (first
        | (go_at_call 17; refine (state_e (HR4.out.tb.below (by go_grown)) HRL.out HEO.out HL1.out).mono ?_; rintro e w7 ⟨rfl, rfl⟩))
      all_goals go_wp2
      all_goals go_meet
      all_goals exact ⟨by first | rfl | simp, T, L, hc, rfl, HFIN.out _ (by first | exact (Below.refl _ _).drew | exact Below.refl _ _)⟩
end Go.Proofs.Ytokheagoddmmiaa
