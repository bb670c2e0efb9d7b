/-
  The walk of InnerKeeps: it returns true, for every input, and changes nothing that was there.
-/
import Derived.Test.YtpbbkfpapmomhaaKeepsA
namespace Go.Proofs.Ytpbbkfpapmomhaa
open Go.ChangeShapes Go.WideShapes Go.ChangeAt Go.RowKit
set_option linter.unusedVariables false
set_option linter.unusedSimpArgs false

set_option maxRecDepth 100000 in
set_option maxHeartbeats 2000000 in
theorem innerKeeps_walk (A : Option Addr) (n c : Nat) (zs : List Int) (p : Nat) (x : Int) (w : World) (h : Sl w A n c zs) (hp : p < 256) :
    Calls Try.prog 13 #[.slice A n c, .int .u8 (p : Int), .int .i64 x] w fun e w' => e = .returned (.bool true) ∧ Below w.heap.size w w' := by
  by_cases hn : n ≤ 40
  case neg =>
    have hn' : (40 : Int) < (n : Int) := by omega
    go_enter Try.func13, Try.ntmps13
    go_wp2_with fail
    refine (awake_walk w).mono ?_
    rintro e w1 ⟨rfl, hb1⟩
    go_wp2
    go_ret
    exact ⟨rfl, hb1⟩
  have hn' : ¬ (40 : Int) < (n : Int) := by omega
  have hlr : (risingL zs).length ≤ 40 := by unfold risingL; have := risingTo_length zs zs.length; have := h.len; omega
  go_enter Try.func13, Try.ntmps13
  go_wp2_with fail
  refine (awake_walk w).mono ?_
  rintro e w1 ⟨rfl, p1⟩
  have h1 := h.below p1
  have hA := asc1_rising zs
  go_wp2_with fail
  refine (of_walk A n c zs 1 w1 h1 (by omega) (by omega) (by omega)).mono ?_
  rintro e w2 ⟨u, v, rfl, g1, g2, p2⟩
  obtain ⟨F1, N1, f1, rfl⟩ := g1.shape
  obtain ⟨F2, N2, f2, rfl⟩ := g2.shape
  have hlk : ((risingL zs).map (·.1)).length = (risingL zs).length := List.length_map _
  rw [← hlk] at g2 hlr
  clear hlk h h1
  generalize (risingL zs).map (·.1) = ks at *
  have hN1 : N1 = ks.length := g1.sl.len
  have hN2 : N2 = ks.length + 1 := g2.sl.len.trans (waysTo_length 1 ks.length)
  have HN1 := Lib.hid hN1
  have HN2 := Lib.hid hN2
  have b1 : N1 ≤ 40 := by omega
  have b2 : N2 ≤ 41 := by omega
  clear hN1 hN2
  have HA := Lib.hid hA
  clear hA
  go_wp2_with fail
  obtain ⟨X, Wn, hX, hWn, bX, HWX⟩ : ∃ (X : World) (Wn : Nat), w2.alloc (.cells #[.slice F1 N1 f1, .slice F2 N2 f2] 26) = X ∧ w2.heap.size = Wn ∧ Below w2.heap.size w2 X ∧ Box X Wn (.slice F1 N1 f1) (.slice F2 N2 f2) := ⟨_, _, rfl, rfl, below_new _ _, Box.new _ rfl _ _ _⟩
  rw [hX, hWn]
  clear hX hWn
  have hbX : Below w.heap.size w X := p1.trans ((p2.trans (bX.mono p2.size)).mono p1.size)
  have s1 := (g1.next bX).sl
  have s2 := (g2.next bX).sl
  generalize hws : waysTo 1 ks.length = ws at *
  have HWS := Lib.hid hws
  clear hws g1 g2 p2 bX
  have HLW : Hid (N2 = ws.length) := s2.len
  refine (copy_walk F1 F2 N1 f1 N2 f2 ks ws X s1 s2 (by omega) (by omega)).mono ?_
  rintro e w3 ⟨u, v, rfl, h1, h2, p3⟩
  obtain ⟨G1, M1, i1, rfl⟩ := h1.shape
  obtain ⟨G2, M2, i2, rfl⟩ := h2.shape
  have st1 := St.new h1 h2 p3 rfl
  clear h1 h2
  obtain ⟨c0, c1⟩ := HWX.below p3
  have sW : Wn < w3.heap.size := World.block_lt_of_cell? w3 _ c0
  have z1 : ks.length + [1, 2, 3].length ≤ 100000 := by simp; have := HN1.out; omega
  have z2 : ws.length + [1, 2, 3].length ≤ 100000 := by simp; have := HLW.out; omega
  have HZ3 : Hid (([1, 2, 3] : List Int).length = 3) := rfl
  clear c0 c1
  go_wp2_with (first
    | (at_builtin; refine pushN rowK (base := X.heap.size) rfl (.tmp 29) (.tmp 30) rfl _ ks rfl (st1.alloc _).keys (some ⟨w3.heap.size + 1, 0, none⟩) 3 3 [1, 2, 3] rfl (sl_trio (c_new (by simp) rfl) (c_new (by simp) rfl) (c_new (by simp) rfl)) z1 (st1.alloc _).size ?_
       intro u4 w4 hr4 hg4
       have st4 := (st1.alloc _).pushK hr4 hg4
       obtain ⟨E1, L1, e1, rfl⟩ := hr4.shape
       have j0 := st4.cell0
       have j1 := st4.cell1
       have j2 := st4.free 0
       have q4 := st4.lt
       have st5 := st4.set0 (.slice E1 L1 e1)
       clear hr4 hg4)
    | (at_builtin; refine pushN rowR (base := X.heap.size) rfl (.tmp 34) (.tmp 35) rfl _ ws rfl (st5.alloc _).ways (some ⟨w4.heap.size, 0, none⟩) 3 3 [1, 2, 3] rfl (sl_trio (c_new (by simp) rfl) (c_new (by simp) rfl) (c_new (by simp) rfl)) z2 (st5.alloc _).size ?_
       intro u6 w6 hr6 hg6
       have st6 := (st5.alloc _).pushR hr6 hg6
       obtain ⟨E2, L2, e2, rfl⟩ := hr6.shape
       have j0 := st6.cell0
       have j1 := st6.cell1
       have j2 := st6.free 1
       have st7 := st6.set1 (.slice E2 L2 e2)
       have ST7 := Lib.hid st7
       clear hr6 hg6 st7 st6))
  obtain ⟨Y, Rm, hY, hRm, st⟩ : ∃ (Y : World) (Rm : Nat), w6.setCell ⟨w3.heap.size, 1, none⟩ (.slice E2 L2 e2) = Y ∧ w3.heap.size = Rm ∧ St X Rm (.slice E1 L1 e1) (.slice E2 L2 e2) (.slice E1 L1 e1) (.slice E2 L2 e2) (ks ++ [1, 2, 3]) (ws ++ [1, 2, 3]) Y := ⟨_, _, rfl, rfl, ST7.out⟩
  rw [hY, hRm]
  have hWR : Wn < Rm := by omega
  clear hY hRm ST7 st1 st4 st5 j0 j1 j2 q4 sW p3
  have sl1 := st.keys.sl
  have sl2 := st.ways.sl
  have HL1 : Hid (L1 = N1 + 3) := by show _ = _; rw [sl1.len, HN1.out]; simp
  have HL2 : Hid (L2 = N2 + 3) := by show _ = _; rw [sl2.len, HLW.out]; simp
  obtain ⟨A1, hA1, hr1⟩ := cut_upto rowK sl1 N1 (by rw [HL1.out]; omega)
  obtain ⟨A2, hA2, hr2⟩ := cut_upto rowR sl2 N2 (by rw [HL2.out]; omega)
  have eK : (ks ++ [1, 2, 3]).take N1 = ks := by rw [HN1.out]; simp
  rw [eK] at hA1
  clear eK
  have eW : (ws ++ [1, 2, 3]).take N2 = ws := by rw [HLW.out]; simp
  rw [eW] at hA2
  clear eW
  obtain ⟨d0, d1⟩ := HWX.below st.below
  have o0 := st.cell0
  have o1 := st.cell1
  have qR := st.lt
  have qW : Wn < Y.heap.size := by omega
  have nR : Rm ≠ Y.heap.size := by omega
  have nW : Wn ≠ Y.heap.size := by omega
  have nR' : Y.heap.size ≠ Rm := by omega
  have nW' : Y.heap.size ≠ Wn := by omega
  have HF : Hid (∀ w', Below Y.heap.size Y w' → (w'.cell? ⟨Wn, 0, none⟩ = some (.slice F1 N1 f1) ∧ w'.cell? ⟨Wn, 1, none⟩ = some (.slice F2 N2 f2) ∧ w'.cell? ⟨Rm, 0, none⟩ = some (.slice E1 L1 e1) ∧ w'.cell? ⟨Rm, 1, none⟩ = some (.slice E2 L2 e2))) := fun w' h => ⟨below_read h d0, below_read h d1, below_read h o0, below_read h o1⟩
  go_region_held3 (fun w' => w'.cell? ⟨Wn, 0, none⟩ = some (.slice F1 N1 f1) ∧ w'.cell? ⟨Wn, 1, none⟩ = some (.slice F2 N2 f2) ∧ w'.cell? ⟨Rm, 0, none⟩ = some (.slice E1 L1 e1) ∧ w'.cell? ⟨Rm, 1, none⟩ = some (.slice E2 L2 e2)) (first | (refine HF.out _ ?_; go_grown; done) | go_keep) (fail)
  obtain ⟨V, Nv, hV, hNv, bV, HN⟩ : ∃ (V : World) (Nv : Nat), (Y.alloc (.cells #[.slice A1 N1 e1, .slice A2 N2 e2] 26)).drew = V ∧ Y.heap.size = Nv ∧ Below Y.heap.size Y V ∧ Box V Nv (.slice A1 N1 e1) (.slice A2 N2 e2) := ⟨_, _, rfl, rfl, (below_new _ _).drew, Box.new Y rfl _ _ _⟩
  rw [hV, hNv]
  clear hV hNv HF nR nW nR' nW' qW qR o0 o1 d0 d1 hr1 hr2
  have pXV : Below X.heap.size X V := st.below.trans (bV.mono st.size)
  have hbV := hbX.trans (pXV.mono hbX.size)
  have HW := HWX.below pXV
  have HR : Box V Rm (.slice E1 L1 e1) (.slice E2 L2 e2) := Box.below ⟨st.cell0, st.cell1⟩ bV
  have k1 := hA1.below bV
  have k2 := hA2.below bV
  have m1 := sl1.below bV
  have m2 := sl2.below bV
  have v1 := s1.below pXV
  have v2 := s2.below pXV
  have HNM : Hid (N1 + 1 = N2) := by show _ = _; rw [HN1.out, HN2.out]
  clear hA1 hA2 sl1 sl2 s1 s2 bV st HWX
  have b3 : 0 < N2 := by have := HN2.out; omega
  have hat0 : p % N2 < N2 := Nat.mod_lt _ b3
  have hat : (p : Int) % (N2 : Int) = ((p % N2 : Nat) : Int) := by omega
  generalize hatt : p % N2 = at_ at *
  clear hatt
  have hnz : ((N2 : Int) == 0) = false := by rw [beq_eq_false_iff_ne]; omega
  obtain ⟨d0, d1⟩ := id HN
  go_wp2_with fail
  refine (halves_some A1 A2 N1 e1 N2 e2 ks ws V k1 k2 (by omega) HNM.out).mono ?_
  rintro e w8 ⟨x1, x2, x3, x4, key, rfl, r1, r2, r3, r4, p8⟩
  obtain ⟨B1, n1, c1, rfl, _⟩ := r1.form
  obtain ⟨B2, n2, c2, rfl, _⟩ := r2.form
  obtain ⟨B3, n3, c3, rfl, _⟩ := r3.form
  obtain ⟨B4, n4, c4, rfl, _⟩ := r4.form
  go_wp2
  obtain ⟨Z, P, Q, hZ, hP, hQ, bZ, HP, HQ⟩ : ∃ (Z : World) (P Q : Nat), (w8.alloc (.cells #[.slice B1 n1 c1, .slice B2 n2 c2] 26)).alloc (.cells #[.slice B3 n3 c3, .slice B4 n4 c4] 26) = Z ∧ w8.heap.size = P ∧ w8.heap.size + 1 = Q ∧ Below w8.heap.size w8 Z ∧ Box Z P (.slice B1 n1 c1) (.slice B2 n2 c2) ∧ Box Z Q (.slice B3 n3 c3) (.slice B4 n4 c4) := ⟨_, _, _, rfl, rfl, rfl, ((Below.refl _ w8).alloc (Nat.le_refl _) _).alloc (by simp) _, (Box.new w8 rfl _ _ _).below (below_new _ _), Box.new _ (by simp) _ _ _⟩
  rw [hZ, hQ, hP]
  clear hZ hP hQ d0 d1
  have bVZ : Below V.heap.size V Z := p8.trans (bZ.mono p8.size)
  obtain ⟨d0, d1⟩ := HN.below bVZ
  obtain ⟨i2, i3⟩ := id HP
  obtain ⟨i4, i5⟩ := id HQ

  have HF : Hid (∀ w', Below Z.heap.size Z w' → (w'.cell? ⟨Nv, 0, none⟩ = some (.slice A1 N1 e1) ∧ w'.cell? ⟨Nv, 1, none⟩ = some (.slice A2 N2 e2) ∧ w'.cell? ⟨P, 0, none⟩ = some (.slice B1 n1 c1) ∧ w'.cell? ⟨P, 1, none⟩ = some (.slice B2 n2 c2) ∧ w'.cell? ⟨Q, 0, none⟩ = some (.slice B3 n3 c3) ∧ w'.cell? ⟨Q, 1, none⟩ = some (.slice B4 n4 c4))) := fun w' h => ⟨below_read h d0, below_read h d1, below_read h i2, below_read h i3, below_read h i4, below_read h i5⟩
  go_region_held3 (fun w' => w'.cell? ⟨Nv, 0, none⟩ = some (.slice A1 N1 e1) ∧ w'.cell? ⟨Nv, 1, none⟩ = some (.slice A2 N2 e2) ∧ w'.cell? ⟨P, 0, none⟩ = some (.slice B1 n1 c1) ∧ w'.cell? ⟨P, 1, none⟩ = some (.slice B2 n2 c2) ∧ w'.cell? ⟨Q, 0, none⟩ = some (.slice B3 n3 c3) ∧ w'.cell? ⟨Q, 1, none⟩ = some (.slice B4 n4 c4)) (first | (refine HF.out _ ?_; go_grown; done) | go_keep) (first
    | (go_at_call 22
       refine (with_some A1 A2 N1 e1 N2 e2 ks ws at_ _ ?_ ?_ (by omega) HNM.out hat0 9).mono ?_; (· exact k1.below (bVZ.trans (Below.mono (by go_grown) bVZ.size))); (· exact k2.below (bVZ.trans (Below.mono (by go_grown) bVZ.size))); rintro e w9 ⟨x1, x2, rfl, t5, t6, p9⟩; obtain ⟨B5, n5, c5, rfl, _⟩ := t5.form; obtain ⟨B6, n6, c6, rfl, _⟩ := t6.form
       have q9 : Below V.heap.size V w9 := bVZ.trans (Below.mono (Below.trans (by go_grown) p9) bVZ.size)
       have y9 : Below Z.heap.size Z w9 := Below.trans (by go_grown) p9
       have r5 := t5.lower bVZ.size
       have r6 := t6.lower bVZ.size
       clear t5 t6)
    | (go_at_call 25
       refine (absorb_some A1 A2 N1 e1 N2 e2 ks ws at_ _ ?_ ?_ (by omega) HNM.out hat0).mono ?_; (· exact k1.below q9); (· exact k2.below q9); rintro e w10 ⟨x1, x2, rfl, t7, t8, p10⟩; obtain ⟨B7, n7, c7, rfl, _⟩ := t7.form; obtain ⟨B8, n8, c8, rfl, _⟩ := t8.form
       have q10 := q9.trans (p10.mono q9.size)
       have y10 := y9.trans (p10.mono y9.size)
       have r7 := t7.lower q9.size
       have r8 := t8.lower q9.size
       clear t7 t8)
    | (go_at_call 28
       refine (join_some A1 A2 N1 e1 N2 e2 ks ws _ ?_ ?_ (by omega) HNM.out x).mono ?_; (· exact k1.below q10); (· exact k2.below q10); rintro e w11 ⟨x1, x2, rfl, t9, t10, p11⟩; obtain ⟨B9, n9, c9, rfl, _⟩ := t9.form; obtain ⟨B10, n10, c10, rfl, _⟩ := t10.form
       have q11 := q10.trans (p11.mono q10.size)
       have y11 := y10.trans (p11.mono y10.size)
       have r9 := t9.lower q10.size
       have r10 := t10.lower q10.size
       clear t9 t10)
    | (go_at_call 30
       refine (merged_some A1 A2 N1 e1 N2 e2 ks ws at_ _ ?_ ?_ (by omega) HNM.out hat0 9).mono ?_; (· exact k1.below q11); (· exact k2.below q11); rintro e w12 ⟨x1, x2, rfl, t11, t12, p12⟩; obtain ⟨B11, n11, c11, rfl, _⟩ := t11.form; obtain ⟨B12, n12, c12, rfl, _⟩ := t12.form
       have q12 := q11.trans (p12.mono q11.size)
       have y12 := y11.trans (p12.mono y11.size)
       have r11 := t11.lower q11.size
       have r12 := t12.lower q11.size
       clear t11 t12)
    | (go_at_call 31
       refine (turned_some A1 A2 N1 e1 N2 e2 ks ws at_ _ ?_ ?_ (by omega) HNM.out hat0 8 x 9).mono ?_; (· exact k1.below q12); (· exact k2.below q12); rintro e w13 ⟨x1, x2, rfl, t13, t14, p13⟩; obtain ⟨B13, n13, c13, rfl, _⟩ := t13.form; obtain ⟨B14, n14, c14, rfl, _⟩ := t14.form
       have q13 := q12.trans (p13.mono q12.size)
       have y13 := y12.trans (p13.mono y12.size)
       have r13 := t13.lower q12.size
       have r14 := t14.lower q12.size
       clear t13 t14)
    )
  have R1 := ((r1.next bZ).next y13)
  have R2 := ((r2.next bZ).next y13)
  have R3 := ((r3.next bZ).next y13)
  have R4 := ((r4.next bZ).next y13)
  have R5 := ((((r5.next p10).next p11).next p12).next p13)
  have R6 := ((((r6.next p10).next p11).next p12).next p13)
  have R7 := (((r7.next p11).next p12).next p13)
  have R8 := (((r8.next p11).next p12).next p13)
  have R9 := ((r9.next p12).next p13)
  have R10 := ((r10.next p12).next p13)
  have R11 := (r11.next p13)
  have R12 := (r12.next p13)
  have R13 := r13
  have R14 := r14
  have HI : Hid (InvK V (w13.alloc (.cells #[.slice B1 n1 c1, .slice B2 n2 c2, .slice B3 n3 c3, .slice B4 n4 c4, .slice B5 n5 c5, .slice B6 n6 c6, .slice B7 n7 c7, .slice B8 n8 c8, .slice B9 n9 c9, .slice B10 n10 c10, .slice B11 n11 c11, .slice B12 n12 c12, .slice B13 n13 c13, .slice B14 n14 c14] 26)) w13.heap.size #[.slice B1 n1 c1, .slice B2 n2 c2, .slice B3 n3 c3, .slice B4 n4 c4, .slice B5 n5 c5, .slice B6 n6 c6, .slice B7 n7 c7, .slice B8 n8 c8, .slice B9 n9 c9, .slice B10 n10 c10, .slice B11 n11 c11, .slice B12 n12 c12, .slice B13 n13 c13, .slice B14 n14 c14]) := by
    have ba := below_new w13 (.cells #[.slice B1 n1 c1, .slice B2 n2 c2, .slice B3 n3 c3, .slice B4 n4 c4, .slice B5 n5 c5, .slice B6 n6 c6, .slice B7 n7 c7, .slice B8 n8 c8, .slice B9 n9 c9, .slice B10 n10 c10, .slice B11 n11 c11, .slice B12 n12 c12, .slice B13 n13 c13, .slice B14 n14 c14] 26)
    refine ⟨q13.trans (ba.mono q13.size), h_new rfl, fun j v hj7 hj => ?_, fun j v hj7 hj => ?_⟩
    · match j, hj7, hj with
      | 0, _, hj => simp at hj; subst hj; exact R1.next ba
      | 1, _, hj => simp at hj; subst hj; exact R3.next ba
      | 2, _, hj => simp at hj; subst hj; exact R5.next ba
      | 3, _, hj => simp at hj; subst hj; exact R7.next ba
      | 4, _, hj => simp at hj; subst hj; exact R9.next ba
      | 5, _, hj => simp at hj; subst hj; exact R11.next ba
      | 6, _, hj => simp at hj; subst hj; exact R13.next ba
    · match j, hj7, hj with
      | 0, _, hj => simp at hj; subst hj; exact R2.next ba
      | 1, _, hj => simp at hj; subst hj; exact R4.next ba
      | 2, _, hj => simp at hj; subst hj; exact R6.next ba
      | 3, _, hj => simp at hj; subst hj; exact R8.next ba
      | 4, _, hj => simp at hj; subst hj; exact R10.next ba
      | 5, _, hj => simp at hj; subst hj; exact R12.next ba
      | 6, _, hj => simp at hj; subst hj; exact R14.next ba
  obtain ⟨vs, hvs⟩ : ∃ vs : Array Value, #[.slice B1 n1 c1, .slice B2 n2 c2, .slice B3 n3 c3, .slice B4 n4 c4, .slice B5 n5 c5, .slice B6 n6 c6, .slice B7 n7 c7, .slice B8 n8 c8, .slice B9 n9 c9, .slice B10 n10 c10, .slice B11 n11 c11, .slice B12 n12 c12, .slice B13 n13 c13, .slice B14 n14 c14] = vs := ⟨_, rfl⟩
  have hv14 : vs.size = 14 := by rw [← hvs]; rfl
  rw [hvs] at HI
  rw [hvs]
  clear hvs R1 r1 R2 r2 R3 r3 R4 r4 R5 r5 R6 r6 R7 r7 R8 r8 R9 r9 R10 r10 R11 r11 R12 r12 R13 r13 R14 r14 q9 q10 q11 q12 y9 y10 y11 y12 p9 p10 p11 p12 p13 HF d0 d1 i2 i3 i4 i5 bZ HP HQ
  generalize w13.heap.size = gL at *
  generalize w13.alloc (.cells vs 26) = Z1 at *
  have HV14 := Lib.hid hv14
  clear hv14
  go_wp2
  go_loopw [85] (fun i wr => ∃ k : Nat, k ≤ 7 ∧ i = .int .i64 (k : Int) ∧ Hid (InvK V wr gL vs)) (fun i _ => 7 - (intOf i).toNat)
  case atStart => exact ⟨0, by omega, rfl, HI⟩
  case round =>
    obtain ⟨k, hk, rfl, hI⟩ := hrel
    clear HI
    by_cases hlt : k < 7
    · obtain ⟨v, hv⟩ : ∃ v, vs[k * 2]? = some v := ⟨_, Array.getElem?_eq_getElem (by have := HV14.out; omega)⟩
      obtain ⟨v', hv'⟩ : ∃ v, vs[k * 2 + 1]? = some v := ⟨_, Array.getElem?_eq_getElem (by have := HV14.out; omega)⟩
      have d1 := (hI.out.cell (k * 2)).trans hv
      have d2 := (hI.out.cell (k * 2 + 1)).trans hv'
      obtain ⟨Ax, nx, cx, rfl, hnx, _⟩ := (hI.out.keys k v hlt hv).form
      obtain ⟨Ay, ny, cy, rfl, hny, _⟩ := (hI.out.ways k v' hlt hv').form
      have HV := Lib.hid hv
      have HV' := Lib.hid hv'
      have qL : gL < wr.heap.size := World.block_lt_of_cell? wr _ d1
      have kk : (k : Int) < 7 := by omega
      clear hv hv'
      have HB0 : Hid ((wr.alloc (.cells #[.slice Ax nx cx, .slice Ay ny cy] 26)).heap[wr.heap.size]? = some (.cells #[.slice Ax nx cx, .slice Ay ny cy] 26 (0, 0))) := h_new rfl
      have HI0 := Lib.hid (hI.out.alloc (.cells #[.slice Ax nx cx, .slice Ay ny cy] 26))
      go_wp2
      generalize wr.heap.size = xb at *
      generalize wr.alloc (.cells #[.slice Ax nx cx, .slice Ay ny cy] 26) = Z2 at *
      clear hI d1 d2 qL
      go_loopw [92] (fun i wq => ∃ j : Nat, j ≤ nx ∧ i = .int .i64 (j : Int) ∧ Hid (InvK V wq gL vs) ∧ Hid (wq.heap[xb]? = some (.cells #[.slice Ax nx cx, .slice Ay ny cy] 26 (0, 0)))) (fun i _ => nx - (intOf i).toNat)
      case atStart => exact ⟨0, by omega, rfl, HI0, HB0⟩
      case round =>
        clear HI0 HB0
        obtain ⟨j, hj, rfl, hJ, hB⟩ := hrel
        have e0 : wr.cell? ⟨xb, 0, none⟩ = some (.slice Ax nx cx) := by rw [cell_of_row wr xb 0 _ _ (0, 0) hB.out]; rfl
        have e1 : wr.cell? ⟨xb, 1, none⟩ = some (.slice Ay ny cy) := by rw [cell_of_row wr xb 1 _ _ (0, 0) hB.out]; rfl
        by_cases hjn : j < nx
        · obtain ⟨_, _, _, ev, _, hr⟩ := (hJ.out.keys k _ hlt HV.out).form
          injection ev with ea en ec
          subst ea en ec
          obtain ⟨g, rfl, hg, cur, hh, hsz⟩ := hr (by omega)
          obtain ⟨t1, c1⟩ : ∃ t, wr.cell? ⟨g, j, none⟩ = some t := ⟨_, by rw [cell_of_row wr g _ cur _ (0, 0) hh]; exact Array.getElem?_eq_getElem (by omega)⟩
          have f1 : wr.frozen? ⟨g, j, none⟩ = false := frozen_of_row wr g _ cur _ hh
          have HJ2 := Lib.hid (hJ.out.set_ j hg hh (by decide) (-1))
          have HB2 : Hid ((wr.setCell ⟨g, j, none⟩ (.int .i64 (-1))).heap[xb]? = some (.cells #[.slice (some ⟨g, 0, none⟩) nx cx, .slice Ay ny cy] 26 (0, 0))) := heap_kept hB.out hh (by decide)
          clear hh hsz hJ hB hr
          go_wp2
          go_roundw
          case rel => exact ⟨j + 1, by omega, by go_num, HJ2, HB2⟩
          case measure => simp [intOf]; omega
        · go_wp2
          go_loopw [103] (fun i wq => ∃ j : Nat, j ≤ ny ∧ i = .int .i64 (j : Int) ∧ Hid (InvK V wq gL vs) ∧ Hid (wq.heap[xb]? = some (.cells #[.slice Ax nx cx, .slice Ay ny cy] 26 (0, 0)))) (fun i _ => ny - (intOf i).toNat)
          case atStart => exact ⟨0, by omega, rfl, hJ, hB⟩
          case round =>
            clear hJ hB e0 e1 hj hjn
            obtain ⟨j, hj, rfl, hJ, hB⟩ := hrel
            have e0 : wr.cell? ⟨xb, 0, none⟩ = some (.slice Ax nx cx) := by rw [cell_of_row wr xb 0 _ _ (0, 0) hB.out]; rfl
            have e1 : wr.cell? ⟨xb, 1, none⟩ = some (.slice Ay ny cy) := by rw [cell_of_row wr xb 1 _ _ (0, 0) hB.out]; rfl
            by_cases hjn : j < ny
            · obtain ⟨_, _, _, ev, _, hr⟩ := (hJ.out.ways k _ hlt HV'.out).form
              injection ev with ea en ec
              subst ea en ec
              obtain ⟨g, rfl, hg, cur, hh, hsz⟩ := hr (by omega)
              obtain ⟨t1, c1⟩ : ∃ t, wr.cell? ⟨g, j, none⟩ = some t := ⟨_, by rw [cell_of_row wr g _ cur _ (0, 0) hh]; exact Array.getElem?_eq_getElem (by omega)⟩
              have f1 : wr.frozen? ⟨g, j, none⟩ = false := frozen_of_row wr g _ cur _ hh
              have HJ2 := Lib.hid (hJ.out.set_ j hg hh (by decide) (-1))
              have HB2 : Hid ((wr.setCell ⟨g, j, none⟩ (.int .i64 (-1))).heap[xb]? = some (.cells #[.slice Ax nx cx, .slice (some ⟨g, 0, none⟩) ny cy] 26 (0, 0))) := heap_kept hB.out hh (by decide)
              clear hh hsz hJ hB hr
              go_wp2
              go_roundw
              case rel => exact ⟨j + 1, by omega, by go_num, HJ2, HB2⟩
              case measure => simp [intOf]; omega
            · go_wp2
              go_roundw
              case rel => exact ⟨k + 1, by omega, by go_num, hJ⟩
              case measure => simp [intOf]; omega
    · have old := hI.out.old
      clear hI
      obtain ⟨g1, o1, rfl, hb1, y1⟩ := m1.at_ (k := ks.length) (by simp)
      obtain ⟨g1', o1', ee, _, y2⟩ := m1.at_ (k := ks.length + 2) (by simp)
      injection ee with ee
      injection ee with ee1 ee2
      subst ee1 ee2
      obtain ⟨g2, o2, rfl, hb2, y3⟩ := m2.at_ (k := ws.length) (by simp)
      obtain ⟨g2', o2', ee, _, y4⟩ := m2.at_ (k := ws.length + 2) (by simp)
      injection ee with ee
      injection ee with ee1 ee2
      subst ee1 ee2
      simp only [List.getElem_append_right (Nat.le_refl _), List.getElem_append_right (Nat.le_add_right _ _), Nat.sub_self, Nat.add_sub_cancel_left, List.getElem_cons_zero, List.getElem_cons_succ] at y1 y2 y3 y4
      have HN2' := Lib.hid (HN2.out.trans (congrArg (· + 1) HN1.out.symm))
      rw [← HN1.out] at y1 y2
      rw [← HLW.out] at y3 y4
      rw [show N1 + 2 = N2 + 1 from by have := HNM.out; omega] at y2
      obtain ⟨d0, d1⟩ := HN.below old
      obtain ⟨d2, d3⟩ := HW.below old
      have i7 : ¬ ((k : Int) < 7) := by omega
      go_wp2_with fail
      refine (alike_walk (k1.below old) (k2.below old) (v1.below old) (v2.below old) (by omega) (by omega)).mono ?_
      rintro e w14 ⟨rfl, p14⟩
      have old2 := old.trans (p14.mono old.size)
      obtain ⟨d4, d5⟩ := HR.below old2
      have z1 := below_read old2 y1
      have z2 := below_read old2 y2
      have z3 := below_read old2 y3
      have z4 := below_read old2 y4
      have hjj : (N2 : Int) - 1 = (N1 : Int) := by have := HNM.out; omega
      have a1 : (N1 : Int) < (L1 : Int) := by have := HL1.out; omega
      have a2 : (N2 : Int) + 1 < (L1 : Int) := by have := HL1.out; have := HNM.out; omega
      have a3 : (N2 : Int) < (L2 : Int) := by have := HL2.out; omega
      have a4 : (N2 : Int) + 2 < (L2 : Int) := by have := HL2.out; omega
      clear d0 d1 d2 d3 y1 y2 y3 y4
      go_wp2
      go_ret
      exact ⟨rfl, hbV.trans (old2.mono hbV.size)⟩

end Go.Proofs.Ytpbbkfpapmomhaa
