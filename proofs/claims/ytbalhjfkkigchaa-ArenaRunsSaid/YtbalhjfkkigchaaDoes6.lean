/-
  An act, on both arenas: they answer alike.
-/
import Derived.Test.YtbalhjfkkigchaaDoes
import Derived.Deep.Cut
namespace Go.Proofs.Ytbalhjfkkigchaa
open Go.ChangeShapes Go.WideShapes Go.ChangeAt Go.RowKit
set_option linter.unusedVariables false
set_option linter.unusedSimpArgs false
set_option maxRecDepth 20000

set_option maxHeartbeats 8000000 in
theorem does_6 {w wr : World} {F G : Nat → Prop} {p a b k : Nat} {S D : As} {rv : Value} {rs : List Int} {K0 : List (Nat × Array Value × TypeId)} (hK0 : ∀ x ∈ K0, x.2.2 ≠ 83) (h : PI w F G p a b S D rv rs K0 wr) (hI : Inv k S D) (hk : k ≤ 60) (hrs : rs.length ≤ k) (u t : Nat) (raw ii : Int) (ol nw : Nat) (sx sy : Bool) (sks sws : List Int) (hwf : Ac.wf ⟨(u : Int), (t : Int), raw, ii, (ol : Int), (nw : Int), ⟨sx, sy, sks, sws⟩⟩) (A B : Option Addr) (n c m d : Nat) (hc : u % 9 = 6) :
    Calls Try.prog 13 #[ptr p, actv ⟨(u : Int), (t : Int), raw, ii, (ol : Int), (nw : Int), ⟨sx, sy, sks, sws⟩⟩ A n c B m d] wr (Did w p a b (k + 1) K0) := by
  obtain ⟨T, L, c0, rfl⟩ := h.row.shape
  have hu : u < 256 := by have := hwf.do_; simp at this; omega
  have hol : ol < 256 := by have := hwf.old; simp at this; omega
  have hnw : nw < 256 := by have := hwf.now; simp at this; omega
  have hii : -128 ≤ ii ∧ ii ≤ 127 := hwf.i
  have HWF := Lib.hid hwf
  have HIN := Lib.hid hI
  obtain ⟨o4, ho4⟩ : ∃ o4, ol % 4 = o4 := ⟨_, rfl⟩
  obtain ⟨n4, hn4⟩ : ∃ n4, nw % 4 = n4 := ⟨_, rfl⟩
  have ho4' : (ol : Int) % 4 = (o4 : Int) := by omega
  have hn4' : (nw : Int) % 4 = (n4 : Int) := by omega
  have u9 : (u : Int) % 9 = 6 := by omega
  have ho44 : o4 < 4 := by omega
  have hn44 : n4 < 4 := by omega
  have HH := Lib.hid h
  have HRS := Lib.hid hrs
  clear h hI hrs hwf hc ho4 hn4
  obtain ⟨bx, hbx⟩ : ∃ bx, wr.heap.size = bx := ⟨_, rfl⟩
  obtain ⟨W0, hW0, hP0⟩ : ∃ W0 : World, wr.alloc (.cells #[.int .u8 (u : Int), .int .u8 (t : Int), .int .i64 raw, .int .i8 ii, .int .u8 (ol : Int), .int .u8 (nw : Int), .bool sx, .bool sy, .slice A n c, .slice B m d] 38) = W0 ∧ PI w F G p a b S D (.slice T L c0) rs ((bx, #[.int .u8 (u : Int), .int .u8 (t : Int), .int .i64 raw, .int .i8 ii, .int .u8 (ol : Int), .int .u8 (nw : Int), .bool sx, .bool sy, .slice A n c, .slice B m d], 38) :: K0) W0 := ⟨_, rfl, by rw [← hbx]; exact HH.out.add _ _ (by decide) (by decide)⟩
  have HP0 := Lib.hid hP0
  obtain ⟨x0, x1, x2, x3, x4, x5, x6, x7, x8, x9⟩ := ten_cells (HP0.out.keep _ (List.mem_cons_self ..)).1
  have hpl : p < W0.heap.size := HP0.out.lt
  clear hP0 HH
  go_enter Try.func13, Try.ntmps13
  go_wp2_with fail
  (try rw [hW0]); (try rw [hbx])
  clear hW0 hbx
  refine (on_walk HP0.out (by have := HRS.out; omega) ⟨(u : Int), (t : Int), raw, ii, (ol : Int), (nw : Int), ⟨sx, sy, sks, sws⟩⟩ HWF.out A B n c m d).mono ?_
  rintro e w1 ⟨r, rfl, b1⟩
  have HP1 := Lib.hid (HP0.out.next b1)
  clear HP0 b1 x0 x1 x2 x3 x4 x5 x6 x7 x8 x9
  obtain ⟨d0, d1, d2⟩ := HP1.out.cells
  obtain ⟨lD, PD, QD, hD⟩ := HP1.out.doc
  have HD := Lib.hid hD
  clear hD
  go_wp2_with fail
  have hokD := HIN.out.okD (by omega)
  refine (atD_walk HD.out r hokD.len hokD.cnt hokD.flt).mono ?_
  clear hokD
  rintro e w2 (⟨i, rfl, hh, b2⟩ | ⟨rfl, hno, hA2, oo2⟩)
  · obtain ⟨pp, hpS, hpD, hpu, hpm⟩ := inv_both HIN.out hh
    have hD2 := HD.out.below b2
    obtain ⟨⟨p', vv⟩, hx, hp'⟩ := hD2.at_ hpD
    simp only at hp'
    subst hp'
    have hmx := hD2.mem _ (List.mem_of_getElem? hx)
    obtain ⟨pv, kv, zv, wv⟩ := vv
    obtain ⟨P1, P2, P3, rfl⟩ : ∃ A n c, pv = .slice A n c := hmx.ps.shape
    obtain ⟨K1, K2, K3, rfl⟩ : ∃ A n c, kv = .slice A n c := hmx.ks.shape
    obtain ⟨Z1, Z2, Z3, rfl⟩ : ∃ A n c, zv = .slice A n c := hmx.zs.shape
    obtain ⟨V1, V2, V3, rfl⟩ : ∃ A n c, wv = .slice A n c := hmx.ws.shape
    obtain ⟨y0, y1, y2, y3⟩ := hD2.head1
    obtain ⟨g, gc, rfl, hg2, hFg, hil, e0, e1, e2, e3, e4, e5, e6, e7, e8, e9, hz⟩ := hD2.cells1 hx
    simp only at e0 e1 e2 e3 e4 e5 e6 e7 e8 e9
    rw [hpu] at e1
    have hP2 := HP1.out.next b2
    obtain ⟨d0, d1, d2⟩ := hP2.cells
    have hpl2 : p < w2.heap.size := hP2.lt
    have hbl2 : b < w2.heap.size := hD2.lta
    have HP2 := Lib.hid hP2
    have HD2 := Lib.hid hD2
    have HX := Lib.hid hx
    have HMX := Lib.hid hmx
    have hok := Lib.hid (HIN.out.okS (by omega))
    have HPS := Lib.hid hpS
    have HPU := Lib.hid hpu
    have HPM := Lib.hid hpm
    have HPD := Lib.hid hpD
    clear hP2 hD2 hx hmx HP1 HD hpD hh b2 hpS hpu hpm hz
    obtain ⟨x0, x1, x2, x3, x4, x5, x6, x7, x8, x9⟩ := ten_cells (HP2.out.keep _ (List.mem_cons_self ..)).1
    have hbxl : bx < w2.heap.size := World.block_lt_of_cell? w2 _ x0
    have i0 : (0 : Int) ≤ (i : Int) := by omega
    have i1 : (i : Int) < (lD.length : Int) := by omega
    go_upto_region 13 with fail
    obtain ⟨bs, hbs⟩ : ∃ bs, w2.heap.size = bs := ⟨_, rfl⟩
    obtain ⟨W3, hW3, hP3⟩ : ∃ W3 : World, w2.alloc (.cells #[.int .i64 (p'.cnt : Int), .bool true, .bool p'.nd.inn, .bool p'.nd.tag, .slice P1 P2 P3, .slice K1 K2 K3, .slice Z1 Z2 Z3, .slice V1 V2 V3, .int .i64 p'.info, .bool p'.mark] 83) = W3 ∧ PI w F G p a b S D (.slice T L c0) rs ((bs, #[.int .i64 (p'.cnt : Int), .bool true, .bool p'.nd.inn, .bool p'.nd.tag, .slice P1 P2 P3, .slice K1 K2 K3, .slice Z1 Z2 Z3, .slice V1 V2 V3, .int .i64 p'.info, .bool p'.mark], 83) :: (bx, #[.int .u8 (u : Int), .int .u8 (t : Int), .int .i64 raw, .int .i8 ii, .int .u8 (ol : Int), .int .u8 (nw : Int), .bool sx, .bool sy, .slice A n c, .slice B m d], 38) :: K0) W3 := ⟨_, rfl, by rw [← hbs]; exact HP2.out.add _ _ (by decide) (by decide)⟩
    have HP3 := Lib.hid hP3
    have hbsw : w.heap.size ≤ bs := by have := HP2.out.below.size; omega
    have HD3 := Lib.hid (HD2.out.below (w' := W3) (by rw [← hW3]; exact below_new _ _))
    (try rw [hW3]); (try rw [hbs])
    clear hW3 hbs hP3 HD2 HP2 x0 x1 x2 x3 x4 x5 x6 x7 x8 x9 e0 e1 e2 e3 e4 e5 e6 e7 e8 e9 y0 y1 y2 y3 d0 d1 d2
    obtain ⟨x0, x1, x2, x3, x4, x5, x6, x7, x8, x9⟩ := ten_cells (HP3.out.keep _ (List.mem_cons_of_mem _ (List.mem_cons_self ..))).1
    go_quiet (fail)
    obtain ⟨X, hX, hbX⟩ : ∃ X : World, W3.drewN nq = X ∧ Below W3.heap.size W3 X := ⟨_, rfl, below_drewN (Below.refl _ _) _⟩
    rw [hX]
    clear hX
    have HPX := Lib.hid (HP3.out.next hbX)
    clear x0 x1 x2 x3 x4 x5 x6 x7 x8 x9
    obtain ⟨x0, x1, x2, x3, x4, x5, x6, x7, x8, x9⟩ := ten_cells (HPX.out.keep _ (List.mem_cons_of_mem _ (List.mem_cons_self ..))).1
    obtain ⟨d0, d1, s0, s1, s2, s3, s4, s5, s6, s7, s8, s9, -⟩ := pi_reads HPX.out
    have HDX := Lib.hid (HD3.out.below hbX)
    have HF : Hid (∀ w', Below X.heap.size X w' → (w'.cell? ⟨p, 0, none⟩ = some (ptr a) ∧ w'.cell? ⟨p, 1, none⟩ = some (ptr b) ∧ w'.cell? ⟨bs, 0, none⟩ = some (.int .i64 (p'.cnt : Int)) ∧ w'.cell? ⟨bs, 1, none⟩ = some (.bool true) ∧ w'.cell? ⟨bs, 2, none⟩ = some (.bool p'.nd.inn) ∧ w'.cell? ⟨bs, 3, none⟩ = some (.bool p'.nd.tag) ∧ w'.cell? ⟨bs, 4, none⟩ = some (.slice P1 P2 P3) ∧ w'.cell? ⟨bs, 5, none⟩ = some (.slice K1 K2 K3) ∧ w'.cell? ⟨bs, 6, none⟩ = some (.slice Z1 Z2 Z3) ∧ w'.cell? ⟨bs, 7, none⟩ = some (.slice V1 V2 V3) ∧ w'.cell? ⟨bs, 8, none⟩ = some (.int .i64 p'.info) ∧ w'.cell? ⟨bs, 9, none⟩ = some (.bool p'.mark) ∧ w'.cell? ⟨bx, 3, none⟩ = some (.int .i8 ii))) := fun w' h => pi_reads (HPX.out.next h)
    have hiw : ¬ ((i : Int) < 0) := by omega
    rcases (Int.lt_or_le ii 0) with hi0 | hi0
    all_goals
      by_cases hio : p'.info = (o4 : Int)
      · have hio2 : (p'.info == (o4 : Int)) = true := by simpa using hio
        have HIO := Lib.hid hio
        clear hio
        go_wp2_with fail
        refine (swapInfo_yes HPX.out.arn hok.out HPS.out HPU.out HPM.out (o4 : Int) (n4 : Int) HIO.out).mono ?_
        rintro e w4 ⟨rfl, h4, o4'⟩
        have HD4 := Lib.hid (HDX.out.only o4' (fun c hG hF => HPX.out.dis c hF hG))
        obtain ⟨F4, hP4⟩ := HPX.out.progA h4 o4'
        have HP4 := Lib.hid hP4
        clear h4 o4' hP4 d0 d1 s0 s1 s2 s3 s4 s5 s6 s7 s8 s9
        obtain ⟨d0, d1, s0, s1, s2, s3, s4, s5, s6, s7, s8, s9, -⟩ := pi_reads HP4.out
        obtain ⟨z9, hO5, -, hnG, hP5⟩ := HP4.out.setB hK0 hbsw 8 (.int .i64 (n4 : Int))
        have HP5 := Lib.hid hP5
        have HD5 := Lib.hid (HD4.out.only hO5 (fun c hG e => hnG (e ▸ hG)))
        clear hP5 hO5
        go_upto_region 45 with fail
        obtain ⟨Y, hY, HPY, HDY⟩ : ∃ Y : World, w4.setCell ⟨bs, 8, none⟩ (.int .i64 (n4 : Int)) = Y ∧ Hid (PI w F4 G p a b _ D (.slice T L c0) rs ((bs, #[.int .i64 (p'.cnt : Int), .bool true, .bool p'.nd.inn, .bool p'.nd.tag, .slice P1 P2 P3, .slice K1 K2 K3, .slice Z1 Z2 Z3, .slice V1 V2 V3, .int .i64 (n4 : Int), .bool p'.mark], 83) :: (bx, #[.int .u8 (u : Int), .int .u8 (t : Int), .int .i64 raw, .int .i8 ii, .int .u8 (ol : Int), .int .u8 (nw : Int), .bool sx, .bool sy, .slice A n c, .slice B m d], 38) :: K0) Y) ∧ Hid (Ar true G Y b D lD (.slice (some ⟨g, 0, none⟩) lD.length gc) QD) := ⟨_, rfl, HP5.out, HD5.out⟩
        rw [hY]
        have HXY := HX
        clear hY d0 d1 s0 s1 s2 s3 s4 s5 s6 s7 s8 s9 x0 x1 x2 x3 x4 x5 x6 x7 x8 x9 z9
        obtain ⟨q0, q1, q2, q3⟩ := HDY.out.head1
        obtain ⟨d0, d1, s0, s1, s2, s3, s4, s5, s6, s7, s8, s9, -⟩ := pi_reads HPY.out
        obtain ⟨g9, gc9, hP9, hgY, _, _, e0, e1, e2, e3, e4, e5, e6, e7, e8, e9, hz⟩ := HDY.out.cells1 HXY.out
        injection hP9 with hP9 _ hP9c
        injection hP9 with hP9
        injection hP9 with hP9
        subst hP9 hP9c
        simp only at e0 e1 e2 e3 e4 e5 e6 e7 e8 e9
        obtain ⟨Z, hZ, hAZ, hOZ⟩ := HDY.out.setTen HXY.out { p' with info := (n4 : Int) } rfl rfl
        simp only [HPU.out] at hZ
        have HZ := Lib.hid hZ
        obtain ⟨G9, hP9⟩ := HPY.out.docA ⟨_, _, _, hAZ⟩ hOZ
        have HPZ := Lib.hid hP9
        clear hZ hAZ hOZ hP9
        have HC : Hid (∀ w', Below Y.heap.size Y w' → (w'.cell? ⟨p, 1, none⟩ = some (ptr b) ∧ w'.cell? ⟨b, 0, none⟩ = some (.slice (some ⟨g, 0, none⟩) lD.length gc) ∧ w'.cell? ⟨bs, 0, none⟩ = some (.int .i64 (p'.cnt : Int)) ∧ w'.cell? ⟨bs, 1, none⟩ = some (.bool true) ∧ w'.cell? ⟨bs, 2, none⟩ = some (.bool p'.nd.inn) ∧ w'.cell? ⟨bs, 3, none⟩ = some (.bool p'.nd.tag) ∧ w'.cell? ⟨bs, 4, none⟩ = some (.slice P1 P2 P3) ∧ w'.cell? ⟨bs, 5, none⟩ = some (.slice K1 K2 K3) ∧ w'.cell? ⟨bs, 6, none⟩ = some (.slice Z1 Z2 Z3) ∧ w'.cell? ⟨bs, 7, none⟩ = some (.slice V1 V2 V3) ∧ w'.cell? ⟨bs, 8, none⟩ = some (.int .i64 (n4 : Int)) ∧ w'.cell? ⟨bs, 9, none⟩ = some (.bool p'.mark))) := fun w' h => ⟨below_read h d1, below_read h q0, below_read h s0, below_read h s1, below_read h s2, below_read h s3, below_read h s4, below_read h s5, below_read h s6, below_read h s7, below_read h s8, below_read h s9⟩
        refine region_T 10 (fun w' => w'.cell? ⟨p, 1, none⟩ = some (ptr b) ∧ w'.cell? ⟨b, 0, none⟩ = some (.slice (some ⟨g, 0, none⟩) lD.length gc) ∧ w'.cell? ⟨bs, 0, none⟩ = some (.int .i64 (p'.cnt : Int)) ∧ w'.cell? ⟨bs, 1, none⟩ = some (.bool true) ∧ w'.cell? ⟨bs, 2, none⟩ = some (.bool p'.nd.inn) ∧ w'.cell? ⟨bs, 3, none⟩ = some (.bool p'.nd.tag) ∧ w'.cell? ⟨bs, 4, none⟩ = some (.slice P1 P2 P3) ∧ w'.cell? ⟨bs, 5, none⟩ = some (.slice K1 K2 K3) ∧ w'.cell? ⟨bs, 6, none⟩ = some (.slice Z1 Z2 Z3) ∧ w'.cell? ⟨bs, 7, none⟩ = some (.slice V1 V2 V3) ∧ w'.cell? ⟨bs, 8, none⟩ = some (.int .i64 (n4 : Int)) ∧ w'.cell? ⟨bs, 9, none⟩ = some (.bool p'.mark)) (by kernel_rfl) ?_
        have hC := HC.out Y.drew (Below.refl _ Y).drew
        refine takeT (i := 0) (v := ?_) rfl (by kernel_rfl) (by kernel_rfl) (by kernel_rfl) (by kernel_rfl) (fun _ _ _ h => h) hC (by rfl) ?_ ?_
        rotate_left
        · intro w hSw; (try dsimp only at hSw); go_simp; try (with_reducible rfl)
        try simp only [Act.put, List.setIfInBounds_toArray, List.set_cons_zero, List.set_cons_succ]
        refine takeT (i := 1) (v := ?_) rfl (by kernel_rfl) (by kernel_rfl) (by kernel_rfl) (by kernel_rfl) (fun _ _ _ h => h) hC (by rfl) ?_ ?_
        rotate_left
        · intro w hSw; (try dsimp only at hSw); go_simp; try (with_reducible rfl)
        try simp only [Act.put, List.setIfInBounds_toArray, List.set_cons_zero, List.set_cons_succ]
        refine takeT (i := 2) (v := ?_) rfl (by kernel_rfl) (by kernel_rfl) (by kernel_rfl) (by kernel_rfl) (fun _ _ _ h => h) hC (by rfl) ?_ ?_
        rotate_left
        · intro w hSw; (try dsimp only at hSw); go_simp; try (with_reducible rfl)
        try simp only [Act.put, List.setIfInBounds_toArray, List.set_cons_zero, List.set_cons_succ]
        refine takeT (i := 3) (v := ?_) rfl (by kernel_rfl) (by kernel_rfl) (by kernel_rfl) (by kernel_rfl) (fun _ _ _ h => h) hC (by rfl) ?_ ?_
        rotate_left
        · intro w hSw; (try dsimp only at hSw); go_simp; try (with_reducible rfl)
        try simp only [Act.put, List.setIfInBounds_toArray, List.set_cons_zero, List.set_cons_succ]
        refine takeT (i := 4) (v := ?_) rfl (by kernel_rfl) (by kernel_rfl) (by kernel_rfl) (by kernel_rfl) (fun _ _ _ h => h) hC (by rfl) ?_ ?_
        rotate_left
        · intro w hSw; (try dsimp only at hSw); go_simp; try (with_reducible rfl)
        try simp only [Act.put, List.setIfInBounds_toArray, List.set_cons_zero, List.set_cons_succ]
        refine takeT (i := 5) (v := ?_) rfl (by kernel_rfl) (by kernel_rfl) (by kernel_rfl) (by kernel_rfl) (fun _ _ _ h => h) hC (by rfl) ?_ ?_
        rotate_left
        · intro w hSw; (try dsimp only at hSw); go_simp; try (with_reducible rfl)
        try simp only [Act.put, List.setIfInBounds_toArray, List.set_cons_zero, List.set_cons_succ]
        refine takeT (i := 6) (v := ?_) rfl (by kernel_rfl) (by kernel_rfl) (by kernel_rfl) (by kernel_rfl) (fun _ _ _ h => h) hC (by rfl) ?_ ?_
        rotate_left
        · intro w hSw; (try dsimp only at hSw); go_simp; try (with_reducible rfl)
        try simp only [Act.put, List.setIfInBounds_toArray, List.set_cons_zero, List.set_cons_succ]
        refine takeT (i := 7) (v := ?_) rfl (by kernel_rfl) (by kernel_rfl) (by kernel_rfl) (by kernel_rfl) (fun _ _ _ h => h) hC (by rfl) ?_ ?_
        rotate_left
        · intro w hSw; (try dsimp only at hSw); go_simp; try (with_reducible rfl)
        try simp only [Act.put, List.setIfInBounds_toArray, List.set_cons_zero, List.set_cons_succ]
        refine takeT (i := 8) (v := ?_) rfl (by kernel_rfl) (by kernel_rfl) (by kernel_rfl) (by kernel_rfl) (fun _ _ _ h => h) hC (by rfl) ?_ ?_
        rotate_left
        · intro w hSw; (try dsimp only at hSw); go_simp; try (with_reducible rfl)
        try simp only [Act.put, List.setIfInBounds_toArray, List.set_cons_zero, List.set_cons_succ]
        have t0 := hz (i * 10)
        have t1 := hz (i * 10 + 1)
        have t2 := hz (i * 10 + 2)
        have t3 := hz (i * 10 + 3)
        have t4 := hz (i * 10 + 4)
        have t5 := hz (i * 10 + 5)
        have t6 := hz (i * 10 + 6)
        have t7 := hz (i * 10 + 7)
        have t8 := hz (i * 10 + 8)
        have t9 := hz (i * 10 + 9)
        refine oneT (i := 9) (by kernel_rfl) rfl (by rfl) (fun K hK => ?_)
        go_simp
        refine hK.out _ _ (fun _ => hC) ?_
        clear hK K
        try simp only [Act.put, List.setIfInBounds_toArray, List.set_cons_zero, List.set_cons_succ]
        refine oneT (i := 10) (by kernel_rfl) rfl (by rfl) (fun K hK => ?_)
        go_simp
        refine hK.out _ _ (fun h => absurd rfl h) ?_
        clear hK K
        refine doneT (by kernel_rfl) ?_
        go_wp2
        go_ret
        rw [HZ.out]
        exact Did.of (HPZ.out.next (Below.refl _ _).drew) (HIN.out.set HPS.out HPU.out HPU.out rfl) (by have := HRS.out; omega)
      · have hio2 : (p'.info == (o4 : Int)) = false := by simpa using hio
        have HIO := Lib.hid hio
        clear hio
        go_wp2_with fail
        refine (swapInfo_not HPX.out.arn hok.out HPS.out HPU.out HPM.out (o4 : Int) (n4 : Int) HIO.out).mono ?_
        rintro e w4 ⟨rfl, rfl⟩
        go_upto_region 45 with fail
        obtain ⟨Y, hY, HPY, HDY⟩ : ∃ Y : World, X = Y ∧ Hid (PI w F G p a b S D (.slice T L c0) rs ((bs, #[.int .i64 (p'.cnt : Int), .bool true, .bool p'.nd.inn, .bool p'.nd.tag, .slice P1 P2 P3, .slice K1 K2 K3, .slice Z1 Z2 Z3, .slice V1 V2 V3, .int .i64 p'.info, .bool p'.mark], 83) :: (bx, #[.int .u8 (u : Int), .int .u8 (t : Int), .int .i64 raw, .int .i8 ii, .int .u8 (ol : Int), .int .u8 (nw : Int), .bool sx, .bool sy, .slice A n c, .slice B m d], 38) :: K0) Y) ∧ Hid (Ar true G Y b D lD (.slice (some ⟨g, 0, none⟩) lD.length gc) QD) := ⟨_, rfl, HPX.out, HDX.out⟩
        rw [hY]
        have HXY := HX
        clear hY d0 d1 s0 s1 s2 s3 s4 s5 s6 s7 s8 s9 x0 x1 x2 x3 x4 x5 x6 x7 x8 x9
        obtain ⟨q0, q1, q2, q3⟩ := HDY.out.head1
        obtain ⟨d0, d1, s0, s1, s2, s3, s4, s5, s6, s7, s8, s9, -⟩ := pi_reads HPY.out
        obtain ⟨g9, gc9, hP9, hgY, _, _, e0, e1, e2, e3, e4, e5, e6, e7, e8, e9, hz⟩ := HDY.out.cells1 HXY.out
        injection hP9 with hP9 _ hP9c
        injection hP9 with hP9
        injection hP9 with hP9
        subst hP9 hP9c
        simp only at e0 e1 e2 e3 e4 e5 e6 e7 e8 e9
        obtain ⟨Z, hZ, hAZ, hOZ⟩ := HDY.out.setTen HXY.out p' rfl rfl
        simp only [HPU.out] at hZ
        have HZ := Lib.hid hZ
        obtain ⟨G9, hP9⟩ := HPY.out.docA ⟨_, _, _, hAZ⟩ hOZ
        have HPZ := Lib.hid hP9
        clear hZ hAZ hOZ hP9
        have HC : Hid (∀ w', Below Y.heap.size Y w' → (w'.cell? ⟨p, 1, none⟩ = some (ptr b) ∧ w'.cell? ⟨b, 0, none⟩ = some (.slice (some ⟨g, 0, none⟩) lD.length gc) ∧ w'.cell? ⟨bs, 0, none⟩ = some (.int .i64 (p'.cnt : Int)) ∧ w'.cell? ⟨bs, 1, none⟩ = some (.bool true) ∧ w'.cell? ⟨bs, 2, none⟩ = some (.bool p'.nd.inn) ∧ w'.cell? ⟨bs, 3, none⟩ = some (.bool p'.nd.tag) ∧ w'.cell? ⟨bs, 4, none⟩ = some (.slice P1 P2 P3) ∧ w'.cell? ⟨bs, 5, none⟩ = some (.slice K1 K2 K3) ∧ w'.cell? ⟨bs, 6, none⟩ = some (.slice Z1 Z2 Z3) ∧ w'.cell? ⟨bs, 7, none⟩ = some (.slice V1 V2 V3) ∧ w'.cell? ⟨bs, 8, none⟩ = some (.int .i64 p'.info) ∧ w'.cell? ⟨bs, 9, none⟩ = some (.bool p'.mark))) := fun w' h => ⟨below_read h d1, below_read h q0, below_read h s0, below_read h s1, below_read h s2, below_read h s3, below_read h s4, below_read h s5, below_read h s6, below_read h s7, below_read h s8, below_read h s9⟩
        refine region_T 10 (fun w' => w'.cell? ⟨p, 1, none⟩ = some (ptr b) ∧ w'.cell? ⟨b, 0, none⟩ = some (.slice (some ⟨g, 0, none⟩) lD.length gc) ∧ w'.cell? ⟨bs, 0, none⟩ = some (.int .i64 (p'.cnt : Int)) ∧ w'.cell? ⟨bs, 1, none⟩ = some (.bool true) ∧ w'.cell? ⟨bs, 2, none⟩ = some (.bool p'.nd.inn) ∧ w'.cell? ⟨bs, 3, none⟩ = some (.bool p'.nd.tag) ∧ w'.cell? ⟨bs, 4, none⟩ = some (.slice P1 P2 P3) ∧ w'.cell? ⟨bs, 5, none⟩ = some (.slice K1 K2 K3) ∧ w'.cell? ⟨bs, 6, none⟩ = some (.slice Z1 Z2 Z3) ∧ w'.cell? ⟨bs, 7, none⟩ = some (.slice V1 V2 V3) ∧ w'.cell? ⟨bs, 8, none⟩ = some (.int .i64 p'.info) ∧ w'.cell? ⟨bs, 9, none⟩ = some (.bool p'.mark)) (by kernel_rfl) ?_
        have hC := HC.out Y.drew (Below.refl _ Y).drew
        refine takeT (i := 0) (v := ?_) rfl (by kernel_rfl) (by kernel_rfl) (by kernel_rfl) (by kernel_rfl) (fun _ _ _ h => h) hC (by rfl) ?_ ?_
        rotate_left
        · intro w hSw; (try dsimp only at hSw); go_simp; try (with_reducible rfl)
        try simp only [Act.put, List.setIfInBounds_toArray, List.set_cons_zero, List.set_cons_succ]
        refine takeT (i := 1) (v := ?_) rfl (by kernel_rfl) (by kernel_rfl) (by kernel_rfl) (by kernel_rfl) (fun _ _ _ h => h) hC (by rfl) ?_ ?_
        rotate_left
        · intro w hSw; (try dsimp only at hSw); go_simp; try (with_reducible rfl)
        try simp only [Act.put, List.setIfInBounds_toArray, List.set_cons_zero, List.set_cons_succ]
        refine takeT (i := 2) (v := ?_) rfl (by kernel_rfl) (by kernel_rfl) (by kernel_rfl) (by kernel_rfl) (fun _ _ _ h => h) hC (by rfl) ?_ ?_
        rotate_left
        · intro w hSw; (try dsimp only at hSw); go_simp; try (with_reducible rfl)
        try simp only [Act.put, List.setIfInBounds_toArray, List.set_cons_zero, List.set_cons_succ]
        refine takeT (i := 3) (v := ?_) rfl (by kernel_rfl) (by kernel_rfl) (by kernel_rfl) (by kernel_rfl) (fun _ _ _ h => h) hC (by rfl) ?_ ?_
        rotate_left
        · intro w hSw; (try dsimp only at hSw); go_simp; try (with_reducible rfl)
        try simp only [Act.put, List.setIfInBounds_toArray, List.set_cons_zero, List.set_cons_succ]
        refine takeT (i := 4) (v := ?_) rfl (by kernel_rfl) (by kernel_rfl) (by kernel_rfl) (by kernel_rfl) (fun _ _ _ h => h) hC (by rfl) ?_ ?_
        rotate_left
        · intro w hSw; (try dsimp only at hSw); go_simp; try (with_reducible rfl)
        try simp only [Act.put, List.setIfInBounds_toArray, List.set_cons_zero, List.set_cons_succ]
        refine takeT (i := 5) (v := ?_) rfl (by kernel_rfl) (by kernel_rfl) (by kernel_rfl) (by kernel_rfl) (fun _ _ _ h => h) hC (by rfl) ?_ ?_
        rotate_left
        · intro w hSw; (try dsimp only at hSw); go_simp; try (with_reducible rfl)
        try simp only [Act.put, List.setIfInBounds_toArray, List.set_cons_zero, List.set_cons_succ]
        refine takeT (i := 6) (v := ?_) rfl (by kernel_rfl) (by kernel_rfl) (by kernel_rfl) (by kernel_rfl) (fun _ _ _ h => h) hC (by rfl) ?_ ?_
        rotate_left
        · intro w hSw; (try dsimp only at hSw); go_simp; try (with_reducible rfl)
        try simp only [Act.put, List.setIfInBounds_toArray, List.set_cons_zero, List.set_cons_succ]
        refine takeT (i := 7) (v := ?_) rfl (by kernel_rfl) (by kernel_rfl) (by kernel_rfl) (by kernel_rfl) (fun _ _ _ h => h) hC (by rfl) ?_ ?_
        rotate_left
        · intro w hSw; (try dsimp only at hSw); go_simp; try (with_reducible rfl)
        try simp only [Act.put, List.setIfInBounds_toArray, List.set_cons_zero, List.set_cons_succ]
        refine takeT (i := 8) (v := ?_) rfl (by kernel_rfl) (by kernel_rfl) (by kernel_rfl) (by kernel_rfl) (fun _ _ _ h => h) hC (by rfl) ?_ ?_
        rotate_left
        · intro w hSw; (try dsimp only at hSw); go_simp; try (with_reducible rfl)
        try simp only [Act.put, List.setIfInBounds_toArray, List.set_cons_zero, List.set_cons_succ]
        have t0 := hz (i * 10)
        have t1 := hz (i * 10 + 1)
        have t2 := hz (i * 10 + 2)
        have t3 := hz (i * 10 + 3)
        have t4 := hz (i * 10 + 4)
        have t5 := hz (i * 10 + 5)
        have t6 := hz (i * 10 + 6)
        have t7 := hz (i * 10 + 7)
        have t8 := hz (i * 10 + 8)
        have t9 := hz (i * 10 + 9)
        refine oneT (i := 9) (by kernel_rfl) rfl (by rfl) (fun K hK => ?_)
        go_simp
        refine hK.out _ _ (fun _ => hC) ?_
        clear hK K
        try simp only [Act.put, List.setIfInBounds_toArray, List.set_cons_zero, List.set_cons_succ]
        refine oneT (i := 10) (by kernel_rfl) rfl (by rfl) (fun K hK => ?_)
        go_simp
        refine hK.out _ _ (fun h => absurd rfl h) ?_
        clear hK K
        refine doneT (by kernel_rfl) ?_
        go_wp2
        go_ret
        rw [HZ.out]
        exact Did.of (HPZ.out.next (Below.refl _ _).drew) (by rw [set_self HPD.out]; exact HIN.out.more (by omega)) (by have := HRS.out; omega)
  · have hnoS : ∀ i, ¬ Hit S r i := fun i hi => hno i (HIN.out.hit.1 hi)
    have HNO := Lib.hid hnoS
    obtain ⟨G2, hP2⟩ := HP1.out.docA hA2 oo2
    obtain ⟨bs, hbs⟩ : ∃ bs, w2.heap.size = bs := ⟨_, rfl⟩
    obtain ⟨W3, hW3, hP3⟩ : ∃ W3 : World, w2.alloc (.cells #[.int .i64 0, .bool false, .bool false, .bool false, .slice none 0 0, .slice none 0 0, .slice none 0 0, .slice none 0 0, .int .i64 0, .bool false] 83) = W3 ∧ PI w F G2 p a b S D.fault (.slice T L c0) rs ((bs, #[.int .i64 0, .bool false, .bool false, .bool false, .slice none 0 0, .slice none 0 0, .slice none 0 0, .slice none 0 0, .int .i64 0, .bool false], 83) :: (bx, #[.int .u8 (u : Int), .int .u8 (t : Int), .int .i64 raw, .int .i8 ii, .int .u8 (ol : Int), .int .u8 (nw : Int), .bool sx, .bool sy, .slice A n c, .slice B m d], 38) :: K0) W3 := ⟨_, rfl, by rw [← hbs]; exact hP2.add _ _ (by decide) (by decide)⟩
    have HP3 := Lib.hid hP3
    have hbsw : w.heap.size ≤ bs := by have := hP2.below.size; omega
    obtain ⟨x0, x1, x2, x3, x4, x5, x6, x7, x8, x9⟩ := ten_cells (HP3.out.keep _ (List.mem_cons_of_mem _ (List.mem_cons_self ..))).1
    obtain ⟨s0, s1, s2, s3, s4, s5, s6, s7, s8, s9⟩ := ten_cells (HP3.out.keep _ (List.mem_cons_self ..)).1
    clear hP3 hP2 hno hnoS hA2 oo2 HD HP1
    obtain ⟨d0, d1, d2⟩ := HP3.out.cells
    have hpl3 : p < W3.heap.size := HP3.out.lt
    have hok := Lib.hid (HIN.out.okS (by omega))
    go_upto_region 13 with fail
    (try rw [hW3]); (try rw [hbs])
    clear hW3 hbs
    clear s0 s1 s2 s3 s4 s5 s6 s7 s8 s9 d0 d1 d2
    go_quiet (fail)
    obtain ⟨X, hX, hbX⟩ : ∃ X : World, W3.drewN nq = X ∧ Below W3.heap.size W3 X := ⟨_, rfl, below_drewN (Below.refl _ _) _⟩
    rw [hX]
    clear hX
    have HPX := Lib.hid (HP3.out.next hbX)
    clear x0 x1 x2 x3 x4 x5 x6 x7 x8 x9
    obtain ⟨x0, x1, x2, x3, x4, x5, x6, x7, x8, x9⟩ := ten_cells (HPX.out.keep _ (List.mem_cons_of_mem _ (List.mem_cons_self ..))).1
    obtain ⟨d0, d1, s0, s1, s2, s3, s4, s5, s6, s7, s8, s9, -⟩ := pi_reads HPX.out
    have HF : Hid (∀ w', Below X.heap.size X w' → (w'.cell? ⟨p, 0, none⟩ = some (ptr a) ∧ w'.cell? ⟨p, 1, none⟩ = some (ptr b) ∧ w'.cell? ⟨bs, 0, none⟩ = some (.int .i64 0) ∧ w'.cell? ⟨bs, 1, none⟩ = some (.bool false) ∧ w'.cell? ⟨bs, 2, none⟩ = some (.bool false) ∧ w'.cell? ⟨bs, 3, none⟩ = some (.bool false) ∧ w'.cell? ⟨bs, 4, none⟩ = some (.slice none 0 0) ∧ w'.cell? ⟨bs, 5, none⟩ = some (.slice none 0 0) ∧ w'.cell? ⟨bs, 6, none⟩ = some (.slice none 0 0) ∧ w'.cell? ⟨bs, 7, none⟩ = some (.slice none 0 0) ∧ w'.cell? ⟨bs, 8, none⟩ = some (.int .i64 0) ∧ w'.cell? ⟨bs, 9, none⟩ = some (.bool false) ∧ w'.cell? ⟨bx, 3, none⟩ = some (.int .i8 ii))) := fun w' h => pi_reads (HPX.out.next h)
    go_wp2_with fail
    refine (swapInfo_no HPX.out.arn hok.out HNO.out (o4 : Int) (n4 : Int)).mono ?_
    rintro e w4 ⟨rfl, h4, o4'⟩
    obtain ⟨F4, hP4⟩ := HPX.out.progA h4 o4'
    have HP4 := Lib.hid hP4
    clear h4 o4' hP4
    go_wp2
    go_ret
    exact Did.of HP4.out HIN.out.fault (by have := HRS.out; omega)
end Go.Proofs.Ytbalhjfkkigchaa
