/-
  The law WorldNew.
-/
import Derived.Test.YtfloblofdkemlaaAk8
import Derived.Test.YtfloblofdkemlaaMk8
import Derived.Test.YtfloblofdkemlaaTailX
import Derived.Test.YtfloblofdkemlaaAw9
namespace Go.Proofs.Ytfloblofdkemlaa
open Go.ChangeShapes Go.WideShapes Go.ChangeAt Go.RowKit
set_option linter.unusedVariables false
set_option linter.unusedSimpArgs false
set_option maxRecDepth 20000

theorem new_hit (m L : Nat) : (newSig m L).ar.hit (mk 1 1) = some (1, entryPa) ∧ (newSig m L).ar.hit (mk 0 1) = some (0, rootPa) := by
  have p1 : (pl (mk 1 1)).toNat = 1 := by rw [pl_mk]; rfl
  have p0 : (pl (mk 0 1)).toNat = 0 := by rw [pl_mk]; rfl
  refine ⟨?_, ?_⟩
  · unfold As.hit
    rw [p1]
    rfl
  · unfold As.hit
    rw [p0]
    rfl
abbrev Zero5 (w : World) (g : Nat) : Prop := Five w g false false (.slice none 0 0) (.slice none 0 0) (.slice none 0 0)
/-- A node stored into a variable. -/
theorem put5 {V : World} {g lo : Nat} {u : World} (hz : Zero5 V g) (hb : Below lo u V) (hg : lo ≤ g) (x y : Bool) (p k z : Value) : ∃ V' : World, (((((V.setCell ⟨g, 0, none⟩ (.bool x)).setCell ⟨g, 1, none⟩ (.bool y)).setCell ⟨g, 2, none⟩ p).setCell ⟨g, 3, none⟩ k).setCell ⟨g, 4, none⟩ z) = V' ∧ Five V' g x y p k z ∧ Below lo u V' ∧ ∀ b, b ≠ g → V'.heap[b]? = V.heap[b]? := by
  refine ⟨_, rfl, five_put hz, below_five hb hg _ _ _ _ _, fun b e => ?_⟩
  rw [heap_setCell_other _ ⟨g, 4, none⟩ b _ (fun e2 => e e2), heap_setCell_other _ ⟨g, 3, none⟩ b _ (fun e2 => e e2), heap_setCell_other _ ⟨g, 2, none⟩ b _ (fun e2 => e e2), heap_setCell_other _ ⟨g, 1, none⟩ b _ (fun e2 => e e2), heap_setCell_other _ ⟨g, 0, none⟩ b _ (fun e2 => e e2)]
/-- What region 8 leaves. -/
def N8 (v2 : World) (d : Wd) (ge gr : Nat) (wx : World) : Prop := Below v2.heap.size v2 wx ∧ ∃ A c B c1 C c2 A' c' pv kv, Five wx ge true false (.slice A 0 c) (.slice B 0 c1) (.slice C 1 c2) ∧ Five wx gr false false (.slice A' 0 c') pv kv
set_option maxHeartbeats 8000000 in
theorem worldNew_walk (a b t n r : Int) (w : World) :
    Calls Try.prog 3 #[.int .i64 a, .int .i64 b, .int .i64 t, .int .i64 n, .int .i64 r] w fun e w' => e = .returned (.bool true) ∧ Below w.heap.size w w' := by
  by_cases hg : (2 ≤ a ∧ a ≤ 32) ∧ (2 * a - 1 ≤ b ∧ b ≤ 32) ∧ (1 ≤ t ∧ t ≤ 64) ∧ (2 ≤ n ∧ n ≤ 65536) ∧ (0 ≤ r ∧ r ≤ 65536)
  case neg =>
    have HN := Lib.hid (fun W => new_bad W hg)
    have HG := Lib.hid hg
    clear hg
    go_enter Try.func3, Try.ntmps3
    go_wp2_with fail
    refine (awake_walk w).mono ?_
    rintro e v1 ⟨rfl, b1⟩
    go_wp2_with fail
    refine (HN.out v1).mono ?_
    rintro e v2 ⟨rfl, rfl⟩
    go_upto_region 4 with fail
    go_cut [66] (fun v wx => v = .bool true ∧ v1 = wx)
    case first =>
      by_cases h1 : a < 2
      · go_wp2
        go_meet
        case rel => exact ⟨rfl, rfl⟩
      by_cases h2 : 32 < a
      · go_wp2
        go_meet
        case rel => exact ⟨rfl, rfl⟩
      have m1 : IntKind.i64.wrap (2 * a) = 2 * a := IntWalk.i64_in _ (by omega)
      have m2 : IntKind.i64.wrap (2 * a - 1) = 2 * a - 1 := IntWalk.i64_in _ (by omega)
      by_cases h3 : b < 2 * a - 1
      · go_wp2
        go_meet
        case rel => exact ⟨rfl, rfl⟩
      by_cases h4 : 32 < b
      · go_wp2
        go_meet
        case rel => exact ⟨rfl, rfl⟩
      by_cases h5 : t < 1
      · go_wp2
        go_meet
        case rel => exact ⟨rfl, rfl⟩
      by_cases h6 : 64 < t
      · go_wp2
        go_meet
        case rel => exact ⟨rfl, rfl⟩
      by_cases h7 : n < 2
      · go_wp2
        go_meet
        case rel => exact ⟨rfl, rfl⟩
      by_cases h8 : 65536 < n
      · go_wp2
        go_meet
        case rel => exact ⟨rfl, rfl⟩
      by_cases h9 : r < 0
      · go_wp2
        go_meet
        case rel => exact ⟨rfl, rfl⟩
      by_cases h10 : 65536 < r
      · go_wp2
        go_meet
        case rel => exact ⟨rfl, rfl⟩
      exact absurd ⟨⟨by omega, by omega⟩, ⟨by omega, by omega⟩, ⟨by omega, by omega⟩, ⟨by omega, by omega⟩, ⟨by omega, by omega⟩⟩ HG.out
    case rest =>
      obtain ⟨rfl, hwc⟩ := hcut
      subst hwc
      clear HN HG
      go_wp2
      go_ret
      exact ⟨rfl, b1⟩
  obtain ⟨ha, hb, ht, hn, hr⟩ := hg
  have m1 : IntKind.i64.wrap (2 * a) = 2 * a := IntWalk.i64_in _ (by omega)
  have m2 : IntKind.i64.wrap (2 * a - 1) = 2 * a - 1 := IntWalk.i64_in _ (by omega)
  have h1 : ¬ a < 2 := by omega
  have h2 : ¬ 32 < a := by omega
  have h3 : ¬ b < 2 * a - 1 := by omega
  have h4 : ¬ 32 < b := by omega
  have h5 : ¬ t < 1 := by omega
  have h6 : ¬ 64 < t := by omega
  have h7 : ¬ n < 2 := by omega
  have h8 : ¬ 65536 < n := by omega
  have h9 : ¬ r < 0 := by omega
  have h10 : ¬ 65536 < r := by omega
  obtain ⟨N, hNn⟩ : ∃ N : Nat, n = (N : Int) := ⟨n.toNat, by omega⟩
  obtain ⟨L, hLt⟩ : ∃ L : Nat, t = (L : Int) := ⟨t.toNat, by omega⟩
  have hN := Lib.hid (fun W => new_ok (r := r) W ha hb ht hn hr)
  subst hNn hLt
  have HBD : Hid (2 ≤ N ∧ N ≤ 65536 ∧ L ≤ 64) := by refine ⟨?_, ?_, ?_⟩ <;> omega
  clear ha hb ht hn hr
  go_enter Try.func3, Try.ntmps3
  go_wp2_with fail
  refine (awake_walk w).mono ?_
  rintro e v1 ⟨rfl, b1⟩
  go_wp2_with fail
  refine (hN.out v1).mono ?_
  intro e v2 hP
  rw [Int.toNat_natCast, Int.toNat_natCast] at hP
  obtain ⟨d, rfl, da, db, den, -, hO⟩ := Ow.new b1 hP
  clear hP hN b1
  have HO := Lib.hid hO
  obtain ⟨g0, g1, g2, g3, g4, g5⟩ := hO.cells
  rw [da] at g3
  rw [db] at g4
  rw [den] at g5
  have HQ : Hid (∀ (p : Int) q, Calls Try.prog 11 #[.int .i64 p, .int .u32 1] (v2.drewN q) fun e w'' => e = .returned (.int .i64 (mk p 1)) ∧ ∃ t, w'' = v2.drewN t) := fun p q => (of_walk p 1 (by omega) (v2.drewN q)).mono fun e w' h => ⟨h.1, q, h.2.symm⟩
  clear hO da db den
  have HE1 := Lib.hid (mk_range 1 1)
  generalize hm11 : mk 1 1 = e11 at *
  go_wp2_with fail
  go_quiet ((go_at_call 11; refine (HQ.out 1 _)))
  clear HQ
  have HLE : Hid (∀ V, Below v2.heap.size v2 V → Calls Try.prog 12 #[ptr d.A, .int .i64 e11] V fun e w' => (∃ A c B c1 C c2, e = .returned (ndv true false (.slice A 0 c) (.slice B 0 c1) (.slice C 1 c2))) ∧ Below V.heap.size V w') := by
    intro V hb
    obtain ⟨FW, p1, p2⟩ := (HO.out.bel hb).idle
    have hI := inv_new N L 0 HBD.out.2.1 HBD.out.2.2 (by omega)
    have hh := (new_hit N L).1
    rw [hm11] at hh
    refine (nxW_look p1 hI.fit.ok hh).mono ?_
    rintro e w' ⟨pv, kv, zv, rfl, s1, s2, s3, hb'⟩
    obtain ⟨A, c, rfl, _⟩ := s1.form
    obtain ⟨B, c1, rfl, _⟩ := s2.form
    obtain ⟨C, c2, rfl, _⟩ := s3.form
    exact ⟨⟨A, c, B, c1, C, c2, rfl⟩, hb'⟩
  have HLR : Hid (∀ V, Below v2.heap.size v2 V → Calls Try.prog 12 #[ptr d.A, .int .i64 (mk 0 1)] V fun e w' => (∃ A c B c1 C c2, e = .returned (ndv false false (.slice A 0 c) (.slice B 0 c1) (.slice C 0 c2))) ∧ Below V.heap.size V w') := by
    intro V hb
    obtain ⟨FW, p1, p2⟩ := (HO.out.bel hb).idle
    have hI := inv_new N L 0 HBD.out.2.1 HBD.out.2.2 (by omega)
    refine (nxW_look p1 hI.fit.ok (new_hit N L).2).mono ?_
    rintro e w' ⟨pv, kv, zv, rfl, s1, s2, s3, hb'⟩
    obtain ⟨A, c, rfl, _⟩ := s1.form
    obtain ⟨B, c1, rfl, _⟩ := s2.form
    obtain ⟨C, c2, rfl, _⟩ := s3.form
    exact ⟨⟨A, c, B, c1, C, c2, rfl⟩, hb'⟩
  have HC : Hid (∀ V, Below v2.heap.size v2 V → V.cell? ⟨d.W, 0, none⟩ = some (ptr d.A) ∧ V.cell? ⟨d.W, 5, none⟩ = some (.int .i64 e11)) := fun V hb => ⟨below_read hb g0, below_read hb g5⟩
  have HD1 : Hid (Below v2.heap.size v2 (v2.drewN nq)) := below_drewN (Below.refl _ v2) nq
  obtain ⟨V00, hV00⟩ : ∃ V00, v2.drewN nq = V00 := ⟨_, rfl⟩
  rw [hV00] at HD1
  rw [hV00]
  clear hV00 g1 g2 g3 g4
  go_upto_region 8 with fail
  go_cut [13, 14] (fun ve vr wx => ∃ ge gr : Nat, ve = ptr ge ∧ vr = ptr gr ∧ Hid (N8 v2 d ge gr wx))
  case first =>
   as_aux_lemma =>
    refine region_T (fun _ => false) (fun w' => w'.cell? ⟨d.W, 0, none⟩ = some (ptr d.A) ∧ w'.cell? ⟨d.W, 5, none⟩ = some (.int .i64 e11)) (by kernel_rfl) ?_
    obtain ⟨V0, hV0, hb0⟩ : ∃ V0 : World, V00.drew = V0 ∧ Below v2.heap.size v2 V0 := ⟨_, rfl, HD1.out.drew⟩
    rw [hV0]
    have hC := HC.out V0 hb0
    clear hV0 HD1 h1 h2 h3 h4 h5 h6 h7 h8 h9 h10 m1 m2
    refine takeX 0 103 (v := ?_) rfl rfl (by kernel_rfl) (by kernel_rfl) (by kernel_rfl) (by kernel_rfl) (by kernel_rfl) (fun _ _ _ _ h => h) hC (by rfl) ?_ ?_
    rotate_left
    · intro w hSw; (try dsimp only at hSw); go_simp; try (with_reducible rfl)
    simp only [List.setIfInBounds_toArray, List.set_cons_zero, List.set_cons_succ]
    refine takeX 1 104 (v := ?_) rfl rfl (by kernel_rfl) (by kernel_rfl) (by kernel_rfl) (by kernel_rfl) (by kernel_rfl) (fun _ _ _ _ h => h) hC (by rfl) ?_ ?_
    rotate_left
    · intro w hSw; (try dsimp only at hSw); go_simp; try (with_reducible rfl)
    simp only [List.setIfInBounds_toArray, List.set_cons_zero, List.set_cons_succ]
    refine takeX 2 105 (v := ?_) rfl rfl (by kernel_rfl) (by kernel_rfl) (by kernel_rfl) (by kernel_rfl) (by kernel_rfl) (fun _ _ _ _ h => h) hC (by rfl) ?_ ?_
    rotate_left
    · intro w hSw; (try dsimp only at hSw); go_simp; try (with_reducible rfl)
    simp only [List.setIfInBounds_toArray, List.set_cons_zero, List.set_cons_succ]
    refine takeX 3 106 (v := ?_) rfl rfl (by kernel_rfl) (by kernel_rfl) (by kernel_rfl) (by kernel_rfl) (by kernel_rfl) (fun _ _ _ _ h => h) hC (by rfl) ?_ ?_
    rotate_left
    · intro w hSw; (try dsimp only at hSw); go_simp; try (with_reducible rfl)
    simp only [List.setIfInBounds_toArray, List.set_cons_zero, List.set_cons_succ]
    refine takeX 4 107 (v := ?_) rfl rfl (by kernel_rfl) (by kernel_rfl) (by kernel_rfl) (by kernel_rfl) (by kernel_rfl) (fun _ _ _ _ h => h) hC (by rfl) ?_ ?_
    rotate_left
    · intro w hSw; (try dsimp only at hSw); go_simp; try (with_reducible rfl)
    simp only [List.setIfInBounds_toArray, List.set_cons_zero, List.set_cons_succ]
    refine takeX 5 108 (v := ?_) rfl rfl (by kernel_rfl) (by kernel_rfl) (by kernel_rfl) (by kernel_rfl) (by kernel_rfl) (fun _ _ _ _ h => h) hC (by rfl) ?_ ?_
    rotate_left
    · intro w hSw; (try dsimp only at hSw); go_simp; try (with_reducible rfl)
    simp only [List.setIfInBounds_toArray, List.set_cons_zero, List.set_cons_succ]
    refine takeX 6 109 (v := ?_) rfl rfl (by kernel_rfl) (by kernel_rfl) (by kernel_rfl) (by kernel_rfl) (by kernel_rfl) (fun _ _ _ _ h => h) hC (by rfl) ?_ ?_
    rotate_left
    · intro w hSw; (try dsimp only at hSw); go_simp; try (with_reducible rfl)
    simp only [List.setIfInBounds_toArray, List.set_cons_zero, List.set_cons_succ]
    refine takeX 7 110 (v := ?_) rfl rfl (by kernel_rfl) (by kernel_rfl) (by kernel_rfl) (by kernel_rfl) (by kernel_rfl) (fun _ _ _ _ h => h) hC (by rfl) ?_ ?_
    rotate_left
    · intro w hSw; (try dsimp only at hSw); go_simp; try (with_reducible rfl)
    simp only [List.setIfInBounds_toArray, List.set_cons_zero, List.set_cons_succ]
    refine takeX 9 112 (v := ?_) rfl rfl (by kernel_rfl) (by kernel_rfl) (by kernel_rfl) (by kernel_rfl) (by kernel_rfl) (fun _ _ _ _ h => h) hC (by rfl) ?_ ?_
    rotate_left
    · intro w hSw; (try dsimp only at hSw); go_simp; try (with_reducible rfl)
    simp only [List.setIfInBounds_toArray, List.set_cons_zero, List.set_cons_succ]
    refine takeX 10 113 (v := ?_) rfl rfl (by kernel_rfl) (by kernel_rfl) (by kernel_rfl) (by kernel_rfl) (by kernel_rfl) (fun _ _ _ _ h => h) hC (by rfl) ?_ ?_
    rotate_left
    · intro w hSw; (try dsimp only at hSw); go_simp; try (with_reducible rfl)
    simp only [List.setIfInBounds_toArray, List.set_cons_zero, List.set_cons_succ]
    refine takeX 11 114 (v := ?_) rfl rfl (by kernel_rfl) (by kernel_rfl) (by kernel_rfl) (by kernel_rfl) (by kernel_rfl) (fun _ _ _ _ h => h) hC (by rfl) ?_ ?_
    rotate_left
    · intro w hSw; (try dsimp only at hSw); go_simp; try (with_reducible rfl)
    simp only [List.setIfInBounds_toArray, List.set_cons_zero, List.set_cons_succ]
    refine takeX 12 115 (v := ?_) rfl rfl (by kernel_rfl) (by kernel_rfl) (by kernel_rfl) (by kernel_rfl) (by kernel_rfl) (fun _ _ _ _ h => h) hC (by rfl) ?_ ?_
    rotate_left
    · intro w hSw; (try dsimp only at hSw); go_simp; try (with_reducible rfl)
    simp only [List.setIfInBounds_toArray, List.set_cons_zero, List.set_cons_succ]
    clear hC
    refine threeT (i := 8) (j := 15) (l := 16) (by kernel_rfl) rfl rfl rfl (by rfl) (by rfl) (by rfl) (fun K hK => ?_) (fun K hK => ?_) (fun K hK => ?_)
    · go_simp
      refine (HLE.out V0 hb0).mono ?_
      rintro e V1 ⟨⟨Ae, ce, Be, ce1, Ce, ce2, rfl⟩, hbn⟩
      have hb1 : Below v2.heap.size v2 V1 := hb0.trans (hbn.mono hb0.size)
      refine hK.out _ _ (fun _ => HC.out V1 hb1) ?_
      clear hK K hbn
      try simp only [Act.put, List.setIfInBounds_toArray, List.set_cons_zero, List.set_cons_succ]
      refine threeT (i := 13) (j := 15) (l := 16) (by kernel_rfl) rfl rfl rfl (by rfl) (by rfl) (by rfl) (fun K hK => ?_) (fun K hK => ?_) (fun K hK => ?_)
      · go_simp
        refine (of_walk 0 1 (by omega) V1).mono ?_
        rintro e V2 ⟨rfl, hbn⟩
        have hb2 : Below v2.heap.size v2 V2 := hbn ▸ hb1
        refine hK.out _ _ (fun _ => HC.out V2 hb2) ?_
        clear hK K hbn
        try simp only [Act.put, List.setIfInBounds_toArray, List.set_cons_zero, List.set_cons_succ]
        refine threeT (i := 14) (j := 15) (l := 16) (by kernel_rfl) rfl rfl rfl (by rfl) (by rfl) (by rfl) (fun K hK => ?_) (fun K hK => ?_) (fun K hK => ?_)
        · go_simp
          refine (HLR.out V2 hb2).mono ?_
          rintro e V3 ⟨⟨Ar, cr, Br, cr1, Cr, cr2, rfl⟩, hbn⟩
          have hb3 : Below v2.heap.size v2 V3 := hb2.trans (hbn.mono hb2.size)
          refine hK.out _ _ (fun _ => HC.out V3 hb3) ?_
          clear hK K hbn
          try simp only [Act.put, List.setIfInBounds_toArray, List.set_cons_zero, List.set_cons_succ]
          refine twoT (i := 15) (j := 16) (by kernel_rfl) rfl rfl (by rfl) (by rfl) (fun K hK => ?_) (fun K hK => ?_)
          · go_simp
            obtain ⟨V4, g15, hX, hg, hbn, hz15⟩ : ∃ (X : World) (g : Nat), V3.alloc (.cells #[.bool false, .bool false, .slice none 0 0, .slice none 0 0, .slice none 0 0] 42) = X ∧ V3.heap.size = g ∧ Below V3.heap.size V3 X ∧ Zero5 X g := ⟨_, _, rfl, rfl, below_new _ _, Five.new _ rfl _ _ _ _ _⟩
            have hb4 : Below v2.heap.size v2 V4 := hb3.trans (hbn.mono hb3.size)
            have hlo15 : v2.heap.size ≤ g15 := by rw [← hg]; exact hb3.size
            (try rw [hX]); (try rw [hg])
            refine hK.out _ _ (fun _ => HC.out V4 hb4) ?_
            clear hK K hbn hX hg
            try simp only [Act.put, List.setIfInBounds_toArray, List.set_cons_zero, List.set_cons_succ]
            refine oneT (i := 16) (by kernel_rfl) rfl (by rfl) (fun K hK => ?_)
            go_simp
            obtain ⟨V5, g16, hX, hg, hbn, hz16⟩ : ∃ (X : World) (g : Nat), V4.alloc (.cells #[.bool false, .bool false, .slice none 0 0, .slice none 0 0, .slice none 0 0] 42) = X ∧ V4.heap.size = g ∧ Below V4.heap.size V4 X ∧ Zero5 X g := ⟨_, _, rfl, rfl, below_new _ _, Five.new _ rfl _ _ _ _ _⟩
            have hb5 : Below v2.heap.size v2 V5 := hb4.trans (hbn.mono hb4.size)
            have hlo16 : v2.heap.size ≤ g16 := by rw [← hg]; exact hb4.size
            have hlt15 : g15 < g16 := by rw [← hg]; exact (Array.getElem?_eq_some_iff.1 hz15).1
            have hz15 : Zero5 V5 g15 := (hbn.block g15 (Array.getElem?_eq_some_iff.1 hz15).1).trans hz15
            (try rw [hX]); (try rw [hg])
            refine hK.out _ _ (fun _ => HC.out V5 hb5) ?_
            clear hK K hbn hX hg
            try simp only [Act.put, List.setIfInBounds_toArray, List.set_cons_zero, List.set_cons_succ]
            as_aux_lemma =>
              have hne : g15 ≠ g16 := by omega
              obtain ⟨c0, c1, c2, c3, c4⟩ := hz15.cells
              have f0 : V5.frozen? ⟨g15, 0, none⟩ = false := frozen_of_row V5 g15 0 _ _ hz15
              have f1 : V5.frozen? ⟨g15, 1, none⟩ = false := frozen_of_row V5 g15 1 _ _ hz15
              have f2 : V5.frozen? ⟨g15, 2, none⟩ = false := frozen_of_row V5 g15 2 _ _ hz15
              have f3 : V5.frozen? ⟨g15, 3, none⟩ = false := frozen_of_row V5 g15 3 _ _ hz15
              have f4 : V5.frozen? ⟨g15, 4, none⟩ = false := frozen_of_row V5 g15 4 _ _ hz15
              obtain ⟨Y1, hY1, hF1, hbY1, hK1⟩ := put5 hz15 hb5 hlo15 true false (.slice Ae 0 ce) (.slice Be 0 ce1) (.slice Ce 1 ce2)
              have hz16' : Zero5 Y1 g16 := (hK1 g16 (fun e => hne e.symm)).trans hz16
              refine oneT (i := 17) (by kernel_rfl) rfl (by rfl) (fun K hK => ?_)
              go_simp
              (try rw [hY1])
              refine hK.out _ _ (fun _ => HC.out Y1 hbY1) ?_
              clear hK K c0 c1 c2 c3 c4 f0 f1 f2 f3 f4 hY1
              try simp only [Act.put, List.setIfInBounds_toArray, List.set_cons_zero, List.set_cons_succ]
              obtain ⟨c0, c1, c2, c3, c4⟩ := hz16'.cells
              have f0 : Y1.frozen? ⟨g16, 0, none⟩ = false := frozen_of_row Y1 g16 0 _ _ hz16'
              have f1 : Y1.frozen? ⟨g16, 1, none⟩ = false := frozen_of_row Y1 g16 1 _ _ hz16'
              have f2 : Y1.frozen? ⟨g16, 2, none⟩ = false := frozen_of_row Y1 g16 2 _ _ hz16'
              have f3 : Y1.frozen? ⟨g16, 3, none⟩ = false := frozen_of_row Y1 g16 3 _ _ hz16'
              have f4 : Y1.frozen? ⟨g16, 4, none⟩ = false := frozen_of_row Y1 g16 4 _ _ hz16'
              obtain ⟨Y2, hY2, hF2, hbY2, hK2⟩ := put5 hz16' hbY1 hlo16 false false (.slice Ar 0 cr) (.slice Br 0 cr1) (.slice Cr 0 cr2)
              have hF1' : Five Y2 g15 true false (.slice Ae 0 ce) (.slice Be 0 ce1) (.slice Ce 1 ce2) := (hK2 g15 hne).trans hF1
              refine oneT (i := 18) (by kernel_rfl) rfl (by rfl) (fun K hK => ?_)
              go_simp
              (try rw [hY2])
              refine hK.out _ _ (fun _ => HC.out Y2 hbY2) ?_
              clear hK K c0 c1 c2 c3 c4 f0 f1 f2 f3 f4 hY2
              try simp only [Act.put, List.setIfInBounds_toArray, List.set_cons_zero, List.set_cons_succ]
              have HN : Hid (N8 v2 d g15 g16 Y2) := ⟨hbY2, Ae, ce, Be, ce1, Ce, ce2, Ar, cr, _, _, hF1', hF2⟩
              refine doneT (by kernel_rfl) ?_
              clear hF1 hF2 hF1' hbY1 hbY2 hK1 hK2 hz15 hz16 hz16'
              go_wp2
              go_meet
              case rel => exact ⟨g15, g16, rfl, rfl, HN.out⟩
          · go_simp
            obtain ⟨V4, g16, hX, hg, hbn, hz16⟩ : ∃ (X : World) (g : Nat), V3.alloc (.cells #[.bool false, .bool false, .slice none 0 0, .slice none 0 0, .slice none 0 0] 42) = X ∧ V3.heap.size = g ∧ Below V3.heap.size V3 X ∧ Zero5 X g := ⟨_, _, rfl, rfl, below_new _ _, Five.new _ rfl _ _ _ _ _⟩
            have hb4 : Below v2.heap.size v2 V4 := hb3.trans (hbn.mono hb3.size)
            have hlo16 : v2.heap.size ≤ g16 := by rw [← hg]; exact hb3.size
            (try rw [hX]); (try rw [hg])
            refine hK.out _ _ (fun _ => HC.out V4 hb4) ?_
            clear hK K hbn hX hg
            try simp only [Act.put, List.setIfInBounds_toArray, List.set_cons_zero, List.set_cons_succ]
            refine oneT (i := 15) (by kernel_rfl) rfl (by rfl) (fun K hK => ?_)
            go_simp
            obtain ⟨V5, g15, hX, hg, hbn, hz15⟩ : ∃ (X : World) (g : Nat), V4.alloc (.cells #[.bool false, .bool false, .slice none 0 0, .slice none 0 0, .slice none 0 0] 42) = X ∧ V4.heap.size = g ∧ Below V4.heap.size V4 X ∧ Zero5 X g := ⟨_, _, rfl, rfl, below_new _ _, Five.new _ rfl _ _ _ _ _⟩
            have hb5 : Below v2.heap.size v2 V5 := hb4.trans (hbn.mono hb4.size)
            have hlo15 : v2.heap.size ≤ g15 := by rw [← hg]; exact hb4.size
            have hlt16 : g16 < g15 := by rw [← hg]; exact (Array.getElem?_eq_some_iff.1 hz16).1
            have hz16 : Zero5 V5 g16 := (hbn.block g16 (Array.getElem?_eq_some_iff.1 hz16).1).trans hz16
            (try rw [hX]); (try rw [hg])
            refine hK.out _ _ (fun _ => HC.out V5 hb5) ?_
            clear hK K hbn hX hg
            try simp only [Act.put, List.setIfInBounds_toArray, List.set_cons_zero, List.set_cons_succ]
            as_aux_lemma =>
              have hne : g15 ≠ g16 := by omega
              obtain ⟨c0, c1, c2, c3, c4⟩ := hz15.cells
              have f0 : V5.frozen? ⟨g15, 0, none⟩ = false := frozen_of_row V5 g15 0 _ _ hz15
              have f1 : V5.frozen? ⟨g15, 1, none⟩ = false := frozen_of_row V5 g15 1 _ _ hz15
              have f2 : V5.frozen? ⟨g15, 2, none⟩ = false := frozen_of_row V5 g15 2 _ _ hz15
              have f3 : V5.frozen? ⟨g15, 3, none⟩ = false := frozen_of_row V5 g15 3 _ _ hz15
              have f4 : V5.frozen? ⟨g15, 4, none⟩ = false := frozen_of_row V5 g15 4 _ _ hz15
              obtain ⟨Y1, hY1, hF1, hbY1, hK1⟩ := put5 hz15 hb5 hlo15 true false (.slice Ae 0 ce) (.slice Be 0 ce1) (.slice Ce 1 ce2)
              have hz16' : Zero5 Y1 g16 := (hK1 g16 (fun e => hne e.symm)).trans hz16
              refine oneT (i := 17) (by kernel_rfl) rfl (by rfl) (fun K hK => ?_)
              go_simp
              (try rw [hY1])
              refine hK.out _ _ (fun _ => HC.out Y1 hbY1) ?_
              clear hK K c0 c1 c2 c3 c4 f0 f1 f2 f3 f4 hY1
              try simp only [Act.put, List.setIfInBounds_toArray, List.set_cons_zero, List.set_cons_succ]
              obtain ⟨c0, c1, c2, c3, c4⟩ := hz16'.cells
              have f0 : Y1.frozen? ⟨g16, 0, none⟩ = false := frozen_of_row Y1 g16 0 _ _ hz16'
              have f1 : Y1.frozen? ⟨g16, 1, none⟩ = false := frozen_of_row Y1 g16 1 _ _ hz16'
              have f2 : Y1.frozen? ⟨g16, 2, none⟩ = false := frozen_of_row Y1 g16 2 _ _ hz16'
              have f3 : Y1.frozen? ⟨g16, 3, none⟩ = false := frozen_of_row Y1 g16 3 _ _ hz16'
              have f4 : Y1.frozen? ⟨g16, 4, none⟩ = false := frozen_of_row Y1 g16 4 _ _ hz16'
              obtain ⟨Y2, hY2, hF2, hbY2, hK2⟩ := put5 hz16' hbY1 hlo16 false false (.slice Ar 0 cr) (.slice Br 0 cr1) (.slice Cr 0 cr2)
              have hF1' : Five Y2 g15 true false (.slice Ae 0 ce) (.slice Be 0 ce1) (.slice Ce 1 ce2) := (hK2 g15 hne).trans hF1
              refine oneT (i := 18) (by kernel_rfl) rfl (by rfl) (fun K hK => ?_)
              go_simp
              (try rw [hY2])
              refine hK.out _ _ (fun _ => HC.out Y2 hbY2) ?_
              clear hK K c0 c1 c2 c3 c4 f0 f1 f2 f3 f4 hY2
              try simp only [Act.put, List.setIfInBounds_toArray, List.set_cons_zero, List.set_cons_succ]
              have HN : Hid (N8 v2 d g15 g16 Y2) := ⟨hbY2, Ae, ce, Be, ce1, Ce, ce2, Ar, cr, _, _, hF1', hF2⟩
              refine doneT (by kernel_rfl) ?_
              clear hF1 hF2 hF1' hbY1 hbY2 hK1 hK2 hz15 hz16 hz16'
              go_wp2
              go_meet
              case rel => exact ⟨g15, g16, rfl, rfl, HN.out⟩
        · go_simp
          obtain ⟨V3, g15, hX, hg, hbn, hz15⟩ : ∃ (X : World) (g : Nat), V2.alloc (.cells #[.bool false, .bool false, .slice none 0 0, .slice none 0 0, .slice none 0 0] 42) = X ∧ V2.heap.size = g ∧ Below V2.heap.size V2 X ∧ Zero5 X g := ⟨_, _, rfl, rfl, below_new _ _, Five.new _ rfl _ _ _ _ _⟩
          have hb3 : Below v2.heap.size v2 V3 := hb2.trans (hbn.mono hb2.size)
          have hlo15 : v2.heap.size ≤ g15 := by rw [← hg]; exact hb2.size
          (try rw [hX]); (try rw [hg])
          refine hK.out _ _ (fun _ => HC.out V3 hb3) ?_
          clear hK K hbn hX hg
          try simp only [Act.put, List.setIfInBounds_toArray, List.set_cons_zero, List.set_cons_succ]
          refine twoT (i := 14) (j := 16) (by kernel_rfl) rfl rfl (by rfl) (by rfl) (fun K hK => ?_) (fun K hK => ?_)
          · go_simp
            refine (HLR.out V3 hb3).mono ?_
            rintro e V4 ⟨⟨Ar, cr, Br, cr1, Cr, cr2, rfl⟩, hbn⟩
            have hb4 : Below v2.heap.size v2 V4 := hb3.trans (hbn.mono hb3.size)
            have hz15 : Zero5 V4 g15 := (hbn.block g15 (Array.getElem?_eq_some_iff.1 hz15).1).trans hz15
            refine hK.out _ _ (fun _ => HC.out V4 hb4) ?_
            clear hK K hbn
            try simp only [Act.put, List.setIfInBounds_toArray, List.set_cons_zero, List.set_cons_succ]
            refine oneT (i := 16) (by kernel_rfl) rfl (by rfl) (fun K hK => ?_)
            go_simp
            obtain ⟨V5, g16, hX, hg, hbn, hz16⟩ : ∃ (X : World) (g : Nat), V4.alloc (.cells #[.bool false, .bool false, .slice none 0 0, .slice none 0 0, .slice none 0 0] 42) = X ∧ V4.heap.size = g ∧ Below V4.heap.size V4 X ∧ Zero5 X g := ⟨_, _, rfl, rfl, below_new _ _, Five.new _ rfl _ _ _ _ _⟩
            have hb5 : Below v2.heap.size v2 V5 := hb4.trans (hbn.mono hb4.size)
            have hlo16 : v2.heap.size ≤ g16 := by rw [← hg]; exact hb4.size
            have hlt15 : g15 < g16 := by rw [← hg]; exact (Array.getElem?_eq_some_iff.1 hz15).1
            have hz15 : Zero5 V5 g15 := (hbn.block g15 (Array.getElem?_eq_some_iff.1 hz15).1).trans hz15
            (try rw [hX]); (try rw [hg])
            refine hK.out _ _ (fun _ => HC.out V5 hb5) ?_
            clear hK K hbn hX hg
            try simp only [Act.put, List.setIfInBounds_toArray, List.set_cons_zero, List.set_cons_succ]
            as_aux_lemma =>
              have hne : g15 ≠ g16 := by omega
              obtain ⟨c0, c1, c2, c3, c4⟩ := hz15.cells
              have f0 : V5.frozen? ⟨g15, 0, none⟩ = false := frozen_of_row V5 g15 0 _ _ hz15
              have f1 : V5.frozen? ⟨g15, 1, none⟩ = false := frozen_of_row V5 g15 1 _ _ hz15
              have f2 : V5.frozen? ⟨g15, 2, none⟩ = false := frozen_of_row V5 g15 2 _ _ hz15
              have f3 : V5.frozen? ⟨g15, 3, none⟩ = false := frozen_of_row V5 g15 3 _ _ hz15
              have f4 : V5.frozen? ⟨g15, 4, none⟩ = false := frozen_of_row V5 g15 4 _ _ hz15
              obtain ⟨Y1, hY1, hF1, hbY1, hK1⟩ := put5 hz15 hb5 hlo15 true false (.slice Ae 0 ce) (.slice Be 0 ce1) (.slice Ce 1 ce2)
              have hz16' : Zero5 Y1 g16 := (hK1 g16 (fun e => hne e.symm)).trans hz16
              refine oneT (i := 17) (by kernel_rfl) rfl (by rfl) (fun K hK => ?_)
              go_simp
              (try rw [hY1])
              refine hK.out _ _ (fun _ => HC.out Y1 hbY1) ?_
              clear hK K c0 c1 c2 c3 c4 f0 f1 f2 f3 f4 hY1
              try simp only [Act.put, List.setIfInBounds_toArray, List.set_cons_zero, List.set_cons_succ]
              obtain ⟨c0, c1, c2, c3, c4⟩ := hz16'.cells
              have f0 : Y1.frozen? ⟨g16, 0, none⟩ = false := frozen_of_row Y1 g16 0 _ _ hz16'
              have f1 : Y1.frozen? ⟨g16, 1, none⟩ = false := frozen_of_row Y1 g16 1 _ _ hz16'
              have f2 : Y1.frozen? ⟨g16, 2, none⟩ = false := frozen_of_row Y1 g16 2 _ _ hz16'
              have f3 : Y1.frozen? ⟨g16, 3, none⟩ = false := frozen_of_row Y1 g16 3 _ _ hz16'
              have f4 : Y1.frozen? ⟨g16, 4, none⟩ = false := frozen_of_row Y1 g16 4 _ _ hz16'
              obtain ⟨Y2, hY2, hF2, hbY2, hK2⟩ := put5 hz16' hbY1 hlo16 false false (.slice Ar 0 cr) (.slice Br 0 cr1) (.slice Cr 0 cr2)
              have hF1' : Five Y2 g15 true false (.slice Ae 0 ce) (.slice Be 0 ce1) (.slice Ce 1 ce2) := (hK2 g15 hne).trans hF1
              refine oneT (i := 18) (by kernel_rfl) rfl (by rfl) (fun K hK => ?_)
              go_simp
              (try rw [hY2])
              refine hK.out _ _ (fun _ => HC.out Y2 hbY2) ?_
              clear hK K c0 c1 c2 c3 c4 f0 f1 f2 f3 f4 hY2
              try simp only [Act.put, List.setIfInBounds_toArray, List.set_cons_zero, List.set_cons_succ]
              have HN : Hid (N8 v2 d g15 g16 Y2) := ⟨hbY2, Ae, ce, Be, ce1, Ce, ce2, Ar, cr, _, _, hF1', hF2⟩
              refine doneT (by kernel_rfl) ?_
              clear hF1 hF2 hF1' hbY1 hbY2 hK1 hK2 hz15 hz16 hz16'
              go_wp2
              go_meet
              case rel => exact ⟨g15, g16, rfl, rfl, HN.out⟩
          · go_simp
            obtain ⟨V4, g16, hX, hg, hbn, hz16⟩ : ∃ (X : World) (g : Nat), V3.alloc (.cells #[.bool false, .bool false, .slice none 0 0, .slice none 0 0, .slice none 0 0] 42) = X ∧ V3.heap.size = g ∧ Below V3.heap.size V3 X ∧ Zero5 X g := ⟨_, _, rfl, rfl, below_new _ _, Five.new _ rfl _ _ _ _ _⟩
            have hb4 : Below v2.heap.size v2 V4 := hb3.trans (hbn.mono hb3.size)
            have hlo16 : v2.heap.size ≤ g16 := by rw [← hg]; exact hb3.size
            have hlt15 : g15 < g16 := by rw [← hg]; exact (Array.getElem?_eq_some_iff.1 hz15).1
            have hz15 : Zero5 V4 g15 := (hbn.block g15 (Array.getElem?_eq_some_iff.1 hz15).1).trans hz15
            (try rw [hX]); (try rw [hg])
            refine hK.out _ _ (fun _ => HC.out V4 hb4) ?_
            clear hK K hbn hX hg
            try simp only [Act.put, List.setIfInBounds_toArray, List.set_cons_zero, List.set_cons_succ]
            refine oneT (i := 14) (by kernel_rfl) rfl (by rfl) (fun K hK => ?_)
            go_simp
            refine (HLR.out V4 hb4).mono ?_
            rintro e V5 ⟨⟨Ar, cr, Br, cr1, Cr, cr2, rfl⟩, hbn⟩
            have hb5 : Below v2.heap.size v2 V5 := hb4.trans (hbn.mono hb4.size)
            have hz15 : Zero5 V5 g15 := (hbn.block g15 (Array.getElem?_eq_some_iff.1 hz15).1).trans hz15
            have hz16 : Zero5 V5 g16 := (hbn.block g16 (Array.getElem?_eq_some_iff.1 hz16).1).trans hz16
            refine hK.out _ _ (fun _ => HC.out V5 hb5) ?_
            clear hK K hbn
            try simp only [Act.put, List.setIfInBounds_toArray, List.set_cons_zero, List.set_cons_succ]
            as_aux_lemma =>
              have hne : g15 ≠ g16 := by omega
              obtain ⟨c0, c1, c2, c3, c4⟩ := hz15.cells
              have f0 : V5.frozen? ⟨g15, 0, none⟩ = false := frozen_of_row V5 g15 0 _ _ hz15
              have f1 : V5.frozen? ⟨g15, 1, none⟩ = false := frozen_of_row V5 g15 1 _ _ hz15
              have f2 : V5.frozen? ⟨g15, 2, none⟩ = false := frozen_of_row V5 g15 2 _ _ hz15
              have f3 : V5.frozen? ⟨g15, 3, none⟩ = false := frozen_of_row V5 g15 3 _ _ hz15
              have f4 : V5.frozen? ⟨g15, 4, none⟩ = false := frozen_of_row V5 g15 4 _ _ hz15
              obtain ⟨Y1, hY1, hF1, hbY1, hK1⟩ := put5 hz15 hb5 hlo15 true false (.slice Ae 0 ce) (.slice Be 0 ce1) (.slice Ce 1 ce2)
              have hz16' : Zero5 Y1 g16 := (hK1 g16 (fun e => hne e.symm)).trans hz16
              refine oneT (i := 17) (by kernel_rfl) rfl (by rfl) (fun K hK => ?_)
              go_simp
              (try rw [hY1])
              refine hK.out _ _ (fun _ => HC.out Y1 hbY1) ?_
              clear hK K c0 c1 c2 c3 c4 f0 f1 f2 f3 f4 hY1
              try simp only [Act.put, List.setIfInBounds_toArray, List.set_cons_zero, List.set_cons_succ]
              obtain ⟨c0, c1, c2, c3, c4⟩ := hz16'.cells
              have f0 : Y1.frozen? ⟨g16, 0, none⟩ = false := frozen_of_row Y1 g16 0 _ _ hz16'
              have f1 : Y1.frozen? ⟨g16, 1, none⟩ = false := frozen_of_row Y1 g16 1 _ _ hz16'
              have f2 : Y1.frozen? ⟨g16, 2, none⟩ = false := frozen_of_row Y1 g16 2 _ _ hz16'
              have f3 : Y1.frozen? ⟨g16, 3, none⟩ = false := frozen_of_row Y1 g16 3 _ _ hz16'
              have f4 : Y1.frozen? ⟨g16, 4, none⟩ = false := frozen_of_row Y1 g16 4 _ _ hz16'
              obtain ⟨Y2, hY2, hF2, hbY2, hK2⟩ := put5 hz16' hbY1 hlo16 false false (.slice Ar 0 cr) (.slice Br 0 cr1) (.slice Cr 0 cr2)
              have hF1' : Five Y2 g15 true false (.slice Ae 0 ce) (.slice Be 0 ce1) (.slice Ce 1 ce2) := (hK2 g15 hne).trans hF1
              refine oneT (i := 18) (by kernel_rfl) rfl (by rfl) (fun K hK => ?_)
              go_simp
              (try rw [hY2])
              refine hK.out _ _ (fun _ => HC.out Y2 hbY2) ?_
              clear hK K c0 c1 c2 c3 c4 f0 f1 f2 f3 f4 hY2
              try simp only [Act.put, List.setIfInBounds_toArray, List.set_cons_zero, List.set_cons_succ]
              have HN : Hid (N8 v2 d g15 g16 Y2) := ⟨hbY2, Ae, ce, Be, ce1, Ce, ce2, Ar, cr, _, _, hF1', hF2⟩
              refine doneT (by kernel_rfl) ?_
              clear hF1 hF2 hF1' hbY1 hbY2 hK1 hK2 hz15 hz16 hz16'
              go_wp2
              go_meet
              case rel => exact ⟨g15, g16, rfl, rfl, HN.out⟩
        · go_simp
          obtain ⟨V3, g16, hX, hg, hbn, hz16⟩ : ∃ (X : World) (g : Nat), V2.alloc (.cells #[.bool false, .bool false, .slice none 0 0, .slice none 0 0, .slice none 0 0] 42) = X ∧ V2.heap.size = g ∧ Below V2.heap.size V2 X ∧ Zero5 X g := ⟨_, _, rfl, rfl, below_new _ _, Five.new _ rfl _ _ _ _ _⟩
          have hb3 : Below v2.heap.size v2 V3 := hb2.trans (hbn.mono hb2.size)
          have hlo16 : v2.heap.size ≤ g16 := by rw [← hg]; exact hb2.size
          (try rw [hX]); (try rw [hg])
          refine hK.out _ _ (fun _ => HC.out V3 hb3) ?_
          clear hK K hbn hX hg
          try simp only [Act.put, List.setIfInBounds_toArray, List.set_cons_zero, List.set_cons_succ]
          refine twoT (i := 14) (j := 15) (by kernel_rfl) rfl rfl (by rfl) (by rfl) (fun K hK => ?_) (fun K hK => ?_)
          · go_simp
            refine (HLR.out V3 hb3).mono ?_
            rintro e V4 ⟨⟨Ar, cr, Br, cr1, Cr, cr2, rfl⟩, hbn⟩
            have hb4 : Below v2.heap.size v2 V4 := hb3.trans (hbn.mono hb3.size)
            have hz16 : Zero5 V4 g16 := (hbn.block g16 (Array.getElem?_eq_some_iff.1 hz16).1).trans hz16
            refine hK.out _ _ (fun _ => HC.out V4 hb4) ?_
            clear hK K hbn
            try simp only [Act.put, List.setIfInBounds_toArray, List.set_cons_zero, List.set_cons_succ]
            refine oneT (i := 15) (by kernel_rfl) rfl (by rfl) (fun K hK => ?_)
            go_simp
            obtain ⟨V5, g15, hX, hg, hbn, hz15⟩ : ∃ (X : World) (g : Nat), V4.alloc (.cells #[.bool false, .bool false, .slice none 0 0, .slice none 0 0, .slice none 0 0] 42) = X ∧ V4.heap.size = g ∧ Below V4.heap.size V4 X ∧ Zero5 X g := ⟨_, _, rfl, rfl, below_new _ _, Five.new _ rfl _ _ _ _ _⟩
            have hb5 : Below v2.heap.size v2 V5 := hb4.trans (hbn.mono hb4.size)
            have hlo15 : v2.heap.size ≤ g15 := by rw [← hg]; exact hb4.size
            have hlt16 : g16 < g15 := by rw [← hg]; exact (Array.getElem?_eq_some_iff.1 hz16).1
            have hz16 : Zero5 V5 g16 := (hbn.block g16 (Array.getElem?_eq_some_iff.1 hz16).1).trans hz16
            (try rw [hX]); (try rw [hg])
            refine hK.out _ _ (fun _ => HC.out V5 hb5) ?_
            clear hK K hbn hX hg
            try simp only [Act.put, List.setIfInBounds_toArray, List.set_cons_zero, List.set_cons_succ]
            as_aux_lemma =>
              have hne : g15 ≠ g16 := by omega
              obtain ⟨c0, c1, c2, c3, c4⟩ := hz15.cells
              have f0 : V5.frozen? ⟨g15, 0, none⟩ = false := frozen_of_row V5 g15 0 _ _ hz15
              have f1 : V5.frozen? ⟨g15, 1, none⟩ = false := frozen_of_row V5 g15 1 _ _ hz15
              have f2 : V5.frozen? ⟨g15, 2, none⟩ = false := frozen_of_row V5 g15 2 _ _ hz15
              have f3 : V5.frozen? ⟨g15, 3, none⟩ = false := frozen_of_row V5 g15 3 _ _ hz15
              have f4 : V5.frozen? ⟨g15, 4, none⟩ = false := frozen_of_row V5 g15 4 _ _ hz15
              obtain ⟨Y1, hY1, hF1, hbY1, hK1⟩ := put5 hz15 hb5 hlo15 true false (.slice Ae 0 ce) (.slice Be 0 ce1) (.slice Ce 1 ce2)
              have hz16' : Zero5 Y1 g16 := (hK1 g16 (fun e => hne e.symm)).trans hz16
              refine oneT (i := 17) (by kernel_rfl) rfl (by rfl) (fun K hK => ?_)
              go_simp
              (try rw [hY1])
              refine hK.out _ _ (fun _ => HC.out Y1 hbY1) ?_
              clear hK K c0 c1 c2 c3 c4 f0 f1 f2 f3 f4 hY1
              try simp only [Act.put, List.setIfInBounds_toArray, List.set_cons_zero, List.set_cons_succ]
              obtain ⟨c0, c1, c2, c3, c4⟩ := hz16'.cells
              have f0 : Y1.frozen? ⟨g16, 0, none⟩ = false := frozen_of_row Y1 g16 0 _ _ hz16'
              have f1 : Y1.frozen? ⟨g16, 1, none⟩ = false := frozen_of_row Y1 g16 1 _ _ hz16'
              have f2 : Y1.frozen? ⟨g16, 2, none⟩ = false := frozen_of_row Y1 g16 2 _ _ hz16'
              have f3 : Y1.frozen? ⟨g16, 3, none⟩ = false := frozen_of_row Y1 g16 3 _ _ hz16'
              have f4 : Y1.frozen? ⟨g16, 4, none⟩ = false := frozen_of_row Y1 g16 4 _ _ hz16'
              obtain ⟨Y2, hY2, hF2, hbY2, hK2⟩ := put5 hz16' hbY1 hlo16 false false (.slice Ar 0 cr) (.slice Br 0 cr1) (.slice Cr 0 cr2)
              have hF1' : Five Y2 g15 true false (.slice Ae 0 ce) (.slice Be 0 ce1) (.slice Ce 1 ce2) := (hK2 g15 hne).trans hF1
              refine oneT (i := 18) (by kernel_rfl) rfl (by rfl) (fun K hK => ?_)
              go_simp
              (try rw [hY2])
              refine hK.out _ _ (fun _ => HC.out Y2 hbY2) ?_
              clear hK K c0 c1 c2 c3 c4 f0 f1 f2 f3 f4 hY2
              try simp only [Act.put, List.setIfInBounds_toArray, List.set_cons_zero, List.set_cons_succ]
              have HN : Hid (N8 v2 d g15 g16 Y2) := ⟨hbY2, Ae, ce, Be, ce1, Ce, ce2, Ar, cr, _, _, hF1', hF2⟩
              refine doneT (by kernel_rfl) ?_
              clear hF1 hF2 hF1' hbY1 hbY2 hK1 hK2 hz15 hz16 hz16'
              go_wp2
              go_meet
              case rel => exact ⟨g15, g16, rfl, rfl, HN.out⟩
          · go_simp
            obtain ⟨V4, g15, hX, hg, hbn, hz15⟩ : ∃ (X : World) (g : Nat), V3.alloc (.cells #[.bool false, .bool false, .slice none 0 0, .slice none 0 0, .slice none 0 0] 42) = X ∧ V3.heap.size = g ∧ Below V3.heap.size V3 X ∧ Zero5 X g := ⟨_, _, rfl, rfl, below_new _ _, Five.new _ rfl _ _ _ _ _⟩
            have hb4 : Below v2.heap.size v2 V4 := hb3.trans (hbn.mono hb3.size)
            have hlo15 : v2.heap.size ≤ g15 := by rw [← hg]; exact hb3.size
            have hlt16 : g16 < g15 := by rw [← hg]; exact (Array.getElem?_eq_some_iff.1 hz16).1
            have hz16 : Zero5 V4 g16 := (hbn.block g16 (Array.getElem?_eq_some_iff.1 hz16).1).trans hz16
            (try rw [hX]); (try rw [hg])
            refine hK.out _ _ (fun _ => HC.out V4 hb4) ?_
            clear hK K hbn hX hg
            try simp only [Act.put, List.setIfInBounds_toArray, List.set_cons_zero, List.set_cons_succ]
            refine oneT (i := 14) (by kernel_rfl) rfl (by rfl) (fun K hK => ?_)
            go_simp
            refine (HLR.out V4 hb4).mono ?_
            rintro e V5 ⟨⟨Ar, cr, Br, cr1, Cr, cr2, rfl⟩, hbn⟩
            have hb5 : Below v2.heap.size v2 V5 := hb4.trans (hbn.mono hb4.size)
            have hz16 : Zero5 V5 g16 := (hbn.block g16 (Array.getElem?_eq_some_iff.1 hz16).1).trans hz16
            have hz15 : Zero5 V5 g15 := (hbn.block g15 (Array.getElem?_eq_some_iff.1 hz15).1).trans hz15
            refine hK.out _ _ (fun _ => HC.out V5 hb5) ?_
            clear hK K hbn
            try simp only [Act.put, List.setIfInBounds_toArray, List.set_cons_zero, List.set_cons_succ]
            as_aux_lemma =>
              have hne : g15 ≠ g16 := by omega
              obtain ⟨c0, c1, c2, c3, c4⟩ := hz15.cells
              have f0 : V5.frozen? ⟨g15, 0, none⟩ = false := frozen_of_row V5 g15 0 _ _ hz15
              have f1 : V5.frozen? ⟨g15, 1, none⟩ = false := frozen_of_row V5 g15 1 _ _ hz15
              have f2 : V5.frozen? ⟨g15, 2, none⟩ = false := frozen_of_row V5 g15 2 _ _ hz15
              have f3 : V5.frozen? ⟨g15, 3, none⟩ = false := frozen_of_row V5 g15 3 _ _ hz15
              have f4 : V5.frozen? ⟨g15, 4, none⟩ = false := frozen_of_row V5 g15 4 _ _ hz15
              obtain ⟨Y1, hY1, hF1, hbY1, hK1⟩ := put5 hz15 hb5 hlo15 true false (.slice Ae 0 ce) (.slice Be 0 ce1) (.slice Ce 1 ce2)
              have hz16' : Zero5 Y1 g16 := (hK1 g16 (fun e => hne e.symm)).trans hz16
              refine oneT (i := 17) (by kernel_rfl) rfl (by rfl) (fun K hK => ?_)
              go_simp
              (try rw [hY1])
              refine hK.out _ _ (fun _ => HC.out Y1 hbY1) ?_
              clear hK K c0 c1 c2 c3 c4 f0 f1 f2 f3 f4 hY1
              try simp only [Act.put, List.setIfInBounds_toArray, List.set_cons_zero, List.set_cons_succ]
              obtain ⟨c0, c1, c2, c3, c4⟩ := hz16'.cells
              have f0 : Y1.frozen? ⟨g16, 0, none⟩ = false := frozen_of_row Y1 g16 0 _ _ hz16'
              have f1 : Y1.frozen? ⟨g16, 1, none⟩ = false := frozen_of_row Y1 g16 1 _ _ hz16'
              have f2 : Y1.frozen? ⟨g16, 2, none⟩ = false := frozen_of_row Y1 g16 2 _ _ hz16'
              have f3 : Y1.frozen? ⟨g16, 3, none⟩ = false := frozen_of_row Y1 g16 3 _ _ hz16'
              have f4 : Y1.frozen? ⟨g16, 4, none⟩ = false := frozen_of_row Y1 g16 4 _ _ hz16'
              obtain ⟨Y2, hY2, hF2, hbY2, hK2⟩ := put5 hz16' hbY1 hlo16 false false (.slice Ar 0 cr) (.slice Br 0 cr1) (.slice Cr 0 cr2)
              have hF1' : Five Y2 g15 true false (.slice Ae 0 ce) (.slice Be 0 ce1) (.slice Ce 1 ce2) := (hK2 g15 hne).trans hF1
              refine oneT (i := 18) (by kernel_rfl) rfl (by rfl) (fun K hK => ?_)
              go_simp
              (try rw [hY2])
              refine hK.out _ _ (fun _ => HC.out Y2 hbY2) ?_
              clear hK K c0 c1 c2 c3 c4 f0 f1 f2 f3 f4 hY2
              try simp only [Act.put, List.setIfInBounds_toArray, List.set_cons_zero, List.set_cons_succ]
              have HN : Hid (N8 v2 d g15 g16 Y2) := ⟨hbY2, Ae, ce, Be, ce1, Ce, ce2, Ar, cr, _, _, hF1', hF2⟩
              refine doneT (by kernel_rfl) ?_
              clear hF1 hF2 hF1' hbY1 hbY2 hK1 hK2 hz15 hz16 hz16'
              go_wp2
              go_meet
              case rel => exact ⟨g15, g16, rfl, rfl, HN.out⟩
      · go_simp
        obtain ⟨V2, g15, hX, hg, hbn, hz15⟩ : ∃ (X : World) (g : Nat), V1.alloc (.cells #[.bool false, .bool false, .slice none 0 0, .slice none 0 0, .slice none 0 0] 42) = X ∧ V1.heap.size = g ∧ Below V1.heap.size V1 X ∧ Zero5 X g := ⟨_, _, rfl, rfl, below_new _ _, Five.new _ rfl _ _ _ _ _⟩
        have hb2 : Below v2.heap.size v2 V2 := hb1.trans (hbn.mono hb1.size)
        have hlo15 : v2.heap.size ≤ g15 := by rw [← hg]; exact hb1.size
        (try rw [hX]); (try rw [hg])
        refine hK.out _ _ (fun _ => HC.out V2 hb2) ?_
        clear hK K hbn hX hg
        try simp only [Act.put, List.setIfInBounds_toArray, List.set_cons_zero, List.set_cons_succ]
        refine twoT (i := 13) (j := 16) (by kernel_rfl) rfl rfl (by rfl) (by rfl) (fun K hK => ?_) (fun K hK => ?_)
        · go_simp
          refine (of_walk 0 1 (by omega) V2).mono ?_
          rintro e V3 ⟨rfl, hbn⟩
          have hb3 : Below v2.heap.size v2 V3 := hbn ▸ hb2
          have hz15 : Zero5 V3 g15 := hbn ▸ hz15
          refine hK.out _ _ (fun _ => HC.out V3 hb3) ?_
          clear hK K hbn
          try simp only [Act.put, List.setIfInBounds_toArray, List.set_cons_zero, List.set_cons_succ]
          refine twoT (i := 14) (j := 16) (by kernel_rfl) rfl rfl (by rfl) (by rfl) (fun K hK => ?_) (fun K hK => ?_)
          · go_simp
            refine (HLR.out V3 hb3).mono ?_
            rintro e V4 ⟨⟨Ar, cr, Br, cr1, Cr, cr2, rfl⟩, hbn⟩
            have hb4 : Below v2.heap.size v2 V4 := hb3.trans (hbn.mono hb3.size)
            have hz15 : Zero5 V4 g15 := (hbn.block g15 (Array.getElem?_eq_some_iff.1 hz15).1).trans hz15
            refine hK.out _ _ (fun _ => HC.out V4 hb4) ?_
            clear hK K hbn
            try simp only [Act.put, List.setIfInBounds_toArray, List.set_cons_zero, List.set_cons_succ]
            refine oneT (i := 16) (by kernel_rfl) rfl (by rfl) (fun K hK => ?_)
            go_simp
            obtain ⟨V5, g16, hX, hg, hbn, hz16⟩ : ∃ (X : World) (g : Nat), V4.alloc (.cells #[.bool false, .bool false, .slice none 0 0, .slice none 0 0, .slice none 0 0] 42) = X ∧ V4.heap.size = g ∧ Below V4.heap.size V4 X ∧ Zero5 X g := ⟨_, _, rfl, rfl, below_new _ _, Five.new _ rfl _ _ _ _ _⟩
            have hb5 : Below v2.heap.size v2 V5 := hb4.trans (hbn.mono hb4.size)
            have hlo16 : v2.heap.size ≤ g16 := by rw [← hg]; exact hb4.size
            have hlt15 : g15 < g16 := by rw [← hg]; exact (Array.getElem?_eq_some_iff.1 hz15).1
            have hz15 : Zero5 V5 g15 := (hbn.block g15 (Array.getElem?_eq_some_iff.1 hz15).1).trans hz15
            (try rw [hX]); (try rw [hg])
            refine hK.out _ _ (fun _ => HC.out V5 hb5) ?_
            clear hK K hbn hX hg
            try simp only [Act.put, List.setIfInBounds_toArray, List.set_cons_zero, List.set_cons_succ]
            as_aux_lemma =>
              have hne : g15 ≠ g16 := by omega
              obtain ⟨c0, c1, c2, c3, c4⟩ := hz15.cells
              have f0 : V5.frozen? ⟨g15, 0, none⟩ = false := frozen_of_row V5 g15 0 _ _ hz15
              have f1 : V5.frozen? ⟨g15, 1, none⟩ = false := frozen_of_row V5 g15 1 _ _ hz15
              have f2 : V5.frozen? ⟨g15, 2, none⟩ = false := frozen_of_row V5 g15 2 _ _ hz15
              have f3 : V5.frozen? ⟨g15, 3, none⟩ = false := frozen_of_row V5 g15 3 _ _ hz15
              have f4 : V5.frozen? ⟨g15, 4, none⟩ = false := frozen_of_row V5 g15 4 _ _ hz15
              obtain ⟨Y1, hY1, hF1, hbY1, hK1⟩ := put5 hz15 hb5 hlo15 true false (.slice Ae 0 ce) (.slice Be 0 ce1) (.slice Ce 1 ce2)
              have hz16' : Zero5 Y1 g16 := (hK1 g16 (fun e => hne e.symm)).trans hz16
              refine oneT (i := 17) (by kernel_rfl) rfl (by rfl) (fun K hK => ?_)
              go_simp
              (try rw [hY1])
              refine hK.out _ _ (fun _ => HC.out Y1 hbY1) ?_
              clear hK K c0 c1 c2 c3 c4 f0 f1 f2 f3 f4 hY1
              try simp only [Act.put, List.setIfInBounds_toArray, List.set_cons_zero, List.set_cons_succ]
              obtain ⟨c0, c1, c2, c3, c4⟩ := hz16'.cells
              have f0 : Y1.frozen? ⟨g16, 0, none⟩ = false := frozen_of_row Y1 g16 0 _ _ hz16'
              have f1 : Y1.frozen? ⟨g16, 1, none⟩ = false := frozen_of_row Y1 g16 1 _ _ hz16'
              have f2 : Y1.frozen? ⟨g16, 2, none⟩ = false := frozen_of_row Y1 g16 2 _ _ hz16'
              have f3 : Y1.frozen? ⟨g16, 3, none⟩ = false := frozen_of_row Y1 g16 3 _ _ hz16'
              have f4 : Y1.frozen? ⟨g16, 4, none⟩ = false := frozen_of_row Y1 g16 4 _ _ hz16'
              obtain ⟨Y2, hY2, hF2, hbY2, hK2⟩ := put5 hz16' hbY1 hlo16 false false (.slice Ar 0 cr) (.slice Br 0 cr1) (.slice Cr 0 cr2)
              have hF1' : Five Y2 g15 true false (.slice Ae 0 ce) (.slice Be 0 ce1) (.slice Ce 1 ce2) := (hK2 g15 hne).trans hF1
              refine oneT (i := 18) (by kernel_rfl) rfl (by rfl) (fun K hK => ?_)
              go_simp
              (try rw [hY2])
              refine hK.out _ _ (fun _ => HC.out Y2 hbY2) ?_
              clear hK K c0 c1 c2 c3 c4 f0 f1 f2 f3 f4 hY2
              try simp only [Act.put, List.setIfInBounds_toArray, List.set_cons_zero, List.set_cons_succ]
              have HN : Hid (N8 v2 d g15 g16 Y2) := ⟨hbY2, Ae, ce, Be, ce1, Ce, ce2, Ar, cr, _, _, hF1', hF2⟩
              refine doneT (by kernel_rfl) ?_
              clear hF1 hF2 hF1' hbY1 hbY2 hK1 hK2 hz15 hz16 hz16'
              go_wp2
              go_meet
              case rel => exact ⟨g15, g16, rfl, rfl, HN.out⟩
          · go_simp
            obtain ⟨V4, g16, hX, hg, hbn, hz16⟩ : ∃ (X : World) (g : Nat), V3.alloc (.cells #[.bool false, .bool false, .slice none 0 0, .slice none 0 0, .slice none 0 0] 42) = X ∧ V3.heap.size = g ∧ Below V3.heap.size V3 X ∧ Zero5 X g := ⟨_, _, rfl, rfl, below_new _ _, Five.new _ rfl _ _ _ _ _⟩
            have hb4 : Below v2.heap.size v2 V4 := hb3.trans (hbn.mono hb3.size)
            have hlo16 : v2.heap.size ≤ g16 := by rw [← hg]; exact hb3.size
            have hlt15 : g15 < g16 := by rw [← hg]; exact (Array.getElem?_eq_some_iff.1 hz15).1
            have hz15 : Zero5 V4 g15 := (hbn.block g15 (Array.getElem?_eq_some_iff.1 hz15).1).trans hz15
            (try rw [hX]); (try rw [hg])
            refine hK.out _ _ (fun _ => HC.out V4 hb4) ?_
            clear hK K hbn hX hg
            try simp only [Act.put, List.setIfInBounds_toArray, List.set_cons_zero, List.set_cons_succ]
            refine oneT (i := 14) (by kernel_rfl) rfl (by rfl) (fun K hK => ?_)
            go_simp
            refine (HLR.out V4 hb4).mono ?_
            rintro e V5 ⟨⟨Ar, cr, Br, cr1, Cr, cr2, rfl⟩, hbn⟩
            have hb5 : Below v2.heap.size v2 V5 := hb4.trans (hbn.mono hb4.size)
            have hz15 : Zero5 V5 g15 := (hbn.block g15 (Array.getElem?_eq_some_iff.1 hz15).1).trans hz15
            have hz16 : Zero5 V5 g16 := (hbn.block g16 (Array.getElem?_eq_some_iff.1 hz16).1).trans hz16
            refine hK.out _ _ (fun _ => HC.out V5 hb5) ?_
            clear hK K hbn
            try simp only [Act.put, List.setIfInBounds_toArray, List.set_cons_zero, List.set_cons_succ]
            as_aux_lemma =>
              have hne : g15 ≠ g16 := by omega
              obtain ⟨c0, c1, c2, c3, c4⟩ := hz15.cells
              have f0 : V5.frozen? ⟨g15, 0, none⟩ = false := frozen_of_row V5 g15 0 _ _ hz15
              have f1 : V5.frozen? ⟨g15, 1, none⟩ = false := frozen_of_row V5 g15 1 _ _ hz15
              have f2 : V5.frozen? ⟨g15, 2, none⟩ = false := frozen_of_row V5 g15 2 _ _ hz15
              have f3 : V5.frozen? ⟨g15, 3, none⟩ = false := frozen_of_row V5 g15 3 _ _ hz15
              have f4 : V5.frozen? ⟨g15, 4, none⟩ = false := frozen_of_row V5 g15 4 _ _ hz15
              obtain ⟨Y1, hY1, hF1, hbY1, hK1⟩ := put5 hz15 hb5 hlo15 true false (.slice Ae 0 ce) (.slice Be 0 ce1) (.slice Ce 1 ce2)
              have hz16' : Zero5 Y1 g16 := (hK1 g16 (fun e => hne e.symm)).trans hz16
              refine oneT (i := 17) (by kernel_rfl) rfl (by rfl) (fun K hK => ?_)
              go_simp
              (try rw [hY1])
              refine hK.out _ _ (fun _ => HC.out Y1 hbY1) ?_
              clear hK K c0 c1 c2 c3 c4 f0 f1 f2 f3 f4 hY1
              try simp only [Act.put, List.setIfInBounds_toArray, List.set_cons_zero, List.set_cons_succ]
              obtain ⟨c0, c1, c2, c3, c4⟩ := hz16'.cells
              have f0 : Y1.frozen? ⟨g16, 0, none⟩ = false := frozen_of_row Y1 g16 0 _ _ hz16'
              have f1 : Y1.frozen? ⟨g16, 1, none⟩ = false := frozen_of_row Y1 g16 1 _ _ hz16'
              have f2 : Y1.frozen? ⟨g16, 2, none⟩ = false := frozen_of_row Y1 g16 2 _ _ hz16'
              have f3 : Y1.frozen? ⟨g16, 3, none⟩ = false := frozen_of_row Y1 g16 3 _ _ hz16'
              have f4 : Y1.frozen? ⟨g16, 4, none⟩ = false := frozen_of_row Y1 g16 4 _ _ hz16'
              obtain ⟨Y2, hY2, hF2, hbY2, hK2⟩ := put5 hz16' hbY1 hlo16 false false (.slice Ar 0 cr) (.slice Br 0 cr1) (.slice Cr 0 cr2)
              have hF1' : Five Y2 g15 true false (.slice Ae 0 ce) (.slice Be 0 ce1) (.slice Ce 1 ce2) := (hK2 g15 hne).trans hF1
              refine oneT (i := 18) (by kernel_rfl) rfl (by rfl) (fun K hK => ?_)
              go_simp
              (try rw [hY2])
              refine hK.out _ _ (fun _ => HC.out Y2 hbY2) ?_
              clear hK K c0 c1 c2 c3 c4 f0 f1 f2 f3 f4 hY2
              try simp only [Act.put, List.setIfInBounds_toArray, List.set_cons_zero, List.set_cons_succ]
              have HN : Hid (N8 v2 d g15 g16 Y2) := ⟨hbY2, Ae, ce, Be, ce1, Ce, ce2, Ar, cr, _, _, hF1', hF2⟩
              refine doneT (by kernel_rfl) ?_
              clear hF1 hF2 hF1' hbY1 hbY2 hK1 hK2 hz15 hz16 hz16'
              go_wp2
              go_meet
              case rel => exact ⟨g15, g16, rfl, rfl, HN.out⟩
        · go_simp
          obtain ⟨V3, g16, hX, hg, hbn, hz16⟩ : ∃ (X : World) (g : Nat), V2.alloc (.cells #[.bool false, .bool false, .slice none 0 0, .slice none 0 0, .slice none 0 0] 42) = X ∧ V2.heap.size = g ∧ Below V2.heap.size V2 X ∧ Zero5 X g := ⟨_, _, rfl, rfl, below_new _ _, Five.new _ rfl _ _ _ _ _⟩
          have hb3 : Below v2.heap.size v2 V3 := hb2.trans (hbn.mono hb2.size)
          have hlo16 : v2.heap.size ≤ g16 := by rw [← hg]; exact hb2.size
          have hlt15 : g15 < g16 := by rw [← hg]; exact (Array.getElem?_eq_some_iff.1 hz15).1
          have hz15 : Zero5 V3 g15 := (hbn.block g15 (Array.getElem?_eq_some_iff.1 hz15).1).trans hz15
          (try rw [hX]); (try rw [hg])
          refine hK.out _ _ (fun _ => HC.out V3 hb3) ?_
          clear hK K hbn hX hg
          try simp only [Act.put, List.setIfInBounds_toArray, List.set_cons_zero, List.set_cons_succ]
          refine oneT (i := 13) (by kernel_rfl) rfl (by rfl) (fun K hK => ?_)
          go_simp
          refine (of_walk 0 1 (by omega) V3).mono ?_
          rintro e V4 ⟨rfl, hbn⟩
          have hb4 : Below v2.heap.size v2 V4 := hbn ▸ hb3
          have hz15 : Zero5 V4 g15 := hbn ▸ hz15
          have hz16 : Zero5 V4 g16 := hbn ▸ hz16
          refine hK.out _ _ (fun _ => HC.out V4 hb4) ?_
          clear hK K hbn
          try simp only [Act.put, List.setIfInBounds_toArray, List.set_cons_zero, List.set_cons_succ]
          refine oneT (i := 14) (by kernel_rfl) rfl (by rfl) (fun K hK => ?_)
          go_simp
          refine (HLR.out V4 hb4).mono ?_
          rintro e V5 ⟨⟨Ar, cr, Br, cr1, Cr, cr2, rfl⟩, hbn⟩
          have hb5 : Below v2.heap.size v2 V5 := hb4.trans (hbn.mono hb4.size)
          have hz15 : Zero5 V5 g15 := (hbn.block g15 (Array.getElem?_eq_some_iff.1 hz15).1).trans hz15
          have hz16 : Zero5 V5 g16 := (hbn.block g16 (Array.getElem?_eq_some_iff.1 hz16).1).trans hz16
          refine hK.out _ _ (fun _ => HC.out V5 hb5) ?_
          clear hK K hbn
          try simp only [Act.put, List.setIfInBounds_toArray, List.set_cons_zero, List.set_cons_succ]
          as_aux_lemma =>
            have hne : g15 ≠ g16 := by omega
            obtain ⟨c0, c1, c2, c3, c4⟩ := hz15.cells
            have f0 : V5.frozen? ⟨g15, 0, none⟩ = false := frozen_of_row V5 g15 0 _ _ hz15
            have f1 : V5.frozen? ⟨g15, 1, none⟩ = false := frozen_of_row V5 g15 1 _ _ hz15
            have f2 : V5.frozen? ⟨g15, 2, none⟩ = false := frozen_of_row V5 g15 2 _ _ hz15
            have f3 : V5.frozen? ⟨g15, 3, none⟩ = false := frozen_of_row V5 g15 3 _ _ hz15
            have f4 : V5.frozen? ⟨g15, 4, none⟩ = false := frozen_of_row V5 g15 4 _ _ hz15
            obtain ⟨Y1, hY1, hF1, hbY1, hK1⟩ := put5 hz15 hb5 hlo15 true false (.slice Ae 0 ce) (.slice Be 0 ce1) (.slice Ce 1 ce2)
            have hz16' : Zero5 Y1 g16 := (hK1 g16 (fun e => hne e.symm)).trans hz16
            refine oneT (i := 17) (by kernel_rfl) rfl (by rfl) (fun K hK => ?_)
            go_simp
            (try rw [hY1])
            refine hK.out _ _ (fun _ => HC.out Y1 hbY1) ?_
            clear hK K c0 c1 c2 c3 c4 f0 f1 f2 f3 f4 hY1
            try simp only [Act.put, List.setIfInBounds_toArray, List.set_cons_zero, List.set_cons_succ]
            obtain ⟨c0, c1, c2, c3, c4⟩ := hz16'.cells
            have f0 : Y1.frozen? ⟨g16, 0, none⟩ = false := frozen_of_row Y1 g16 0 _ _ hz16'
            have f1 : Y1.frozen? ⟨g16, 1, none⟩ = false := frozen_of_row Y1 g16 1 _ _ hz16'
            have f2 : Y1.frozen? ⟨g16, 2, none⟩ = false := frozen_of_row Y1 g16 2 _ _ hz16'
            have f3 : Y1.frozen? ⟨g16, 3, none⟩ = false := frozen_of_row Y1 g16 3 _ _ hz16'
            have f4 : Y1.frozen? ⟨g16, 4, none⟩ = false := frozen_of_row Y1 g16 4 _ _ hz16'
            obtain ⟨Y2, hY2, hF2, hbY2, hK2⟩ := put5 hz16' hbY1 hlo16 false false (.slice Ar 0 cr) (.slice Br 0 cr1) (.slice Cr 0 cr2)
            have hF1' : Five Y2 g15 true false (.slice Ae 0 ce) (.slice Be 0 ce1) (.slice Ce 1 ce2) := (hK2 g15 hne).trans hF1
            refine oneT (i := 18) (by kernel_rfl) rfl (by rfl) (fun K hK => ?_)
            go_simp
            (try rw [hY2])
            refine hK.out _ _ (fun _ => HC.out Y2 hbY2) ?_
            clear hK K c0 c1 c2 c3 c4 f0 f1 f2 f3 f4 hY2
            try simp only [Act.put, List.setIfInBounds_toArray, List.set_cons_zero, List.set_cons_succ]
            have HN : Hid (N8 v2 d g15 g16 Y2) := ⟨hbY2, Ae, ce, Be, ce1, Ce, ce2, Ar, cr, _, _, hF1', hF2⟩
            refine doneT (by kernel_rfl) ?_
            clear hF1 hF2 hF1' hbY1 hbY2 hK1 hK2 hz15 hz16 hz16'
            go_wp2
            go_meet
            case rel => exact ⟨g15, g16, rfl, rfl, HN.out⟩
      · go_simp
        obtain ⟨V2, g16, hX, hg, hbn, hz16⟩ : ∃ (X : World) (g : Nat), V1.alloc (.cells #[.bool false, .bool false, .slice none 0 0, .slice none 0 0, .slice none 0 0] 42) = X ∧ V1.heap.size = g ∧ Below V1.heap.size V1 X ∧ Zero5 X g := ⟨_, _, rfl, rfl, below_new _ _, Five.new _ rfl _ _ _ _ _⟩
        have hb2 : Below v2.heap.size v2 V2 := hb1.trans (hbn.mono hb1.size)
        have hlo16 : v2.heap.size ≤ g16 := by rw [← hg]; exact hb1.size
        (try rw [hX]); (try rw [hg])
        refine hK.out _ _ (fun _ => HC.out V2 hb2) ?_
        clear hK K hbn hX hg
        try simp only [Act.put, List.setIfInBounds_toArray, List.set_cons_zero, List.set_cons_succ]
        refine twoT (i := 13) (j := 15) (by kernel_rfl) rfl rfl (by rfl) (by rfl) (fun K hK => ?_) (fun K hK => ?_)
        · go_simp
          refine (of_walk 0 1 (by omega) V2).mono ?_
          rintro e V3 ⟨rfl, hbn⟩
          have hb3 : Below v2.heap.size v2 V3 := hbn ▸ hb2
          have hz16 : Zero5 V3 g16 := hbn ▸ hz16
          refine hK.out _ _ (fun _ => HC.out V3 hb3) ?_
          clear hK K hbn
          try simp only [Act.put, List.setIfInBounds_toArray, List.set_cons_zero, List.set_cons_succ]
          refine twoT (i := 14) (j := 15) (by kernel_rfl) rfl rfl (by rfl) (by rfl) (fun K hK => ?_) (fun K hK => ?_)
          · go_simp
            refine (HLR.out V3 hb3).mono ?_
            rintro e V4 ⟨⟨Ar, cr, Br, cr1, Cr, cr2, rfl⟩, hbn⟩
            have hb4 : Below v2.heap.size v2 V4 := hb3.trans (hbn.mono hb3.size)
            have hz16 : Zero5 V4 g16 := (hbn.block g16 (Array.getElem?_eq_some_iff.1 hz16).1).trans hz16
            refine hK.out _ _ (fun _ => HC.out V4 hb4) ?_
            clear hK K hbn
            try simp only [Act.put, List.setIfInBounds_toArray, List.set_cons_zero, List.set_cons_succ]
            refine oneT (i := 15) (by kernel_rfl) rfl (by rfl) (fun K hK => ?_)
            go_simp
            obtain ⟨V5, g15, hX, hg, hbn, hz15⟩ : ∃ (X : World) (g : Nat), V4.alloc (.cells #[.bool false, .bool false, .slice none 0 0, .slice none 0 0, .slice none 0 0] 42) = X ∧ V4.heap.size = g ∧ Below V4.heap.size V4 X ∧ Zero5 X g := ⟨_, _, rfl, rfl, below_new _ _, Five.new _ rfl _ _ _ _ _⟩
            have hb5 : Below v2.heap.size v2 V5 := hb4.trans (hbn.mono hb4.size)
            have hlo15 : v2.heap.size ≤ g15 := by rw [← hg]; exact hb4.size
            have hlt16 : g16 < g15 := by rw [← hg]; exact (Array.getElem?_eq_some_iff.1 hz16).1
            have hz16 : Zero5 V5 g16 := (hbn.block g16 (Array.getElem?_eq_some_iff.1 hz16).1).trans hz16
            (try rw [hX]); (try rw [hg])
            refine hK.out _ _ (fun _ => HC.out V5 hb5) ?_
            clear hK K hbn hX hg
            try simp only [Act.put, List.setIfInBounds_toArray, List.set_cons_zero, List.set_cons_succ]
            as_aux_lemma =>
              have hne : g15 ≠ g16 := by omega
              obtain ⟨c0, c1, c2, c3, c4⟩ := hz15.cells
              have f0 : V5.frozen? ⟨g15, 0, none⟩ = false := frozen_of_row V5 g15 0 _ _ hz15
              have f1 : V5.frozen? ⟨g15, 1, none⟩ = false := frozen_of_row V5 g15 1 _ _ hz15
              have f2 : V5.frozen? ⟨g15, 2, none⟩ = false := frozen_of_row V5 g15 2 _ _ hz15
              have f3 : V5.frozen? ⟨g15, 3, none⟩ = false := frozen_of_row V5 g15 3 _ _ hz15
              have f4 : V5.frozen? ⟨g15, 4, none⟩ = false := frozen_of_row V5 g15 4 _ _ hz15
              obtain ⟨Y1, hY1, hF1, hbY1, hK1⟩ := put5 hz15 hb5 hlo15 true false (.slice Ae 0 ce) (.slice Be 0 ce1) (.slice Ce 1 ce2)
              have hz16' : Zero5 Y1 g16 := (hK1 g16 (fun e => hne e.symm)).trans hz16
              refine oneT (i := 17) (by kernel_rfl) rfl (by rfl) (fun K hK => ?_)
              go_simp
              (try rw [hY1])
              refine hK.out _ _ (fun _ => HC.out Y1 hbY1) ?_
              clear hK K c0 c1 c2 c3 c4 f0 f1 f2 f3 f4 hY1
              try simp only [Act.put, List.setIfInBounds_toArray, List.set_cons_zero, List.set_cons_succ]
              obtain ⟨c0, c1, c2, c3, c4⟩ := hz16'.cells
              have f0 : Y1.frozen? ⟨g16, 0, none⟩ = false := frozen_of_row Y1 g16 0 _ _ hz16'
              have f1 : Y1.frozen? ⟨g16, 1, none⟩ = false := frozen_of_row Y1 g16 1 _ _ hz16'
              have f2 : Y1.frozen? ⟨g16, 2, none⟩ = false := frozen_of_row Y1 g16 2 _ _ hz16'
              have f3 : Y1.frozen? ⟨g16, 3, none⟩ = false := frozen_of_row Y1 g16 3 _ _ hz16'
              have f4 : Y1.frozen? ⟨g16, 4, none⟩ = false := frozen_of_row Y1 g16 4 _ _ hz16'
              obtain ⟨Y2, hY2, hF2, hbY2, hK2⟩ := put5 hz16' hbY1 hlo16 false false (.slice Ar 0 cr) (.slice Br 0 cr1) (.slice Cr 0 cr2)
              have hF1' : Five Y2 g15 true false (.slice Ae 0 ce) (.slice Be 0 ce1) (.slice Ce 1 ce2) := (hK2 g15 hne).trans hF1
              refine oneT (i := 18) (by kernel_rfl) rfl (by rfl) (fun K hK => ?_)
              go_simp
              (try rw [hY2])
              refine hK.out _ _ (fun _ => HC.out Y2 hbY2) ?_
              clear hK K c0 c1 c2 c3 c4 f0 f1 f2 f3 f4 hY2
              try simp only [Act.put, List.setIfInBounds_toArray, List.set_cons_zero, List.set_cons_succ]
              have HN : Hid (N8 v2 d g15 g16 Y2) := ⟨hbY2, Ae, ce, Be, ce1, Ce, ce2, Ar, cr, _, _, hF1', hF2⟩
              refine doneT (by kernel_rfl) ?_
              clear hF1 hF2 hF1' hbY1 hbY2 hK1 hK2 hz15 hz16 hz16'
              go_wp2
              go_meet
              case rel => exact ⟨g15, g16, rfl, rfl, HN.out⟩
          · go_simp
            obtain ⟨V4, g15, hX, hg, hbn, hz15⟩ : ∃ (X : World) (g : Nat), V3.alloc (.cells #[.bool false, .bool false, .slice none 0 0, .slice none 0 0, .slice none 0 0] 42) = X ∧ V3.heap.size = g ∧ Below V3.heap.size V3 X ∧ Zero5 X g := ⟨_, _, rfl, rfl, below_new _ _, Five.new _ rfl _ _ _ _ _⟩
            have hb4 : Below v2.heap.size v2 V4 := hb3.trans (hbn.mono hb3.size)
            have hlo15 : v2.heap.size ≤ g15 := by rw [← hg]; exact hb3.size
            have hlt16 : g16 < g15 := by rw [← hg]; exact (Array.getElem?_eq_some_iff.1 hz16).1
            have hz16 : Zero5 V4 g16 := (hbn.block g16 (Array.getElem?_eq_some_iff.1 hz16).1).trans hz16
            (try rw [hX]); (try rw [hg])
            refine hK.out _ _ (fun _ => HC.out V4 hb4) ?_
            clear hK K hbn hX hg
            try simp only [Act.put, List.setIfInBounds_toArray, List.set_cons_zero, List.set_cons_succ]
            refine oneT (i := 14) (by kernel_rfl) rfl (by rfl) (fun K hK => ?_)
            go_simp
            refine (HLR.out V4 hb4).mono ?_
            rintro e V5 ⟨⟨Ar, cr, Br, cr1, Cr, cr2, rfl⟩, hbn⟩
            have hb5 : Below v2.heap.size v2 V5 := hb4.trans (hbn.mono hb4.size)
            have hz16 : Zero5 V5 g16 := (hbn.block g16 (Array.getElem?_eq_some_iff.1 hz16).1).trans hz16
            have hz15 : Zero5 V5 g15 := (hbn.block g15 (Array.getElem?_eq_some_iff.1 hz15).1).trans hz15
            refine hK.out _ _ (fun _ => HC.out V5 hb5) ?_
            clear hK K hbn
            try simp only [Act.put, List.setIfInBounds_toArray, List.set_cons_zero, List.set_cons_succ]
            as_aux_lemma =>
              have hne : g15 ≠ g16 := by omega
              obtain ⟨c0, c1, c2, c3, c4⟩ := hz15.cells
              have f0 : V5.frozen? ⟨g15, 0, none⟩ = false := frozen_of_row V5 g15 0 _ _ hz15
              have f1 : V5.frozen? ⟨g15, 1, none⟩ = false := frozen_of_row V5 g15 1 _ _ hz15
              have f2 : V5.frozen? ⟨g15, 2, none⟩ = false := frozen_of_row V5 g15 2 _ _ hz15
              have f3 : V5.frozen? ⟨g15, 3, none⟩ = false := frozen_of_row V5 g15 3 _ _ hz15
              have f4 : V5.frozen? ⟨g15, 4, none⟩ = false := frozen_of_row V5 g15 4 _ _ hz15
              obtain ⟨Y1, hY1, hF1, hbY1, hK1⟩ := put5 hz15 hb5 hlo15 true false (.slice Ae 0 ce) (.slice Be 0 ce1) (.slice Ce 1 ce2)
              have hz16' : Zero5 Y1 g16 := (hK1 g16 (fun e => hne e.symm)).trans hz16
              refine oneT (i := 17) (by kernel_rfl) rfl (by rfl) (fun K hK => ?_)
              go_simp
              (try rw [hY1])
              refine hK.out _ _ (fun _ => HC.out Y1 hbY1) ?_
              clear hK K c0 c1 c2 c3 c4 f0 f1 f2 f3 f4 hY1
              try simp only [Act.put, List.setIfInBounds_toArray, List.set_cons_zero, List.set_cons_succ]
              obtain ⟨c0, c1, c2, c3, c4⟩ := hz16'.cells
              have f0 : Y1.frozen? ⟨g16, 0, none⟩ = false := frozen_of_row Y1 g16 0 _ _ hz16'
              have f1 : Y1.frozen? ⟨g16, 1, none⟩ = false := frozen_of_row Y1 g16 1 _ _ hz16'
              have f2 : Y1.frozen? ⟨g16, 2, none⟩ = false := frozen_of_row Y1 g16 2 _ _ hz16'
              have f3 : Y1.frozen? ⟨g16, 3, none⟩ = false := frozen_of_row Y1 g16 3 _ _ hz16'
              have f4 : Y1.frozen? ⟨g16, 4, none⟩ = false := frozen_of_row Y1 g16 4 _ _ hz16'
              obtain ⟨Y2, hY2, hF2, hbY2, hK2⟩ := put5 hz16' hbY1 hlo16 false false (.slice Ar 0 cr) (.slice Br 0 cr1) (.slice Cr 0 cr2)
              have hF1' : Five Y2 g15 true false (.slice Ae 0 ce) (.slice Be 0 ce1) (.slice Ce 1 ce2) := (hK2 g15 hne).trans hF1
              refine oneT (i := 18) (by kernel_rfl) rfl (by rfl) (fun K hK => ?_)
              go_simp
              (try rw [hY2])
              refine hK.out _ _ (fun _ => HC.out Y2 hbY2) ?_
              clear hK K c0 c1 c2 c3 c4 f0 f1 f2 f3 f4 hY2
              try simp only [Act.put, List.setIfInBounds_toArray, List.set_cons_zero, List.set_cons_succ]
              have HN : Hid (N8 v2 d g15 g16 Y2) := ⟨hbY2, Ae, ce, Be, ce1, Ce, ce2, Ar, cr, _, _, hF1', hF2⟩
              refine doneT (by kernel_rfl) ?_
              clear hF1 hF2 hF1' hbY1 hbY2 hK1 hK2 hz15 hz16 hz16'
              go_wp2
              go_meet
              case rel => exact ⟨g15, g16, rfl, rfl, HN.out⟩
        · go_simp
          obtain ⟨V3, g15, hX, hg, hbn, hz15⟩ : ∃ (X : World) (g : Nat), V2.alloc (.cells #[.bool false, .bool false, .slice none 0 0, .slice none 0 0, .slice none 0 0] 42) = X ∧ V2.heap.size = g ∧ Below V2.heap.size V2 X ∧ Zero5 X g := ⟨_, _, rfl, rfl, below_new _ _, Five.new _ rfl _ _ _ _ _⟩
          have hb3 : Below v2.heap.size v2 V3 := hb2.trans (hbn.mono hb2.size)
          have hlo15 : v2.heap.size ≤ g15 := by rw [← hg]; exact hb2.size
          have hlt16 : g16 < g15 := by rw [← hg]; exact (Array.getElem?_eq_some_iff.1 hz16).1
          have hz16 : Zero5 V3 g16 := (hbn.block g16 (Array.getElem?_eq_some_iff.1 hz16).1).trans hz16
          (try rw [hX]); (try rw [hg])
          refine hK.out _ _ (fun _ => HC.out V3 hb3) ?_
          clear hK K hbn hX hg
          try simp only [Act.put, List.setIfInBounds_toArray, List.set_cons_zero, List.set_cons_succ]
          refine oneT (i := 13) (by kernel_rfl) rfl (by rfl) (fun K hK => ?_)
          go_simp
          refine (of_walk 0 1 (by omega) V3).mono ?_
          rintro e V4 ⟨rfl, hbn⟩
          have hb4 : Below v2.heap.size v2 V4 := hbn ▸ hb3
          have hz16 : Zero5 V4 g16 := hbn ▸ hz16
          have hz15 : Zero5 V4 g15 := hbn ▸ hz15
          refine hK.out _ _ (fun _ => HC.out V4 hb4) ?_
          clear hK K hbn
          try simp only [Act.put, List.setIfInBounds_toArray, List.set_cons_zero, List.set_cons_succ]
          refine oneT (i := 14) (by kernel_rfl) rfl (by rfl) (fun K hK => ?_)
          go_simp
          refine (HLR.out V4 hb4).mono ?_
          rintro e V5 ⟨⟨Ar, cr, Br, cr1, Cr, cr2, rfl⟩, hbn⟩
          have hb5 : Below v2.heap.size v2 V5 := hb4.trans (hbn.mono hb4.size)
          have hz16 : Zero5 V5 g16 := (hbn.block g16 (Array.getElem?_eq_some_iff.1 hz16).1).trans hz16
          have hz15 : Zero5 V5 g15 := (hbn.block g15 (Array.getElem?_eq_some_iff.1 hz15).1).trans hz15
          refine hK.out _ _ (fun _ => HC.out V5 hb5) ?_
          clear hK K hbn
          try simp only [Act.put, List.setIfInBounds_toArray, List.set_cons_zero, List.set_cons_succ]
          as_aux_lemma =>
            have hne : g15 ≠ g16 := by omega
            obtain ⟨c0, c1, c2, c3, c4⟩ := hz15.cells
            have f0 : V5.frozen? ⟨g15, 0, none⟩ = false := frozen_of_row V5 g15 0 _ _ hz15
            have f1 : V5.frozen? ⟨g15, 1, none⟩ = false := frozen_of_row V5 g15 1 _ _ hz15
            have f2 : V5.frozen? ⟨g15, 2, none⟩ = false := frozen_of_row V5 g15 2 _ _ hz15
            have f3 : V5.frozen? ⟨g15, 3, none⟩ = false := frozen_of_row V5 g15 3 _ _ hz15
            have f4 : V5.frozen? ⟨g15, 4, none⟩ = false := frozen_of_row V5 g15 4 _ _ hz15
            obtain ⟨Y1, hY1, hF1, hbY1, hK1⟩ := put5 hz15 hb5 hlo15 true false (.slice Ae 0 ce) (.slice Be 0 ce1) (.slice Ce 1 ce2)
            have hz16' : Zero5 Y1 g16 := (hK1 g16 (fun e => hne e.symm)).trans hz16
            refine oneT (i := 17) (by kernel_rfl) rfl (by rfl) (fun K hK => ?_)
            go_simp
            (try rw [hY1])
            refine hK.out _ _ (fun _ => HC.out Y1 hbY1) ?_
            clear hK K c0 c1 c2 c3 c4 f0 f1 f2 f3 f4 hY1
            try simp only [Act.put, List.setIfInBounds_toArray, List.set_cons_zero, List.set_cons_succ]
            obtain ⟨c0, c1, c2, c3, c4⟩ := hz16'.cells
            have f0 : Y1.frozen? ⟨g16, 0, none⟩ = false := frozen_of_row Y1 g16 0 _ _ hz16'
            have f1 : Y1.frozen? ⟨g16, 1, none⟩ = false := frozen_of_row Y1 g16 1 _ _ hz16'
            have f2 : Y1.frozen? ⟨g16, 2, none⟩ = false := frozen_of_row Y1 g16 2 _ _ hz16'
            have f3 : Y1.frozen? ⟨g16, 3, none⟩ = false := frozen_of_row Y1 g16 3 _ _ hz16'
            have f4 : Y1.frozen? ⟨g16, 4, none⟩ = false := frozen_of_row Y1 g16 4 _ _ hz16'
            obtain ⟨Y2, hY2, hF2, hbY2, hK2⟩ := put5 hz16' hbY1 hlo16 false false (.slice Ar 0 cr) (.slice Br 0 cr1) (.slice Cr 0 cr2)
            have hF1' : Five Y2 g15 true false (.slice Ae 0 ce) (.slice Be 0 ce1) (.slice Ce 1 ce2) := (hK2 g15 hne).trans hF1
            refine oneT (i := 18) (by kernel_rfl) rfl (by rfl) (fun K hK => ?_)
            go_simp
            (try rw [hY2])
            refine hK.out _ _ (fun _ => HC.out Y2 hbY2) ?_
            clear hK K c0 c1 c2 c3 c4 f0 f1 f2 f3 f4 hY2
            try simp only [Act.put, List.setIfInBounds_toArray, List.set_cons_zero, List.set_cons_succ]
            have HN : Hid (N8 v2 d g15 g16 Y2) := ⟨hbY2, Ae, ce, Be, ce1, Ce, ce2, Ar, cr, _, _, hF1', hF2⟩
            refine doneT (by kernel_rfl) ?_
            clear hF1 hF2 hF1' hbY1 hbY2 hK1 hK2 hz15 hz16 hz16'
            go_wp2
            go_meet
            case rel => exact ⟨g15, g16, rfl, rfl, HN.out⟩
    · go_simp
      obtain ⟨V1, g15, hX, hg, hbn, hz15⟩ : ∃ (X : World) (g : Nat), V0.alloc (.cells #[.bool false, .bool false, .slice none 0 0, .slice none 0 0, .slice none 0 0] 42) = X ∧ V0.heap.size = g ∧ Below V0.heap.size V0 X ∧ Zero5 X g := ⟨_, _, rfl, rfl, below_new _ _, Five.new _ rfl _ _ _ _ _⟩
      have hb1 : Below v2.heap.size v2 V1 := hb0.trans (hbn.mono hb0.size)
      have hlo15 : v2.heap.size ≤ g15 := by rw [← hg]; exact hb0.size
      (try rw [hX]); (try rw [hg])
      refine hK.out _ _ (fun _ => HC.out V1 hb1) ?_
      clear hK K hbn hX hg
      try simp only [Act.put, List.setIfInBounds_toArray, List.set_cons_zero, List.set_cons_succ]
      refine twoT (i := 8) (j := 16) (by kernel_rfl) rfl rfl (by rfl) (by rfl) (fun K hK => ?_) (fun K hK => ?_)
      · go_simp
        refine (HLE.out V1 hb1).mono ?_
        rintro e V2 ⟨⟨Ae, ce, Be, ce1, Ce, ce2, rfl⟩, hbn⟩
        have hb2 : Below v2.heap.size v2 V2 := hb1.trans (hbn.mono hb1.size)
        have hz15 : Zero5 V2 g15 := (hbn.block g15 (Array.getElem?_eq_some_iff.1 hz15).1).trans hz15
        refine hK.out _ _ (fun _ => HC.out V2 hb2) ?_
        clear hK K hbn
        try simp only [Act.put, List.setIfInBounds_toArray, List.set_cons_zero, List.set_cons_succ]
        refine twoT (i := 13) (j := 16) (by kernel_rfl) rfl rfl (by rfl) (by rfl) (fun K hK => ?_) (fun K hK => ?_)
        · go_simp
          refine (of_walk 0 1 (by omega) V2).mono ?_
          rintro e V3 ⟨rfl, hbn⟩
          have hb3 : Below v2.heap.size v2 V3 := hbn ▸ hb2
          have hz15 : Zero5 V3 g15 := hbn ▸ hz15
          refine hK.out _ _ (fun _ => HC.out V3 hb3) ?_
          clear hK K hbn
          try simp only [Act.put, List.setIfInBounds_toArray, List.set_cons_zero, List.set_cons_succ]
          refine twoT (i := 14) (j := 16) (by kernel_rfl) rfl rfl (by rfl) (by rfl) (fun K hK => ?_) (fun K hK => ?_)
          · go_simp
            refine (HLR.out V3 hb3).mono ?_
            rintro e V4 ⟨⟨Ar, cr, Br, cr1, Cr, cr2, rfl⟩, hbn⟩
            have hb4 : Below v2.heap.size v2 V4 := hb3.trans (hbn.mono hb3.size)
            have hz15 : Zero5 V4 g15 := (hbn.block g15 (Array.getElem?_eq_some_iff.1 hz15).1).trans hz15
            refine hK.out _ _ (fun _ => HC.out V4 hb4) ?_
            clear hK K hbn
            try simp only [Act.put, List.setIfInBounds_toArray, List.set_cons_zero, List.set_cons_succ]
            refine oneT (i := 16) (by kernel_rfl) rfl (by rfl) (fun K hK => ?_)
            go_simp
            obtain ⟨V5, g16, hX, hg, hbn, hz16⟩ : ∃ (X : World) (g : Nat), V4.alloc (.cells #[.bool false, .bool false, .slice none 0 0, .slice none 0 0, .slice none 0 0] 42) = X ∧ V4.heap.size = g ∧ Below V4.heap.size V4 X ∧ Zero5 X g := ⟨_, _, rfl, rfl, below_new _ _, Five.new _ rfl _ _ _ _ _⟩
            have hb5 : Below v2.heap.size v2 V5 := hb4.trans (hbn.mono hb4.size)
            have hlo16 : v2.heap.size ≤ g16 := by rw [← hg]; exact hb4.size
            have hlt15 : g15 < g16 := by rw [← hg]; exact (Array.getElem?_eq_some_iff.1 hz15).1
            have hz15 : Zero5 V5 g15 := (hbn.block g15 (Array.getElem?_eq_some_iff.1 hz15).1).trans hz15
            (try rw [hX]); (try rw [hg])
            refine hK.out _ _ (fun _ => HC.out V5 hb5) ?_
            clear hK K hbn hX hg
            try simp only [Act.put, List.setIfInBounds_toArray, List.set_cons_zero, List.set_cons_succ]
            as_aux_lemma =>
              have hne : g15 ≠ g16 := by omega
              obtain ⟨c0, c1, c2, c3, c4⟩ := hz15.cells
              have f0 : V5.frozen? ⟨g15, 0, none⟩ = false := frozen_of_row V5 g15 0 _ _ hz15
              have f1 : V5.frozen? ⟨g15, 1, none⟩ = false := frozen_of_row V5 g15 1 _ _ hz15
              have f2 : V5.frozen? ⟨g15, 2, none⟩ = false := frozen_of_row V5 g15 2 _ _ hz15
              have f3 : V5.frozen? ⟨g15, 3, none⟩ = false := frozen_of_row V5 g15 3 _ _ hz15
              have f4 : V5.frozen? ⟨g15, 4, none⟩ = false := frozen_of_row V5 g15 4 _ _ hz15
              obtain ⟨Y1, hY1, hF1, hbY1, hK1⟩ := put5 hz15 hb5 hlo15 true false (.slice Ae 0 ce) (.slice Be 0 ce1) (.slice Ce 1 ce2)
              have hz16' : Zero5 Y1 g16 := (hK1 g16 (fun e => hne e.symm)).trans hz16
              refine oneT (i := 17) (by kernel_rfl) rfl (by rfl) (fun K hK => ?_)
              go_simp
              (try rw [hY1])
              refine hK.out _ _ (fun _ => HC.out Y1 hbY1) ?_
              clear hK K c0 c1 c2 c3 c4 f0 f1 f2 f3 f4 hY1
              try simp only [Act.put, List.setIfInBounds_toArray, List.set_cons_zero, List.set_cons_succ]
              obtain ⟨c0, c1, c2, c3, c4⟩ := hz16'.cells
              have f0 : Y1.frozen? ⟨g16, 0, none⟩ = false := frozen_of_row Y1 g16 0 _ _ hz16'
              have f1 : Y1.frozen? ⟨g16, 1, none⟩ = false := frozen_of_row Y1 g16 1 _ _ hz16'
              have f2 : Y1.frozen? ⟨g16, 2, none⟩ = false := frozen_of_row Y1 g16 2 _ _ hz16'
              have f3 : Y1.frozen? ⟨g16, 3, none⟩ = false := frozen_of_row Y1 g16 3 _ _ hz16'
              have f4 : Y1.frozen? ⟨g16, 4, none⟩ = false := frozen_of_row Y1 g16 4 _ _ hz16'
              obtain ⟨Y2, hY2, hF2, hbY2, hK2⟩ := put5 hz16' hbY1 hlo16 false false (.slice Ar 0 cr) (.slice Br 0 cr1) (.slice Cr 0 cr2)
              have hF1' : Five Y2 g15 true false (.slice Ae 0 ce) (.slice Be 0 ce1) (.slice Ce 1 ce2) := (hK2 g15 hne).trans hF1
              refine oneT (i := 18) (by kernel_rfl) rfl (by rfl) (fun K hK => ?_)
              go_simp
              (try rw [hY2])
              refine hK.out _ _ (fun _ => HC.out Y2 hbY2) ?_
              clear hK K c0 c1 c2 c3 c4 f0 f1 f2 f3 f4 hY2
              try simp only [Act.put, List.setIfInBounds_toArray, List.set_cons_zero, List.set_cons_succ]
              have HN : Hid (N8 v2 d g15 g16 Y2) := ⟨hbY2, Ae, ce, Be, ce1, Ce, ce2, Ar, cr, _, _, hF1', hF2⟩
              refine doneT (by kernel_rfl) ?_
              clear hF1 hF2 hF1' hbY1 hbY2 hK1 hK2 hz15 hz16 hz16'
              go_wp2
              go_meet
              case rel => exact ⟨g15, g16, rfl, rfl, HN.out⟩
          · go_simp
            obtain ⟨V4, g16, hX, hg, hbn, hz16⟩ : ∃ (X : World) (g : Nat), V3.alloc (.cells #[.bool false, .bool false, .slice none 0 0, .slice none 0 0, .slice none 0 0] 42) = X ∧ V3.heap.size = g ∧ Below V3.heap.size V3 X ∧ Zero5 X g := ⟨_, _, rfl, rfl, below_new _ _, Five.new _ rfl _ _ _ _ _⟩
            have hb4 : Below v2.heap.size v2 V4 := hb3.trans (hbn.mono hb3.size)
            have hlo16 : v2.heap.size ≤ g16 := by rw [← hg]; exact hb3.size
            have hlt15 : g15 < g16 := by rw [← hg]; exact (Array.getElem?_eq_some_iff.1 hz15).1
            have hz15 : Zero5 V4 g15 := (hbn.block g15 (Array.getElem?_eq_some_iff.1 hz15).1).trans hz15
            (try rw [hX]); (try rw [hg])
            refine hK.out _ _ (fun _ => HC.out V4 hb4) ?_
            clear hK K hbn hX hg
            try simp only [Act.put, List.setIfInBounds_toArray, List.set_cons_zero, List.set_cons_succ]
            refine oneT (i := 14) (by kernel_rfl) rfl (by rfl) (fun K hK => ?_)
            go_simp
            refine (HLR.out V4 hb4).mono ?_
            rintro e V5 ⟨⟨Ar, cr, Br, cr1, Cr, cr2, rfl⟩, hbn⟩
            have hb5 : Below v2.heap.size v2 V5 := hb4.trans (hbn.mono hb4.size)
            have hz15 : Zero5 V5 g15 := (hbn.block g15 (Array.getElem?_eq_some_iff.1 hz15).1).trans hz15
            have hz16 : Zero5 V5 g16 := (hbn.block g16 (Array.getElem?_eq_some_iff.1 hz16).1).trans hz16
            refine hK.out _ _ (fun _ => HC.out V5 hb5) ?_
            clear hK K hbn
            try simp only [Act.put, List.setIfInBounds_toArray, List.set_cons_zero, List.set_cons_succ]
            as_aux_lemma =>
              have hne : g15 ≠ g16 := by omega
              obtain ⟨c0, c1, c2, c3, c4⟩ := hz15.cells
              have f0 : V5.frozen? ⟨g15, 0, none⟩ = false := frozen_of_row V5 g15 0 _ _ hz15
              have f1 : V5.frozen? ⟨g15, 1, none⟩ = false := frozen_of_row V5 g15 1 _ _ hz15
              have f2 : V5.frozen? ⟨g15, 2, none⟩ = false := frozen_of_row V5 g15 2 _ _ hz15
              have f3 : V5.frozen? ⟨g15, 3, none⟩ = false := frozen_of_row V5 g15 3 _ _ hz15
              have f4 : V5.frozen? ⟨g15, 4, none⟩ = false := frozen_of_row V5 g15 4 _ _ hz15
              obtain ⟨Y1, hY1, hF1, hbY1, hK1⟩ := put5 hz15 hb5 hlo15 true false (.slice Ae 0 ce) (.slice Be 0 ce1) (.slice Ce 1 ce2)
              have hz16' : Zero5 Y1 g16 := (hK1 g16 (fun e => hne e.symm)).trans hz16
              refine oneT (i := 17) (by kernel_rfl) rfl (by rfl) (fun K hK => ?_)
              go_simp
              (try rw [hY1])
              refine hK.out _ _ (fun _ => HC.out Y1 hbY1) ?_
              clear hK K c0 c1 c2 c3 c4 f0 f1 f2 f3 f4 hY1
              try simp only [Act.put, List.setIfInBounds_toArray, List.set_cons_zero, List.set_cons_succ]
              obtain ⟨c0, c1, c2, c3, c4⟩ := hz16'.cells
              have f0 : Y1.frozen? ⟨g16, 0, none⟩ = false := frozen_of_row Y1 g16 0 _ _ hz16'
              have f1 : Y1.frozen? ⟨g16, 1, none⟩ = false := frozen_of_row Y1 g16 1 _ _ hz16'
              have f2 : Y1.frozen? ⟨g16, 2, none⟩ = false := frozen_of_row Y1 g16 2 _ _ hz16'
              have f3 : Y1.frozen? ⟨g16, 3, none⟩ = false := frozen_of_row Y1 g16 3 _ _ hz16'
              have f4 : Y1.frozen? ⟨g16, 4, none⟩ = false := frozen_of_row Y1 g16 4 _ _ hz16'
              obtain ⟨Y2, hY2, hF2, hbY2, hK2⟩ := put5 hz16' hbY1 hlo16 false false (.slice Ar 0 cr) (.slice Br 0 cr1) (.slice Cr 0 cr2)
              have hF1' : Five Y2 g15 true false (.slice Ae 0 ce) (.slice Be 0 ce1) (.slice Ce 1 ce2) := (hK2 g15 hne).trans hF1
              refine oneT (i := 18) (by kernel_rfl) rfl (by rfl) (fun K hK => ?_)
              go_simp
              (try rw [hY2])
              refine hK.out _ _ (fun _ => HC.out Y2 hbY2) ?_
              clear hK K c0 c1 c2 c3 c4 f0 f1 f2 f3 f4 hY2
              try simp only [Act.put, List.setIfInBounds_toArray, List.set_cons_zero, List.set_cons_succ]
              have HN : Hid (N8 v2 d g15 g16 Y2) := ⟨hbY2, Ae, ce, Be, ce1, Ce, ce2, Ar, cr, _, _, hF1', hF2⟩
              refine doneT (by kernel_rfl) ?_
              clear hF1 hF2 hF1' hbY1 hbY2 hK1 hK2 hz15 hz16 hz16'
              go_wp2
              go_meet
              case rel => exact ⟨g15, g16, rfl, rfl, HN.out⟩
        · go_simp
          obtain ⟨V3, g16, hX, hg, hbn, hz16⟩ : ∃ (X : World) (g : Nat), V2.alloc (.cells #[.bool false, .bool false, .slice none 0 0, .slice none 0 0, .slice none 0 0] 42) = X ∧ V2.heap.size = g ∧ Below V2.heap.size V2 X ∧ Zero5 X g := ⟨_, _, rfl, rfl, below_new _ _, Five.new _ rfl _ _ _ _ _⟩
          have hb3 : Below v2.heap.size v2 V3 := hb2.trans (hbn.mono hb2.size)
          have hlo16 : v2.heap.size ≤ g16 := by rw [← hg]; exact hb2.size
          have hlt15 : g15 < g16 := by rw [← hg]; exact (Array.getElem?_eq_some_iff.1 hz15).1
          have hz15 : Zero5 V3 g15 := (hbn.block g15 (Array.getElem?_eq_some_iff.1 hz15).1).trans hz15
          (try rw [hX]); (try rw [hg])
          refine hK.out _ _ (fun _ => HC.out V3 hb3) ?_
          clear hK K hbn hX hg
          try simp only [Act.put, List.setIfInBounds_toArray, List.set_cons_zero, List.set_cons_succ]
          refine oneT (i := 13) (by kernel_rfl) rfl (by rfl) (fun K hK => ?_)
          go_simp
          refine (of_walk 0 1 (by omega) V3).mono ?_
          rintro e V4 ⟨rfl, hbn⟩
          have hb4 : Below v2.heap.size v2 V4 := hbn ▸ hb3
          have hz15 : Zero5 V4 g15 := hbn ▸ hz15
          have hz16 : Zero5 V4 g16 := hbn ▸ hz16
          refine hK.out _ _ (fun _ => HC.out V4 hb4) ?_
          clear hK K hbn
          try simp only [Act.put, List.setIfInBounds_toArray, List.set_cons_zero, List.set_cons_succ]
          refine oneT (i := 14) (by kernel_rfl) rfl (by rfl) (fun K hK => ?_)
          go_simp
          refine (HLR.out V4 hb4).mono ?_
          rintro e V5 ⟨⟨Ar, cr, Br, cr1, Cr, cr2, rfl⟩, hbn⟩
          have hb5 : Below v2.heap.size v2 V5 := hb4.trans (hbn.mono hb4.size)
          have hz15 : Zero5 V5 g15 := (hbn.block g15 (Array.getElem?_eq_some_iff.1 hz15).1).trans hz15
          have hz16 : Zero5 V5 g16 := (hbn.block g16 (Array.getElem?_eq_some_iff.1 hz16).1).trans hz16
          refine hK.out _ _ (fun _ => HC.out V5 hb5) ?_
          clear hK K hbn
          try simp only [Act.put, List.setIfInBounds_toArray, List.set_cons_zero, List.set_cons_succ]
          as_aux_lemma =>
            have hne : g15 ≠ g16 := by omega
            obtain ⟨c0, c1, c2, c3, c4⟩ := hz15.cells
            have f0 : V5.frozen? ⟨g15, 0, none⟩ = false := frozen_of_row V5 g15 0 _ _ hz15
            have f1 : V5.frozen? ⟨g15, 1, none⟩ = false := frozen_of_row V5 g15 1 _ _ hz15
            have f2 : V5.frozen? ⟨g15, 2, none⟩ = false := frozen_of_row V5 g15 2 _ _ hz15
            have f3 : V5.frozen? ⟨g15, 3, none⟩ = false := frozen_of_row V5 g15 3 _ _ hz15
            have f4 : V5.frozen? ⟨g15, 4, none⟩ = false := frozen_of_row V5 g15 4 _ _ hz15
            obtain ⟨Y1, hY1, hF1, hbY1, hK1⟩ := put5 hz15 hb5 hlo15 true false (.slice Ae 0 ce) (.slice Be 0 ce1) (.slice Ce 1 ce2)
            have hz16' : Zero5 Y1 g16 := (hK1 g16 (fun e => hne e.symm)).trans hz16
            refine oneT (i := 17) (by kernel_rfl) rfl (by rfl) (fun K hK => ?_)
            go_simp
            (try rw [hY1])
            refine hK.out _ _ (fun _ => HC.out Y1 hbY1) ?_
            clear hK K c0 c1 c2 c3 c4 f0 f1 f2 f3 f4 hY1
            try simp only [Act.put, List.setIfInBounds_toArray, List.set_cons_zero, List.set_cons_succ]
            obtain ⟨c0, c1, c2, c3, c4⟩ := hz16'.cells
            have f0 : Y1.frozen? ⟨g16, 0, none⟩ = false := frozen_of_row Y1 g16 0 _ _ hz16'
            have f1 : Y1.frozen? ⟨g16, 1, none⟩ = false := frozen_of_row Y1 g16 1 _ _ hz16'
            have f2 : Y1.frozen? ⟨g16, 2, none⟩ = false := frozen_of_row Y1 g16 2 _ _ hz16'
            have f3 : Y1.frozen? ⟨g16, 3, none⟩ = false := frozen_of_row Y1 g16 3 _ _ hz16'
            have f4 : Y1.frozen? ⟨g16, 4, none⟩ = false := frozen_of_row Y1 g16 4 _ _ hz16'
            obtain ⟨Y2, hY2, hF2, hbY2, hK2⟩ := put5 hz16' hbY1 hlo16 false false (.slice Ar 0 cr) (.slice Br 0 cr1) (.slice Cr 0 cr2)
            have hF1' : Five Y2 g15 true false (.slice Ae 0 ce) (.slice Be 0 ce1) (.slice Ce 1 ce2) := (hK2 g15 hne).trans hF1
            refine oneT (i := 18) (by kernel_rfl) rfl (by rfl) (fun K hK => ?_)
            go_simp
            (try rw [hY2])
            refine hK.out _ _ (fun _ => HC.out Y2 hbY2) ?_
            clear hK K c0 c1 c2 c3 c4 f0 f1 f2 f3 f4 hY2
            try simp only [Act.put, List.setIfInBounds_toArray, List.set_cons_zero, List.set_cons_succ]
            have HN : Hid (N8 v2 d g15 g16 Y2) := ⟨hbY2, Ae, ce, Be, ce1, Ce, ce2, Ar, cr, _, _, hF1', hF2⟩
            refine doneT (by kernel_rfl) ?_
            clear hF1 hF2 hF1' hbY1 hbY2 hK1 hK2 hz15 hz16 hz16'
            go_wp2
            go_meet
            case rel => exact ⟨g15, g16, rfl, rfl, HN.out⟩
      · go_simp
        obtain ⟨V2, g16, hX, hg, hbn, hz16⟩ : ∃ (X : World) (g : Nat), V1.alloc (.cells #[.bool false, .bool false, .slice none 0 0, .slice none 0 0, .slice none 0 0] 42) = X ∧ V1.heap.size = g ∧ Below V1.heap.size V1 X ∧ Zero5 X g := ⟨_, _, rfl, rfl, below_new _ _, Five.new _ rfl _ _ _ _ _⟩
        have hb2 : Below v2.heap.size v2 V2 := hb1.trans (hbn.mono hb1.size)
        have hlo16 : v2.heap.size ≤ g16 := by rw [← hg]; exact hb1.size
        have hlt15 : g15 < g16 := by rw [← hg]; exact (Array.getElem?_eq_some_iff.1 hz15).1
        have hz15 : Zero5 V2 g15 := (hbn.block g15 (Array.getElem?_eq_some_iff.1 hz15).1).trans hz15
        (try rw [hX]); (try rw [hg])
        refine hK.out _ _ (fun _ => HC.out V2 hb2) ?_
        clear hK K hbn hX hg
        try simp only [Act.put, List.setIfInBounds_toArray, List.set_cons_zero, List.set_cons_succ]
        refine oneT (i := 8) (by kernel_rfl) rfl (by rfl) (fun K hK => ?_)
        go_simp
        refine (HLE.out V2 hb2).mono ?_
        rintro e V3 ⟨⟨Ae, ce, Be, ce1, Ce, ce2, rfl⟩, hbn⟩
        have hb3 : Below v2.heap.size v2 V3 := hb2.trans (hbn.mono hb2.size)
        have hz15 : Zero5 V3 g15 := (hbn.block g15 (Array.getElem?_eq_some_iff.1 hz15).1).trans hz15
        have hz16 : Zero5 V3 g16 := (hbn.block g16 (Array.getElem?_eq_some_iff.1 hz16).1).trans hz16
        refine hK.out _ _ (fun _ => HC.out V3 hb3) ?_
        clear hK K hbn
        try simp only [Act.put, List.setIfInBounds_toArray, List.set_cons_zero, List.set_cons_succ]
        refine oneT (i := 13) (by kernel_rfl) rfl (by rfl) (fun K hK => ?_)
        go_simp
        refine (of_walk 0 1 (by omega) V3).mono ?_
        rintro e V4 ⟨rfl, hbn⟩
        have hb4 : Below v2.heap.size v2 V4 := hbn ▸ hb3
        have hz15 : Zero5 V4 g15 := hbn ▸ hz15
        have hz16 : Zero5 V4 g16 := hbn ▸ hz16
        refine hK.out _ _ (fun _ => HC.out V4 hb4) ?_
        clear hK K hbn
        try simp only [Act.put, List.setIfInBounds_toArray, List.set_cons_zero, List.set_cons_succ]
        refine oneT (i := 14) (by kernel_rfl) rfl (by rfl) (fun K hK => ?_)
        go_simp
        refine (HLR.out V4 hb4).mono ?_
        rintro e V5 ⟨⟨Ar, cr, Br, cr1, Cr, cr2, rfl⟩, hbn⟩
        have hb5 : Below v2.heap.size v2 V5 := hb4.trans (hbn.mono hb4.size)
        have hz15 : Zero5 V5 g15 := (hbn.block g15 (Array.getElem?_eq_some_iff.1 hz15).1).trans hz15
        have hz16 : Zero5 V5 g16 := (hbn.block g16 (Array.getElem?_eq_some_iff.1 hz16).1).trans hz16
        refine hK.out _ _ (fun _ => HC.out V5 hb5) ?_
        clear hK K hbn
        try simp only [Act.put, List.setIfInBounds_toArray, List.set_cons_zero, List.set_cons_succ]
        as_aux_lemma =>
          have hne : g15 ≠ g16 := by omega
          obtain ⟨c0, c1, c2, c3, c4⟩ := hz15.cells
          have f0 : V5.frozen? ⟨g15, 0, none⟩ = false := frozen_of_row V5 g15 0 _ _ hz15
          have f1 : V5.frozen? ⟨g15, 1, none⟩ = false := frozen_of_row V5 g15 1 _ _ hz15
          have f2 : V5.frozen? ⟨g15, 2, none⟩ = false := frozen_of_row V5 g15 2 _ _ hz15
          have f3 : V5.frozen? ⟨g15, 3, none⟩ = false := frozen_of_row V5 g15 3 _ _ hz15
          have f4 : V5.frozen? ⟨g15, 4, none⟩ = false := frozen_of_row V5 g15 4 _ _ hz15
          obtain ⟨Y1, hY1, hF1, hbY1, hK1⟩ := put5 hz15 hb5 hlo15 true false (.slice Ae 0 ce) (.slice Be 0 ce1) (.slice Ce 1 ce2)
          have hz16' : Zero5 Y1 g16 := (hK1 g16 (fun e => hne e.symm)).trans hz16
          refine oneT (i := 17) (by kernel_rfl) rfl (by rfl) (fun K hK => ?_)
          go_simp
          (try rw [hY1])
          refine hK.out _ _ (fun _ => HC.out Y1 hbY1) ?_
          clear hK K c0 c1 c2 c3 c4 f0 f1 f2 f3 f4 hY1
          try simp only [Act.put, List.setIfInBounds_toArray, List.set_cons_zero, List.set_cons_succ]
          obtain ⟨c0, c1, c2, c3, c4⟩ := hz16'.cells
          have f0 : Y1.frozen? ⟨g16, 0, none⟩ = false := frozen_of_row Y1 g16 0 _ _ hz16'
          have f1 : Y1.frozen? ⟨g16, 1, none⟩ = false := frozen_of_row Y1 g16 1 _ _ hz16'
          have f2 : Y1.frozen? ⟨g16, 2, none⟩ = false := frozen_of_row Y1 g16 2 _ _ hz16'
          have f3 : Y1.frozen? ⟨g16, 3, none⟩ = false := frozen_of_row Y1 g16 3 _ _ hz16'
          have f4 : Y1.frozen? ⟨g16, 4, none⟩ = false := frozen_of_row Y1 g16 4 _ _ hz16'
          obtain ⟨Y2, hY2, hF2, hbY2, hK2⟩ := put5 hz16' hbY1 hlo16 false false (.slice Ar 0 cr) (.slice Br 0 cr1) (.slice Cr 0 cr2)
          have hF1' : Five Y2 g15 true false (.slice Ae 0 ce) (.slice Be 0 ce1) (.slice Ce 1 ce2) := (hK2 g15 hne).trans hF1
          refine oneT (i := 18) (by kernel_rfl) rfl (by rfl) (fun K hK => ?_)
          go_simp
          (try rw [hY2])
          refine hK.out _ _ (fun _ => HC.out Y2 hbY2) ?_
          clear hK K c0 c1 c2 c3 c4 f0 f1 f2 f3 f4 hY2
          try simp only [Act.put, List.setIfInBounds_toArray, List.set_cons_zero, List.set_cons_succ]
          have HN : Hid (N8 v2 d g15 g16 Y2) := ⟨hbY2, Ae, ce, Be, ce1, Ce, ce2, Ar, cr, _, _, hF1', hF2⟩
          refine doneT (by kernel_rfl) ?_
          clear hF1 hF2 hF1' hbY1 hbY2 hK1 hK2 hz15 hz16 hz16'
          go_wp2
          go_meet
          case rel => exact ⟨g15, g16, rfl, rfl, HN.out⟩
    · go_simp
      obtain ⟨V1, g16, hX, hg, hbn, hz16⟩ : ∃ (X : World) (g : Nat), V0.alloc (.cells #[.bool false, .bool false, .slice none 0 0, .slice none 0 0, .slice none 0 0] 42) = X ∧ V0.heap.size = g ∧ Below V0.heap.size V0 X ∧ Zero5 X g := ⟨_, _, rfl, rfl, below_new _ _, Five.new _ rfl _ _ _ _ _⟩
      have hb1 : Below v2.heap.size v2 V1 := hb0.trans (hbn.mono hb0.size)
      have hlo16 : v2.heap.size ≤ g16 := by rw [← hg]; exact hb0.size
      (try rw [hX]); (try rw [hg])
      refine hK.out _ _ (fun _ => HC.out V1 hb1) ?_
      clear hK K hbn hX hg
      try simp only [Act.put, List.setIfInBounds_toArray, List.set_cons_zero, List.set_cons_succ]
      refine twoT (i := 8) (j := 15) (by kernel_rfl) rfl rfl (by rfl) (by rfl) (fun K hK => ?_) (fun K hK => ?_)
      · go_simp
        refine (HLE.out V1 hb1).mono ?_
        rintro e V2 ⟨⟨Ae, ce, Be, ce1, Ce, ce2, rfl⟩, hbn⟩
        have hb2 : Below v2.heap.size v2 V2 := hb1.trans (hbn.mono hb1.size)
        have hz16 : Zero5 V2 g16 := (hbn.block g16 (Array.getElem?_eq_some_iff.1 hz16).1).trans hz16
        refine hK.out _ _ (fun _ => HC.out V2 hb2) ?_
        clear hK K hbn
        try simp only [Act.put, List.setIfInBounds_toArray, List.set_cons_zero, List.set_cons_succ]
        refine twoT (i := 13) (j := 15) (by kernel_rfl) rfl rfl (by rfl) (by rfl) (fun K hK => ?_) (fun K hK => ?_)
        · go_simp
          refine (of_walk 0 1 (by omega) V2).mono ?_
          rintro e V3 ⟨rfl, hbn⟩
          have hb3 : Below v2.heap.size v2 V3 := hbn ▸ hb2
          have hz16 : Zero5 V3 g16 := hbn ▸ hz16
          refine hK.out _ _ (fun _ => HC.out V3 hb3) ?_
          clear hK K hbn
          try simp only [Act.put, List.setIfInBounds_toArray, List.set_cons_zero, List.set_cons_succ]
          refine twoT (i := 14) (j := 15) (by kernel_rfl) rfl rfl (by rfl) (by rfl) (fun K hK => ?_) (fun K hK => ?_)
          · go_simp
            refine (HLR.out V3 hb3).mono ?_
            rintro e V4 ⟨⟨Ar, cr, Br, cr1, Cr, cr2, rfl⟩, hbn⟩
            have hb4 : Below v2.heap.size v2 V4 := hb3.trans (hbn.mono hb3.size)
            have hz16 : Zero5 V4 g16 := (hbn.block g16 (Array.getElem?_eq_some_iff.1 hz16).1).trans hz16
            refine hK.out _ _ (fun _ => HC.out V4 hb4) ?_
            clear hK K hbn
            try simp only [Act.put, List.setIfInBounds_toArray, List.set_cons_zero, List.set_cons_succ]
            refine oneT (i := 15) (by kernel_rfl) rfl (by rfl) (fun K hK => ?_)
            go_simp
            obtain ⟨V5, g15, hX, hg, hbn, hz15⟩ : ∃ (X : World) (g : Nat), V4.alloc (.cells #[.bool false, .bool false, .slice none 0 0, .slice none 0 0, .slice none 0 0] 42) = X ∧ V4.heap.size = g ∧ Below V4.heap.size V4 X ∧ Zero5 X g := ⟨_, _, rfl, rfl, below_new _ _, Five.new _ rfl _ _ _ _ _⟩
            have hb5 : Below v2.heap.size v2 V5 := hb4.trans (hbn.mono hb4.size)
            have hlo15 : v2.heap.size ≤ g15 := by rw [← hg]; exact hb4.size
            have hlt16 : g16 < g15 := by rw [← hg]; exact (Array.getElem?_eq_some_iff.1 hz16).1
            have hz16 : Zero5 V5 g16 := (hbn.block g16 (Array.getElem?_eq_some_iff.1 hz16).1).trans hz16
            (try rw [hX]); (try rw [hg])
            refine hK.out _ _ (fun _ => HC.out V5 hb5) ?_
            clear hK K hbn hX hg
            try simp only [Act.put, List.setIfInBounds_toArray, List.set_cons_zero, List.set_cons_succ]
            as_aux_lemma =>
              have hne : g15 ≠ g16 := by omega
              obtain ⟨c0, c1, c2, c3, c4⟩ := hz15.cells
              have f0 : V5.frozen? ⟨g15, 0, none⟩ = false := frozen_of_row V5 g15 0 _ _ hz15
              have f1 : V5.frozen? ⟨g15, 1, none⟩ = false := frozen_of_row V5 g15 1 _ _ hz15
              have f2 : V5.frozen? ⟨g15, 2, none⟩ = false := frozen_of_row V5 g15 2 _ _ hz15
              have f3 : V5.frozen? ⟨g15, 3, none⟩ = false := frozen_of_row V5 g15 3 _ _ hz15
              have f4 : V5.frozen? ⟨g15, 4, none⟩ = false := frozen_of_row V5 g15 4 _ _ hz15
              obtain ⟨Y1, hY1, hF1, hbY1, hK1⟩ := put5 hz15 hb5 hlo15 true false (.slice Ae 0 ce) (.slice Be 0 ce1) (.slice Ce 1 ce2)
              have hz16' : Zero5 Y1 g16 := (hK1 g16 (fun e => hne e.symm)).trans hz16
              refine oneT (i := 17) (by kernel_rfl) rfl (by rfl) (fun K hK => ?_)
              go_simp
              (try rw [hY1])
              refine hK.out _ _ (fun _ => HC.out Y1 hbY1) ?_
              clear hK K c0 c1 c2 c3 c4 f0 f1 f2 f3 f4 hY1
              try simp only [Act.put, List.setIfInBounds_toArray, List.set_cons_zero, List.set_cons_succ]
              obtain ⟨c0, c1, c2, c3, c4⟩ := hz16'.cells
              have f0 : Y1.frozen? ⟨g16, 0, none⟩ = false := frozen_of_row Y1 g16 0 _ _ hz16'
              have f1 : Y1.frozen? ⟨g16, 1, none⟩ = false := frozen_of_row Y1 g16 1 _ _ hz16'
              have f2 : Y1.frozen? ⟨g16, 2, none⟩ = false := frozen_of_row Y1 g16 2 _ _ hz16'
              have f3 : Y1.frozen? ⟨g16, 3, none⟩ = false := frozen_of_row Y1 g16 3 _ _ hz16'
              have f4 : Y1.frozen? ⟨g16, 4, none⟩ = false := frozen_of_row Y1 g16 4 _ _ hz16'
              obtain ⟨Y2, hY2, hF2, hbY2, hK2⟩ := put5 hz16' hbY1 hlo16 false false (.slice Ar 0 cr) (.slice Br 0 cr1) (.slice Cr 0 cr2)
              have hF1' : Five Y2 g15 true false (.slice Ae 0 ce) (.slice Be 0 ce1) (.slice Ce 1 ce2) := (hK2 g15 hne).trans hF1
              refine oneT (i := 18) (by kernel_rfl) rfl (by rfl) (fun K hK => ?_)
              go_simp
              (try rw [hY2])
              refine hK.out _ _ (fun _ => HC.out Y2 hbY2) ?_
              clear hK K c0 c1 c2 c3 c4 f0 f1 f2 f3 f4 hY2
              try simp only [Act.put, List.setIfInBounds_toArray, List.set_cons_zero, List.set_cons_succ]
              have HN : Hid (N8 v2 d g15 g16 Y2) := ⟨hbY2, Ae, ce, Be, ce1, Ce, ce2, Ar, cr, _, _, hF1', hF2⟩
              refine doneT (by kernel_rfl) ?_
              clear hF1 hF2 hF1' hbY1 hbY2 hK1 hK2 hz15 hz16 hz16'
              go_wp2
              go_meet
              case rel => exact ⟨g15, g16, rfl, rfl, HN.out⟩
          · go_simp
            obtain ⟨V4, g15, hX, hg, hbn, hz15⟩ : ∃ (X : World) (g : Nat), V3.alloc (.cells #[.bool false, .bool false, .slice none 0 0, .slice none 0 0, .slice none 0 0] 42) = X ∧ V3.heap.size = g ∧ Below V3.heap.size V3 X ∧ Zero5 X g := ⟨_, _, rfl, rfl, below_new _ _, Five.new _ rfl _ _ _ _ _⟩
            have hb4 : Below v2.heap.size v2 V4 := hb3.trans (hbn.mono hb3.size)
            have hlo15 : v2.heap.size ≤ g15 := by rw [← hg]; exact hb3.size
            have hlt16 : g16 < g15 := by rw [← hg]; exact (Array.getElem?_eq_some_iff.1 hz16).1
            have hz16 : Zero5 V4 g16 := (hbn.block g16 (Array.getElem?_eq_some_iff.1 hz16).1).trans hz16
            (try rw [hX]); (try rw [hg])
            refine hK.out _ _ (fun _ => HC.out V4 hb4) ?_
            clear hK K hbn hX hg
            try simp only [Act.put, List.setIfInBounds_toArray, List.set_cons_zero, List.set_cons_succ]
            refine oneT (i := 14) (by kernel_rfl) rfl (by rfl) (fun K hK => ?_)
            go_simp
            refine (HLR.out V4 hb4).mono ?_
            rintro e V5 ⟨⟨Ar, cr, Br, cr1, Cr, cr2, rfl⟩, hbn⟩
            have hb5 : Below v2.heap.size v2 V5 := hb4.trans (hbn.mono hb4.size)
            have hz16 : Zero5 V5 g16 := (hbn.block g16 (Array.getElem?_eq_some_iff.1 hz16).1).trans hz16
            have hz15 : Zero5 V5 g15 := (hbn.block g15 (Array.getElem?_eq_some_iff.1 hz15).1).trans hz15
            refine hK.out _ _ (fun _ => HC.out V5 hb5) ?_
            clear hK K hbn
            try simp only [Act.put, List.setIfInBounds_toArray, List.set_cons_zero, List.set_cons_succ]
            as_aux_lemma =>
              have hne : g15 ≠ g16 := by omega
              obtain ⟨c0, c1, c2, c3, c4⟩ := hz15.cells
              have f0 : V5.frozen? ⟨g15, 0, none⟩ = false := frozen_of_row V5 g15 0 _ _ hz15
              have f1 : V5.frozen? ⟨g15, 1, none⟩ = false := frozen_of_row V5 g15 1 _ _ hz15
              have f2 : V5.frozen? ⟨g15, 2, none⟩ = false := frozen_of_row V5 g15 2 _ _ hz15
              have f3 : V5.frozen? ⟨g15, 3, none⟩ = false := frozen_of_row V5 g15 3 _ _ hz15
              have f4 : V5.frozen? ⟨g15, 4, none⟩ = false := frozen_of_row V5 g15 4 _ _ hz15
              obtain ⟨Y1, hY1, hF1, hbY1, hK1⟩ := put5 hz15 hb5 hlo15 true false (.slice Ae 0 ce) (.slice Be 0 ce1) (.slice Ce 1 ce2)
              have hz16' : Zero5 Y1 g16 := (hK1 g16 (fun e => hne e.symm)).trans hz16
              refine oneT (i := 17) (by kernel_rfl) rfl (by rfl) (fun K hK => ?_)
              go_simp
              (try rw [hY1])
              refine hK.out _ _ (fun _ => HC.out Y1 hbY1) ?_
              clear hK K c0 c1 c2 c3 c4 f0 f1 f2 f3 f4 hY1
              try simp only [Act.put, List.setIfInBounds_toArray, List.set_cons_zero, List.set_cons_succ]
              obtain ⟨c0, c1, c2, c3, c4⟩ := hz16'.cells
              have f0 : Y1.frozen? ⟨g16, 0, none⟩ = false := frozen_of_row Y1 g16 0 _ _ hz16'
              have f1 : Y1.frozen? ⟨g16, 1, none⟩ = false := frozen_of_row Y1 g16 1 _ _ hz16'
              have f2 : Y1.frozen? ⟨g16, 2, none⟩ = false := frozen_of_row Y1 g16 2 _ _ hz16'
              have f3 : Y1.frozen? ⟨g16, 3, none⟩ = false := frozen_of_row Y1 g16 3 _ _ hz16'
              have f4 : Y1.frozen? ⟨g16, 4, none⟩ = false := frozen_of_row Y1 g16 4 _ _ hz16'
              obtain ⟨Y2, hY2, hF2, hbY2, hK2⟩ := put5 hz16' hbY1 hlo16 false false (.slice Ar 0 cr) (.slice Br 0 cr1) (.slice Cr 0 cr2)
              have hF1' : Five Y2 g15 true false (.slice Ae 0 ce) (.slice Be 0 ce1) (.slice Ce 1 ce2) := (hK2 g15 hne).trans hF1
              refine oneT (i := 18) (by kernel_rfl) rfl (by rfl) (fun K hK => ?_)
              go_simp
              (try rw [hY2])
              refine hK.out _ _ (fun _ => HC.out Y2 hbY2) ?_
              clear hK K c0 c1 c2 c3 c4 f0 f1 f2 f3 f4 hY2
              try simp only [Act.put, List.setIfInBounds_toArray, List.set_cons_zero, List.set_cons_succ]
              have HN : Hid (N8 v2 d g15 g16 Y2) := ⟨hbY2, Ae, ce, Be, ce1, Ce, ce2, Ar, cr, _, _, hF1', hF2⟩
              refine doneT (by kernel_rfl) ?_
              clear hF1 hF2 hF1' hbY1 hbY2 hK1 hK2 hz15 hz16 hz16'
              go_wp2
              go_meet
              case rel => exact ⟨g15, g16, rfl, rfl, HN.out⟩
        · go_simp
          obtain ⟨V3, g15, hX, hg, hbn, hz15⟩ : ∃ (X : World) (g : Nat), V2.alloc (.cells #[.bool false, .bool false, .slice none 0 0, .slice none 0 0, .slice none 0 0] 42) = X ∧ V2.heap.size = g ∧ Below V2.heap.size V2 X ∧ Zero5 X g := ⟨_, _, rfl, rfl, below_new _ _, Five.new _ rfl _ _ _ _ _⟩
          have hb3 : Below v2.heap.size v2 V3 := hb2.trans (hbn.mono hb2.size)
          have hlo15 : v2.heap.size ≤ g15 := by rw [← hg]; exact hb2.size
          have hlt16 : g16 < g15 := by rw [← hg]; exact (Array.getElem?_eq_some_iff.1 hz16).1
          have hz16 : Zero5 V3 g16 := (hbn.block g16 (Array.getElem?_eq_some_iff.1 hz16).1).trans hz16
          (try rw [hX]); (try rw [hg])
          refine hK.out _ _ (fun _ => HC.out V3 hb3) ?_
          clear hK K hbn hX hg
          try simp only [Act.put, List.setIfInBounds_toArray, List.set_cons_zero, List.set_cons_succ]
          refine oneT (i := 13) (by kernel_rfl) rfl (by rfl) (fun K hK => ?_)
          go_simp
          refine (of_walk 0 1 (by omega) V3).mono ?_
          rintro e V4 ⟨rfl, hbn⟩
          have hb4 : Below v2.heap.size v2 V4 := hbn ▸ hb3
          have hz16 : Zero5 V4 g16 := hbn ▸ hz16
          have hz15 : Zero5 V4 g15 := hbn ▸ hz15
          refine hK.out _ _ (fun _ => HC.out V4 hb4) ?_
          clear hK K hbn
          try simp only [Act.put, List.setIfInBounds_toArray, List.set_cons_zero, List.set_cons_succ]
          refine oneT (i := 14) (by kernel_rfl) rfl (by rfl) (fun K hK => ?_)
          go_simp
          refine (HLR.out V4 hb4).mono ?_
          rintro e V5 ⟨⟨Ar, cr, Br, cr1, Cr, cr2, rfl⟩, hbn⟩
          have hb5 : Below v2.heap.size v2 V5 := hb4.trans (hbn.mono hb4.size)
          have hz16 : Zero5 V5 g16 := (hbn.block g16 (Array.getElem?_eq_some_iff.1 hz16).1).trans hz16
          have hz15 : Zero5 V5 g15 := (hbn.block g15 (Array.getElem?_eq_some_iff.1 hz15).1).trans hz15
          refine hK.out _ _ (fun _ => HC.out V5 hb5) ?_
          clear hK K hbn
          try simp only [Act.put, List.setIfInBounds_toArray, List.set_cons_zero, List.set_cons_succ]
          as_aux_lemma =>
            have hne : g15 ≠ g16 := by omega
            obtain ⟨c0, c1, c2, c3, c4⟩ := hz15.cells
            have f0 : V5.frozen? ⟨g15, 0, none⟩ = false := frozen_of_row V5 g15 0 _ _ hz15
            have f1 : V5.frozen? ⟨g15, 1, none⟩ = false := frozen_of_row V5 g15 1 _ _ hz15
            have f2 : V5.frozen? ⟨g15, 2, none⟩ = false := frozen_of_row V5 g15 2 _ _ hz15
            have f3 : V5.frozen? ⟨g15, 3, none⟩ = false := frozen_of_row V5 g15 3 _ _ hz15
            have f4 : V5.frozen? ⟨g15, 4, none⟩ = false := frozen_of_row V5 g15 4 _ _ hz15
            obtain ⟨Y1, hY1, hF1, hbY1, hK1⟩ := put5 hz15 hb5 hlo15 true false (.slice Ae 0 ce) (.slice Be 0 ce1) (.slice Ce 1 ce2)
            have hz16' : Zero5 Y1 g16 := (hK1 g16 (fun e => hne e.symm)).trans hz16
            refine oneT (i := 17) (by kernel_rfl) rfl (by rfl) (fun K hK => ?_)
            go_simp
            (try rw [hY1])
            refine hK.out _ _ (fun _ => HC.out Y1 hbY1) ?_
            clear hK K c0 c1 c2 c3 c4 f0 f1 f2 f3 f4 hY1
            try simp only [Act.put, List.setIfInBounds_toArray, List.set_cons_zero, List.set_cons_succ]
            obtain ⟨c0, c1, c2, c3, c4⟩ := hz16'.cells
            have f0 : Y1.frozen? ⟨g16, 0, none⟩ = false := frozen_of_row Y1 g16 0 _ _ hz16'
            have f1 : Y1.frozen? ⟨g16, 1, none⟩ = false := frozen_of_row Y1 g16 1 _ _ hz16'
            have f2 : Y1.frozen? ⟨g16, 2, none⟩ = false := frozen_of_row Y1 g16 2 _ _ hz16'
            have f3 : Y1.frozen? ⟨g16, 3, none⟩ = false := frozen_of_row Y1 g16 3 _ _ hz16'
            have f4 : Y1.frozen? ⟨g16, 4, none⟩ = false := frozen_of_row Y1 g16 4 _ _ hz16'
            obtain ⟨Y2, hY2, hF2, hbY2, hK2⟩ := put5 hz16' hbY1 hlo16 false false (.slice Ar 0 cr) (.slice Br 0 cr1) (.slice Cr 0 cr2)
            have hF1' : Five Y2 g15 true false (.slice Ae 0 ce) (.slice Be 0 ce1) (.slice Ce 1 ce2) := (hK2 g15 hne).trans hF1
            refine oneT (i := 18) (by kernel_rfl) rfl (by rfl) (fun K hK => ?_)
            go_simp
            (try rw [hY2])
            refine hK.out _ _ (fun _ => HC.out Y2 hbY2) ?_
            clear hK K c0 c1 c2 c3 c4 f0 f1 f2 f3 f4 hY2
            try simp only [Act.put, List.setIfInBounds_toArray, List.set_cons_zero, List.set_cons_succ]
            have HN : Hid (N8 v2 d g15 g16 Y2) := ⟨hbY2, Ae, ce, Be, ce1, Ce, ce2, Ar, cr, _, _, hF1', hF2⟩
            refine doneT (by kernel_rfl) ?_
            clear hF1 hF2 hF1' hbY1 hbY2 hK1 hK2 hz15 hz16 hz16'
            go_wp2
            go_meet
            case rel => exact ⟨g15, g16, rfl, rfl, HN.out⟩
      · go_simp
        obtain ⟨V2, g15, hX, hg, hbn, hz15⟩ : ∃ (X : World) (g : Nat), V1.alloc (.cells #[.bool false, .bool false, .slice none 0 0, .slice none 0 0, .slice none 0 0] 42) = X ∧ V1.heap.size = g ∧ Below V1.heap.size V1 X ∧ Zero5 X g := ⟨_, _, rfl, rfl, below_new _ _, Five.new _ rfl _ _ _ _ _⟩
        have hb2 : Below v2.heap.size v2 V2 := hb1.trans (hbn.mono hb1.size)
        have hlo15 : v2.heap.size ≤ g15 := by rw [← hg]; exact hb1.size
        have hlt16 : g16 < g15 := by rw [← hg]; exact (Array.getElem?_eq_some_iff.1 hz16).1
        have hz16 : Zero5 V2 g16 := (hbn.block g16 (Array.getElem?_eq_some_iff.1 hz16).1).trans hz16
        (try rw [hX]); (try rw [hg])
        refine hK.out _ _ (fun _ => HC.out V2 hb2) ?_
        clear hK K hbn hX hg
        try simp only [Act.put, List.setIfInBounds_toArray, List.set_cons_zero, List.set_cons_succ]
        refine oneT (i := 8) (by kernel_rfl) rfl (by rfl) (fun K hK => ?_)
        go_simp
        refine (HLE.out V2 hb2).mono ?_
        rintro e V3 ⟨⟨Ae, ce, Be, ce1, Ce, ce2, rfl⟩, hbn⟩
        have hb3 : Below v2.heap.size v2 V3 := hb2.trans (hbn.mono hb2.size)
        have hz16 : Zero5 V3 g16 := (hbn.block g16 (Array.getElem?_eq_some_iff.1 hz16).1).trans hz16
        have hz15 : Zero5 V3 g15 := (hbn.block g15 (Array.getElem?_eq_some_iff.1 hz15).1).trans hz15
        refine hK.out _ _ (fun _ => HC.out V3 hb3) ?_
        clear hK K hbn
        try simp only [Act.put, List.setIfInBounds_toArray, List.set_cons_zero, List.set_cons_succ]
        refine oneT (i := 13) (by kernel_rfl) rfl (by rfl) (fun K hK => ?_)
        go_simp
        refine (of_walk 0 1 (by omega) V3).mono ?_
        rintro e V4 ⟨rfl, hbn⟩
        have hb4 : Below v2.heap.size v2 V4 := hbn ▸ hb3
        have hz16 : Zero5 V4 g16 := hbn ▸ hz16
        have hz15 : Zero5 V4 g15 := hbn ▸ hz15
        refine hK.out _ _ (fun _ => HC.out V4 hb4) ?_
        clear hK K hbn
        try simp only [Act.put, List.setIfInBounds_toArray, List.set_cons_zero, List.set_cons_succ]
        refine oneT (i := 14) (by kernel_rfl) rfl (by rfl) (fun K hK => ?_)
        go_simp
        refine (HLR.out V4 hb4).mono ?_
        rintro e V5 ⟨⟨Ar, cr, Br, cr1, Cr, cr2, rfl⟩, hbn⟩
        have hb5 : Below v2.heap.size v2 V5 := hb4.trans (hbn.mono hb4.size)
        have hz16 : Zero5 V5 g16 := (hbn.block g16 (Array.getElem?_eq_some_iff.1 hz16).1).trans hz16
        have hz15 : Zero5 V5 g15 := (hbn.block g15 (Array.getElem?_eq_some_iff.1 hz15).1).trans hz15
        refine hK.out _ _ (fun _ => HC.out V5 hb5) ?_
        clear hK K hbn
        try simp only [Act.put, List.setIfInBounds_toArray, List.set_cons_zero, List.set_cons_succ]
        as_aux_lemma =>
          have hne : g15 ≠ g16 := by omega
          obtain ⟨c0, c1, c2, c3, c4⟩ := hz15.cells
          have f0 : V5.frozen? ⟨g15, 0, none⟩ = false := frozen_of_row V5 g15 0 _ _ hz15
          have f1 : V5.frozen? ⟨g15, 1, none⟩ = false := frozen_of_row V5 g15 1 _ _ hz15
          have f2 : V5.frozen? ⟨g15, 2, none⟩ = false := frozen_of_row V5 g15 2 _ _ hz15
          have f3 : V5.frozen? ⟨g15, 3, none⟩ = false := frozen_of_row V5 g15 3 _ _ hz15
          have f4 : V5.frozen? ⟨g15, 4, none⟩ = false := frozen_of_row V5 g15 4 _ _ hz15
          obtain ⟨Y1, hY1, hF1, hbY1, hK1⟩ := put5 hz15 hb5 hlo15 true false (.slice Ae 0 ce) (.slice Be 0 ce1) (.slice Ce 1 ce2)
          have hz16' : Zero5 Y1 g16 := (hK1 g16 (fun e => hne e.symm)).trans hz16
          refine oneT (i := 17) (by kernel_rfl) rfl (by rfl) (fun K hK => ?_)
          go_simp
          (try rw [hY1])
          refine hK.out _ _ (fun _ => HC.out Y1 hbY1) ?_
          clear hK K c0 c1 c2 c3 c4 f0 f1 f2 f3 f4 hY1
          try simp only [Act.put, List.setIfInBounds_toArray, List.set_cons_zero, List.set_cons_succ]
          obtain ⟨c0, c1, c2, c3, c4⟩ := hz16'.cells
          have f0 : Y1.frozen? ⟨g16, 0, none⟩ = false := frozen_of_row Y1 g16 0 _ _ hz16'
          have f1 : Y1.frozen? ⟨g16, 1, none⟩ = false := frozen_of_row Y1 g16 1 _ _ hz16'
          have f2 : Y1.frozen? ⟨g16, 2, none⟩ = false := frozen_of_row Y1 g16 2 _ _ hz16'
          have f3 : Y1.frozen? ⟨g16, 3, none⟩ = false := frozen_of_row Y1 g16 3 _ _ hz16'
          have f4 : Y1.frozen? ⟨g16, 4, none⟩ = false := frozen_of_row Y1 g16 4 _ _ hz16'
          obtain ⟨Y2, hY2, hF2, hbY2, hK2⟩ := put5 hz16' hbY1 hlo16 false false (.slice Ar 0 cr) (.slice Br 0 cr1) (.slice Cr 0 cr2)
          have hF1' : Five Y2 g15 true false (.slice Ae 0 ce) (.slice Be 0 ce1) (.slice Ce 1 ce2) := (hK2 g15 hne).trans hF1
          refine oneT (i := 18) (by kernel_rfl) rfl (by rfl) (fun K hK => ?_)
          go_simp
          (try rw [hY2])
          refine hK.out _ _ (fun _ => HC.out Y2 hbY2) ?_
          clear hK K c0 c1 c2 c3 c4 f0 f1 f2 f3 f4 hY2
          try simp only [Act.put, List.setIfInBounds_toArray, List.set_cons_zero, List.set_cons_succ]
          have HN : Hid (N8 v2 d g15 g16 Y2) := ⟨hbY2, Ae, ce, Be, ce1, Ce, ce2, Ar, cr, _, _, hF1', hF2⟩
          refine doneT (by kernel_rfl) ?_
          clear hF1 hF2 hF1' hbY1 hbY2 hK1 hK2 hz15 hz16 hz16'
          go_wp2
          go_meet
          case rel => exact ⟨g15, g16, rfl, rfl, HN.out⟩
  case rest =>
    obtain ⟨ge, gr, rfl, rfl, HN⟩ := hcut
    obtain ⟨hbw, A, c, B, c1, C, c2, A', c', pv, kv, F1, F2⟩ := HN.out
    obtain ⟨x0, x1, x2, x3, x4⟩ := F1.cells
    obtain ⟨y0, y1, y2, y3, y4⟩ := F2.cells
    have HBW := Lib.hid hbw
    have k0 := below_read hbw g0
    have k5 := below_read hbw g5
    have HW : Hid (∀ q, Calls Try.prog 13 #[ptr d.A, .int .i64 e11, .int .i64 0] (wc.drewN q) fun e w'' => e = .returned (.int .i64 (mk 0 1)) ∧ ∃ t, w'' = wc.drewN t) := by
      intro q
      obtain ⟨FW, p1, p2⟩ := (HO.out.bel (below_drewN HBW.out q)).idle
      have hI := inv_new N L 0 HBD.out.2.1 HBD.out.2.2 (by omega)
      have hh := (new_hit N L).1
      rw [hm11] at hh
      refine (nxW_way p1 hI.fit.ok hh 0).mono ?_
      rintro e w'' ⟨rfl, rfl⟩
      exact ⟨rfl, q, rfl⟩
    have HQ2 : Hid (∀ q, Calls Try.prog 11 #[.int .i64 0, .int .u32 1] (wc.drewN q) fun e w'' => e = .returned (.int .i64 (mk 0 1)) ∧ ∃ t, w'' = wc.drewN t) := fun q => (of_walk 0 1 (by omega) (wc.drewN q)).mono fun e w' h => ⟨h.1, q, h.2.symm⟩
    have HV : Hid (∀ V, Below v2.heap.size v2 V → (∃ FW, WS d FW V (newSig N L)) ∧ Below w.heap.size w V ∧ V.cell? ⟨d.W, 0, none⟩ = some (ptr d.A) ∧ V.cell? ⟨d.W, 1, none⟩ = some (ptr d.R) ∧ V.cell? ⟨d.W, 2, none⟩ = some (ptr d.E)) := by
      intro V hb
      have hO := HO.out.bel hb
      obtain ⟨q0, q1, q2, q3, q4, q5⟩ := hO.cells
      obtain ⟨FW, p1, p2⟩ := hO.idle
      exact ⟨⟨FW, p1⟩, hO.below, q0, q1, q2⟩
    have HFV : Hid (∀ q, Below v2.heap.size v2 (wc.drewN q) ∧ (wc.drewN q).cell? ⟨gr, 0, none⟩ = some (.bool false) ∧ (wc.drewN q).cell? ⟨gr, 1, none⟩ = some (.bool false) ∧ (wc.drewN q).cell? ⟨gr, 2, none⟩ = some (.slice A' 0 c')) := fun q => ⟨below_drewN HBW.out q, y0, y1, y2⟩
    clear HN hbw F1 F2 HLE HLR HC
    generalize hm01 : mk 0 1 = e01 at *
    go_wp2_with fail
    go_quiet (first
      | (go_at_call 13; exact HW.out _)
      | (go_at_call 11; exact HQ2.out _))
    obtain ⟨hbV, z0, z1, z2⟩ := HFV.out nq
    obtain ⟨V, hV⟩ : ∃ V, wc.drewN nq = V := ⟨_, rfl⟩
    rw [hV] at hbV z0 z1 z2 ⊢
    obtain ⟨⟨FW, hWS⟩, hbl, q0, q1, q2⟩ := HV.out V hbV
    have hI := inv_new N L 0 HBD.out.2.1 HBD.out.2.2 (by omega)
    have SU := nxW_used hWS hI.fit.ok
    have eU : ((newSig N L).ar.pls.length : Int) - ((newSig N L).ar.fr.length : Int) = 2 := rfl
    rw [eU] at SU
    have SU := Lib.hid SU
    clear hV x0 x1 x2 x3 x4 y0 y1 y2 y3 y4 k0 k5 HW HQ2 HFV hWS hI eU HBW
    go_wp2_with fail
    refine SU.out.mono ?_
    rintro e V1 ⟨rfl, hb1⟩
    obtain ⟨⟨FW1, hWS1⟩, hbl1, r0, r1, r2⟩ := HV.out V1 (hbV.trans (hb1.mono hbV.size))
    have S1 := Lib.hid (nxW_most hWS1)
    have S2 := Lib.hid (nxW_faults hWS1)
    have S3 := Lib.hid (nxW_rlen hWS1)
    have S4 := nxW_len hWS1
    have eL : (newSig N L).S.length = L := by simp [newSig]
    rw [eL] at S4
    have S4 := Lib.hid S4
    have S5 := Lib.hid (nxW_now hWS1)
    have HB1 := Lib.hid hbl1
    clear SU hbl hbl1 hb1 hbV HV hWS1 eL q0 q1 q2 HO
    go_wp2_with fail
    refine S1.out.mono ?_
    rintro e V2 ⟨rfl, rfl⟩
    go_wp2_with fail
    refine S2.out.mono ?_
    rintro e V2 ⟨rfl, rfl⟩
    go_wp2_with fail
    refine S3.out.mono ?_
    rintro e V2 ⟨rfl, rfl⟩
    go_wp2_with fail
    refine S4.out.mono ?_
    rintro e V2 ⟨rfl, rfl⟩
    go_wp2_with fail
    refine S5.out.mono ?_
    rintro e V2 ⟨rfl, rfl⟩
    go_wp2
    go_ret
    exact ⟨rfl, HB1.out⟩
end Go.Proofs.Ytfloblofdkemlaa
