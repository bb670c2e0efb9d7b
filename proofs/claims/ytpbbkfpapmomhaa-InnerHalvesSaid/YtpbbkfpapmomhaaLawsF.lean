/-
  The walk of InnerHalves: it returns true, for every input, and changes nothing that was there.
-/
import Derived.Test.YtpbbkfpapmomhaaLawsA
namespace Go.Proofs.Ytpbbkfpapmomhaa
open Go.ChangeShapes Go.WideShapes Go.ChangeAt Go.RowKit
set_option linter.unusedVariables false
set_option linter.unusedSimpArgs false

set_option maxHeartbeats 4000000 in
theorem innerHalves_walk (A B : Option Addr) (n c m d : Nat) (ks ws : List Int) (w : World) (hk : Sl w A n c ks) (hw : Sl w B m d ws) :
    Calls Try.prog 7 #[inn A n c B m d] w fun e w' => e = .returned (.bool true) ∧ Below w.heap.size w w' := by
  go_enter Try.func7, Try.ntmps7
  go_wp2_with fail
  obtain ⟨W0, hW, hb0, HN0⟩ := boxed0 w (.slice A n c) (.slice B m d)
  rw [hW]
  clear hW
  refine (awake_walk W0).mono ?_
  rintro e w1 ⟨rfl, p1⟩
  obtain ⟨c0, c1⟩ := HN0.below p1
  go_wp2_with fail
  refine (short_one w1.heap.size A B n c m d _ (by simp) (by simp)).mono ?_
  rintro e V ⟨rfl, p2⟩
  have pV : Below W0.heap.size W0 V := p1.trans (((below_new w1 _).trans (p2.mono (by simp))).mono p1.size)
  have hbV := hb0.trans (pV.mono hb0.size)
  have HN := HN0.below pV
  clear c0 c1 p1 p2 hb0
  by_cases hfew : n ≤ 40 ∧ m ≤ 40
  case neg =>
    rw [decide_eq_false hfew]
    go_wp2
    go_ret
    exact ⟨rfl, hbV⟩
  rw [decide_eq_true hfew]
  obtain ⟨hn, hm⟩ := hfew
  have Hk := hk.below hbV
  have Hw := hw.below hbV
  obtain ⟨c0, c1⟩ := id HN
  have sV : w.heap.size < V.heap.size := World.block_lt_of_cell? V _ c0
  clear hk hw pV HN0
  go_wp2_with fail
  cases hgo : (fitsB n m && decide (2 ≤ m)) with
  | false =>
    refine (halves_out A B n c m d ks ws V Hk Hw (by omega) (by omega) hgo).mono ?_
    rintro e w3 ⟨u, v, u', v', rfl, g1, g2, g3, g4, p3⟩
    obtain ⟨E1, L1, e1, rfl⟩ := g1.shape
    obtain ⟨E2, L2, e2, rfl⟩ := g2.shape
    obtain ⟨E3, L3, e3, rfl⟩ := g3.shape
    obtain ⟨E4, L4, e4, rfl⟩ := g4.shape
    have hkl := Hk.len
    have hwl := Hw.len
    have HL : Hid (L1 = n ∧ L2 = m ∧ L3 = 0 ∧ L4 = 0) := ⟨g1.sl.len.trans hkl.symm, g2.sl.len.trans hwl.symm, g3.sl.len, g4.sl.len⟩
    clear c0 c1 hkl hwl
    obtain ⟨c0, c1⟩ := HN.below p3
    have s3 : w.heap.size < w3.heap.size := World.block_lt_of_cell? w3 _ c0
    have s3' : w.heap.size < w3.heap.size + 1 := by omega
    by_cases hm2 : m < 2
    · have hm2' : (m : Int) < 2 := by omega
      clear hgo
      go_wp2_with fail
      obtain ⟨Y, P, Q, hY, hP, hQ, bY, HP, HQ⟩ : ∃ (Y : World) (P Q : Nat), (w3.alloc (.cells #[.slice E1 L1 e1, .slice E2 L2 e2] 26)).alloc (.cells #[.slice E3 L3 e3, .slice E4 L4 e4] 26) = Y ∧ w3.heap.size = P ∧ w3.heap.size + 1 = Q ∧ Below w3.heap.size w3 Y ∧ Box Y P (.slice E1 L1 e1) (.slice E2 L2 e2) ∧ Box Y Q (.slice E3 L3 e3) (.slice E4 L4 e4) := ⟨_, _, _, rfl, rfl, rfl, ((Below.refl _ w3).alloc (Nat.le_refl _) _).alloc (by simp) _, (Box.new w3 rfl _ _ _).below (below_new _ _), Box.new _ (by simp) _ _ _⟩
      rw [hY, hQ, hP]
      clear hY hP hQ
      have q := p3.trans (bY.mono p3.size)
      obtain ⟨i0, i1⟩ := HN.below q
      obtain ⟨i2, i3⟩ := id HP
      obtain ⟨i4, i5⟩ := id HQ
      refine (alike_walk (g1.next bY).sl (g2.next bY).sl (Hk.below q) (Hw.below q) (by rw [HL.out.1]; omega) (by rw [HL.out.2.1]; omega)).mono ?_
      rintro e w5 ⟨rfl, p5⟩
      have q5 := q.trans (p5.mono q.size)
      clear i0 i1 i2 i3 i4 i5
      obtain ⟨i4, i5⟩ := HQ.below p5
      go_wp2_with fail
      refine (alike_walk ((g3.next bY).next p5).sl ((g4.next bY).next p5).sl (Sl.nil _) (Sl.nil _) (by rw [HL.out.2.2.1]; omega) (by rw [HL.out.2.2.2]; omega)).mono ?_
      rintro e w6 ⟨rfl, p6⟩
      have q6 := q5.trans (p6.mono q5.size)
      go_wp2
      go_ret
      exact ⟨rfl, hbV.trans (q6.mono hbV.size)⟩
    · have hm2' : ¬ (m : Int) < 2 := by omega
      have HF : Hid (fitsB n m = false) := by
        show _ = _
        cases hf : fitsB n m with
        | false => rfl
        | true => rw [hf] at hgo; simp at hgo; omega
      clear hgo
      go_wp2_with fail
      obtain ⟨Y, P, Q, hY, hP, hQ, bY, HP, HQ⟩ : ∃ (Y : World) (P Q : Nat), (w3.alloc (.cells #[.slice E1 L1 e1, .slice E2 L2 e2] 26)).alloc (.cells #[.slice E3 L3 e3, .slice E4 L4 e4] 26) = Y ∧ w3.heap.size = P ∧ w3.heap.size + 1 = Q ∧ Below w3.heap.size w3 Y ∧ Box Y P (.slice E1 L1 e1) (.slice E2 L2 e2) ∧ Box Y Q (.slice E3 L3 e3) (.slice E4 L4 e4) := ⟨_, _, _, rfl, rfl, rfl, ((Below.refl _ w3).alloc (Nat.le_refl _) _).alloc (by simp) _, (Box.new w3 rfl _ _ _).below (below_new _ _), Box.new _ (by simp) _ _ _⟩
      rw [hY, hQ, hP]
      clear hY hP hQ
      refine (right_walk A B n c m d Y (by omega) (by omega)).mono ?_
      rintro e w4 ⟨rfl, p4⟩
      rw [HF.out]
      have bY4 := bY.trans (p4.mono bY.size)
      have HP4 := HP.below p4
      have HQ4 := HQ.below p4
      have q := p3.trans (bY4.mono p3.size)
      obtain ⟨i0, i1⟩ := HN.below q
      obtain ⟨i2, i3⟩ := id HP4
      obtain ⟨i4, i5⟩ := id HQ4
      go_wp2_with fail
      refine (alike_walk (g1.next bY4).sl (g2.next bY4).sl (Hk.below q) (Hw.below q) (by rw [HL.out.1]; omega) (by rw [HL.out.2.1]; omega)).mono ?_
      rintro e w5 ⟨rfl, p5⟩
      have q5 := q.trans (p5.mono q.size)
      clear i0 i1 i2 i3 i4 i5
      obtain ⟨i4, i5⟩ := HQ4.below p5
      go_wp2_with fail
      refine (alike_walk ((g3.next bY4).next p5).sl ((g4.next bY4).next p5).sl (Sl.nil _) (Sl.nil _) (by rw [HL.out.2.2.1]; omega) (by rw [HL.out.2.2.2]; omega)).mono ?_
      rintro e w6 ⟨rfl, p6⟩
      have q6 := q5.trans (p6.mono q5.size)
      go_wp2
      go_ret
      exact ⟨rfl, hbV.trans (q6.mono hbV.size)⟩
  | true =>
    obtain ⟨hf, hm2⟩ : fitsB n m = true ∧ 2 ≤ m := by simpa using hgo
    have hm2' : ¬ (m : Int) < 2 := by omega
    have HF := Lib.hid hf
    have HNM : Hid (n + 1 = m) := (fitsB_iff n m).1 hf
    refine (halves_in A B n c m d ks ws V Hk Hw (by omega) (by omega) hf hm2).mono ?_
    clear hf hgo
    rintro e w3 ⟨u, v, u', v', rfl, g1, g2, g3, g4, p3⟩
    obtain ⟨E1, L1, e1, rfl⟩ := g1.shape
    obtain ⟨E2, L2, e2, rfl⟩ := g2.shape
    obtain ⟨E3, L3, e3, rfl⟩ := g3.shape
    obtain ⟨E4, L4, e4, rfl⟩ := g4.shape
    have HKL := Lib.hid Hk.len
    have HWL := Lib.hid Hw.len
    have b1 : L1 ≤ 40 := by rw [g1.sl.len, List.length_take]; have := HKL.out; omega
    have b2 : L2 ≤ 40 := by rw [g2.sl.len, List.length_take]; have := HWL.out; omega
    have b3 : L3 ≤ 40 := by rw [g3.sl.len, List.length_drop]; have := HKL.out; omega
    have b4 : L4 ≤ 40 := by rw [g4.sl.len, List.length_drop]; have := HWL.out; omega
    clear c0 c1
    obtain ⟨c0, c1⟩ := HN.below p3
    have s3 : w.heap.size < w3.heap.size := World.block_lt_of_cell? w3 _ c0
    have s3' : w.heap.size < w3.heap.size + 1 := by omega
    generalize hkk : ks.getD (m / 2 - 1) 0 = key at *
    have HKK := Lib.hid hkk
    clear hkk
    go_wp2_with fail
    obtain ⟨Y, P, Q, hY, hP, hQ, bY, HP, HQ⟩ : ∃ (Y : World) (P Q : Nat), (w3.alloc (.cells #[.slice E1 L1 e1, .slice E2 L2 e2] 26)).alloc (.cells #[.slice E3 L3 e3, .slice E4 L4 e4] 26) = Y ∧ w3.heap.size = P ∧ w3.heap.size + 1 = Q ∧ Below w3.heap.size w3 Y ∧ Box Y P (.slice E1 L1 e1) (.slice E2 L2 e2) ∧ Box Y Q (.slice E3 L3 e3) (.slice E4 L4 e4) := ⟨_, _, _, rfl, rfl, rfl, ((Below.refl _ w3).alloc (Nat.le_refl _) _).alloc (by simp) _, (Box.new w3 rfl _ _ _).below (below_new _ _), Box.new _ (by simp) _ _ _⟩
    rw [hY, hQ, hP]
    clear hY hP hQ
    refine (right_walk A B n c m d Y (by omega) (by omega)).mono ?_
    rintro e w4 ⟨rfl, p4⟩
    rw [HF.out]
    have bY4 := bY.trans (p4.mono bY.size)
    have HP4 := HP.below p4
    have HQ4 := HQ.below p4
    have q := p3.trans (bY4.mono p3.size)
    have HN4 := HN.below q
    obtain ⟨i0, i1⟩ := id HN4
    obtain ⟨i2, i3⟩ := id HP4
    obtain ⟨i4, i5⟩ := id HQ4
    have hq2 : Hid ((m : Int) / 2 = ((m / 2 : Nat) : Int)) := by show _ = _; omega
    obtain ⟨gb, off, hA, hbl, d0⟩ := Hk.at0 (k := m / 2 - 1) (by have := HNM.out; omega)
    rw [HKK.out] at d0
    have d1 := (q.cell (p := ⟨gb, off + (m / 2 - 1), none⟩) hbl).trans d0
    clear c0 c1 d0
    have h1 : 1 ≤ m / 2 := by omega
    have h2 : m / 2 ≤ n := by have := HNM.out; omega
    have h2m : m / 2 ≤ m := by omega
    have K1 := g1.next bY4
    have K2 := g2.next bY4
    have K3 := g3.next bY4
    have K4 := g4.next bY4
    have HE1 : Hid (ks.take (m / 2 - 1) = (ks.drop 0).take (m / 2 - 1 - 0) ∧ ws.take (m / 2) = (ws.drop 0).take (m / 2 - 0)) := ⟨by simp, by simp⟩
    have HE2 : Hid (ks.drop (m / 2) = (ks.drop (m / 2)).take (m - 1 - m / 2) ∧ ws.drop (m / 2) = (ws.drop (m / 2)).take (m - m / 2)) := by
      have e1 := HKL.out
      have e2 := HWL.out
      have e3 := HNM.out
      exact ⟨(List.take_of_length_le (by simp; omega)).symm, (List.take_of_length_le (by simp; omega)).symm⟩
    rw [HE1.out.1] at K1
    rw [HE1.out.2] at K2
    rw [HE2.out.1] at K3
    rw [HE2.out.2] at K4
    clear g1 g2 g3 g4
    go_wp2_with fail
    rw [hq2.out]
    generalize hh : m / 2 = h at *
    have HH := Lib.hid hh
    clear hh hq2
    have hjj : (h : Int) - 1 = ((h - 1 : Nat) : Int) := by omega
    have hwr : IntKind.i64.wrap (((h - 1 : Nat)) : Int) = ((h - 1 : Nat) : Int) := IntWalk.i64_in _ (by omega)
    have j0 : ((h - 1 : Nat) : Int) < (n : Int) := by omega
    have j1 : (0 : Int) ≤ ((h - 1 : Nat) : Int) := by omega
    have HJ : Hid (h - 1 - 0 = h - 1) := rfl
    subst hA
    have HF : Hid (∀ w', Below w4.heap.size w4 w' → (w'.cell? ⟨w.heap.size, 0, none⟩ = some (.slice (some ⟨gb, off, none⟩) n c) ∧ w'.cell? ⟨w.heap.size, 1, none⟩ = some (.slice B m d) ∧ w'.cell? ⟨P, 0, none⟩ = some (.slice E1 L1 e1) ∧ w'.cell? ⟨P, 1, none⟩ = some (.slice E2 L2 e2) ∧ w'.cell? ⟨Q, 0, none⟩ = some (.slice E3 L3 e3) ∧ w'.cell? ⟨Q, 1, none⟩ = some (.slice E4 L4 e4) ∧ w'.cell? ⟨gb, off + (h - 1), none⟩ = some (.int .i64 key))) := fun w' h => ⟨below_read h i0, below_read h i1, below_read h i2, below_read h i3, below_read h i4, below_read h i5, below_read h d1⟩
    go_region_held3 (fun w' => w'.cell? ⟨w.heap.size, 0, none⟩ = some (.slice (some ⟨gb, off, none⟩) n c) ∧ w'.cell? ⟨w.heap.size, 1, none⟩ = some (.slice B m d) ∧ w'.cell? ⟨P, 0, none⟩ = some (.slice E1 L1 e1) ∧ w'.cell? ⟨P, 1, none⟩ = some (.slice E2 L2 e2) ∧ w'.cell? ⟨Q, 0, none⟩ = some (.slice E3 L3 e3) ∧ w'.cell? ⟨Q, 1, none⟩ = some (.slice E4 L4 e4) ∧ w'.cell? ⟨gb, off + (h - 1), none⟩ = some (.int .i64 key)) (first | (refine HF.out _ ?_; go_grown; done) | go_keep) (first
      | (go_at_call_of 27 (Value.int IntKind.i64 0)
         refine (cut_walk (some ⟨gb, off, none⟩) B n c m d ks ws 0 h _ ?_ ?_ HNM.out (by omega) (by omega) (by omega)).mono ?_; (· exact (Hk.below q).below (by go_grown)); (· exact (Hw.below q).below (by go_grown)); rintro e w5 ⟨x1, x2, rfl, g1, g2, p5⟩; obtain ⟨G1, M1, h3, rfl⟩ := g1.shape; obtain ⟨G2, M2, h4, rfl⟩ := g2.shape
         have q5 : Below w4.heap.size w4 w5 := Below.trans (by go_grown) p5
         have s1 := g1.sl
         have s2 := g2.sl
         clear g1 g2 p5)
      | (go_at_call_of 21 (Value.slice E1 L1 e1)
         refine (alike_walk (K1.sl.below q5) (K2.sl.below q5) s1 s2 (by omega) (by omega)).mono ?_; rintro e w6 ⟨rfl, p6⟩
         have q6 := q5.trans (p6.mono q5.size))
      | (go_at_call_of 27 (Value.int IntKind.i64 (m : Int))
         refine (cut_walk (some ⟨gb, off, none⟩) B n c m d ks ws h m _ ?_ ?_ HNM.out (by omega) (by omega) (by omega)).mono ?_; (· exact (Hk.below q).below q6); (· exact (Hw.below q).below q6); rintro e w7 ⟨x1, x2, rfl, g1, g2, p7⟩; obtain ⟨G3, M3, h5, rfl⟩ := g1.shape; obtain ⟨G4, M4, h6, rfl⟩ := g2.shape
         have q7 := q6.trans (p7.mono q6.size)
         have s3 := g1.sl
         have s4 := g2.sl
         clear g1 g2 p7)
      | (go_at_call_of 21 (Value.slice E3 L3 e3)
         refine (alike_walk (K3.sl.below q7) (K4.sl.below q7) s3 s4 (by omega) (by omega)).mono ?_; rintro e w8 ⟨rfl, p8⟩
         have q8 := q7.trans (p8.mono q7.size))
      )
    all_goals go_wp2
    all_goals go_ret
    all_goals exact ⟨by simp, hbV.trans ((q.trans (q8.mono q.size)).mono hbV.size)⟩

end Go.Proofs.Ytpbbkfpapmomhaa
