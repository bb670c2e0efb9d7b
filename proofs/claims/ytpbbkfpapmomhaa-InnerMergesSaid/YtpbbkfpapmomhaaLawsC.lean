/-
  The walks of InnerMerges and InnerTurns: each returns true, for every input, and changes nothing that was there.
-/
import Derived.Test.YtpbbkfpapmomhaaLawsA
namespace Go.Proofs.Ytpbbkfpapmomhaa
open Go.ChangeShapes Go.WideShapes Go.ChangeAt Go.RowKit
set_option linter.unusedVariables false
set_option linter.unusedSimpArgs false

theorem sl_pair {W : World} {g : Nat} {x y : Int} (h1 : W.cell? ⟨g, 0, none⟩ = some (.int .i64 x)) (h2 : W.cell? ⟨g, 1, none⟩ = some (.int .i64 y)) : Sl W (some ⟨g, 0, none⟩) 2 2 [x, y] := by
  refine ⟨rfl, Nat.le_refl _, fun e => (by cases e), .inr ⟨g, 0, rfl, fun j u hj => ?_⟩⟩
  match j, hj with
  | 0, hj => simp at hj; subst hj; exact h1
  | 1, hj => simp at hj; subst hj; exact h2
theorem set_take (l : List Int) (x : Int) {k : Nat} (h : k < l.length) : l.take k ++ ([x] ++ l.drop (k + 1)) = l.set k x := by
  rw [List.set_eq_take_append_cons_drop, if_pos h]; rfl
theorem set_two (l : List Int) (a b : Int) {k : Nat} (h : k + 1 < l.length) : l.take k ++ ([a, b] ++ l.drop (k + 2)) = (l.set k a).set (k + 1) b := by
  rw [← set_take (l.set k a) b (by simpa using h), ← set_take l a (by omega)]
  have e1 : (l.take k ++ ([a] ++ l.drop (k + 1))).take (k + 1) = l.take k ++ [a] := by
    rw [List.take_append, List.length_take, Nat.min_eq_left (by omega), List.take_of_length_le (by rw [List.length_take]; omega), show k + 1 - k = 1 from by omega]; rfl
  have e2 : (l.take k ++ ([a] ++ l.drop (k + 1))).drop (k + 1 + 1) = l.drop (k + 2) := by
    rw [List.drop_append, List.length_take, Nat.min_eq_left (by omega), List.drop_eq_nil_of_le (by rw [List.length_take]; omega), show k + 1 + 1 - k = 2 from by omega]
    simp [List.drop_drop]
  rw [e1, e2]
  simp

set_option maxHeartbeats 2000000 in
theorem innerMerges_walk (A B : Option Addr) (n c m d : Nat) (ks ws : List Int) (i r : Int) (w : World) (hk : Sl w A n c ks) (hw : Sl w B m d ws) :
    Calls Try.prog 9 #[inn A n c B m d, .int .i64 i, .int .i64 r] w fun e w' => e = .returned (.bool true) ∧ Below w.heap.size w w' := by
  go_enter Try.func9, Try.ntmps9
  go_wp2_with fail
  obtain ⟨W0, hW, hb0, HN0⟩ := boxed0 w (.slice A n c) (.slice B m d)
  rw [hW]
  clear hW
  refine (awake_walk W0).mono ?_
  rintro e w1 ⟨rfl, p1⟩
  obtain ⟨c0, c1⟩ := HN0.below p1
  go_wp2_with fail
  refine (short_one w1.heap.size A B n c m d _ (by simp) (by simp)).mono ?_
  rintro e V ⟨rfl, p2⟩
  have pV : Below W0.heap.size W0 V := p1.trans (((below_new w1 _).trans (p2.mono (by simp))).mono p1.size)
  have hbV := hb0.trans (pV.mono hb0.size)
  have HN := HN0.below pV
  clear c0 c1 p1 p2 hb0
  by_cases hfew : n ≤ 40 ∧ m ≤ 40
  case neg =>
    rw [decide_eq_false hfew]
    go_wp2
    go_ret
    exact ⟨rfl, hbV⟩
  rw [decide_eq_true hfew]
  obtain ⟨hn, hm⟩ := hfew
  have Hk := hk.below hbV
  have Hw := hw.below hbV
  obtain ⟨c0, c1⟩ := id HN
  have sV : w.heap.size < V.heap.size := World.block_lt_of_cell? V _ c0
  clear hk hw pV HN0
  go_wp2_with fail
  obtain ⟨X, O, hX, hO, iv⟩ : ∃ (X : World) (O : Nat), V.alloc (.cells #[.slice A n c, .slice B m d] 26) = X ∧ V.heap.size = O ∧ Iv V O A n c B m d ks ws X := ⟨_, _, rfl, rfl, ⟨h_new rfl, Hk.alloc _, Hw.alloc _, Nat.le_refl _, below_new V _⟩⟩
  rw [hX, hO]
  clear hX hO
  have low := iv.low
  have l1 : w.heap.size ≠ O := by omega
  have l2 : O ≠ w.heap.size := by omega
  refine (in_walk A B n c m d i X (by omega) (by omega)).mono ?_
  rintro e w4 ⟨rfl, p4⟩
  have iv4 := iv.next p4
  clear iv p4 c0 c1
  cases hin : (fitsB n m && hasB m i) with
  | false =>
    have HI : Hid ((fitsB n m && hasTwoB m i) = false) := by
      show _ = _
      cases hf : fitsB n m with
      | false => rfl
      | true =>
        rw [hf, Bool.true_and] at hin
        simp [hasB, hasTwoB] at hin ⊢
        intro h
        have := hin h
        omega
    clear hin
    obtain ⟨d0, d1⟩ := HN.below iv4.below
    have o0 := iv4.cell0
    have o1 := iv4.cell1
    go_wp2
    have HF : Hid (∀ w', Below w4.heap.size w4 w' → (w'.cell? ⟨w.heap.size, 0, none⟩ = some (.slice A n c) ∧ w'.cell? ⟨w.heap.size, 1, none⟩ = some (.slice B m d) ∧ w'.cell? ⟨O, 0, none⟩ = some (.slice A n c) ∧ w'.cell? ⟨O, 1, none⟩ = some (.slice B m d))) := fun w' h => ⟨below_read h d0, below_read h d1, below_read h o0, below_read h o1⟩
    go_region_held3 (fun w' => w'.cell? ⟨w.heap.size, 0, none⟩ = some (.slice A n c) ∧ w'.cell? ⟨w.heap.size, 1, none⟩ = some (.slice B m d) ∧ w'.cell? ⟨O, 0, none⟩ = some (.slice A n c) ∧ w'.cell? ⟨O, 1, none⟩ = some (.slice B m d)) (first | (refine HF.out _ ?_; go_grown; done) | go_keep) (first
      | (go_at_call 30
         refine (merged_out A B n c m d ks ws i r _ ?_ ?_ (by omega) (by omega) HI.out).mono ?_; (· exact (Hk.below iv4.below).below (by go_grown)); (· exact (Hw.below iv4.below).below (by go_grown)); rintro e w5 ⟨x1, x2, rfl, g1, g2, p5⟩; obtain ⟨G1, M1, h1, rfl⟩ := g1.shape; obtain ⟨G2, M2, h2, rfl⟩ := g2.shape
         have q5 : Below w4.heap.size w4 w5 := Below.trans (by go_grown) p5
         have s1 := g1.sl
         have s2 := g2.sl
         have HS1 : Hid (M1 ≤ 1000 ∧ M2 ≤ 1000) := by have e1 := Hk.len; have e2 := Hw.len; refine ⟨by rw [s1.len]; omega, by rw [s2.len]; omega⟩
         have iv5 := iv4.next q5
         clear g1 g2 p5)
      | (go_at_call 21
         refine (alike_walk s1 s2 iv5.keys iv5.ways HS1.out.1 HS1.out.2).mono ?_
         rintro e w6 ⟨rfl, p6⟩
         have q6 := q5.trans (p6.mono q5.size))
      )
    all_goals go_wp2
    all_goals go_ret
    all_goals exact ⟨rfl, hbV.trans ((iv4.below.trans (q6.mono iv4.size)).mono hbV.size)⟩
  | true =>
    obtain ⟨hf, hh⟩ : fitsB n m = true ∧ hasB m i = true := by simpa using hin
    have h0 : 0 ≤ i ∧ i < (m : Int) := by simpa [hasB] using hh
    obtain ⟨k, rfl⟩ := Int.eq_ofNat_of_zero_le h0.1
    have hkm : k < m := by omega
    have HFT := Lib.hid hf
    have HNM : Hid (n + 1 = m) := (fitsB_iff n m).1 hf
    clear hin hf hh h0
    obtain ⟨d0, d1⟩ := HN.below iv4.below
    by_cases hk2 : k + 1 < m
    case neg =>
      have hno : ¬ ((k : Int) < (m : Int) - 1) := by omega
      have HI : Hid ((fitsB n m && hasTwoB m (k : Int)) = false) := by show _ = _; rw [HFT.out, Bool.true_and]; simp [hasTwoB]; omega
      clear d0 d1
      obtain ⟨d0, d1⟩ := HN.below iv4.below
      have o0 := iv4.cell0
      have o1 := iv4.cell1
      go_wp2
      have HF : Hid (∀ w', Below w4.heap.size w4 w' → (w'.cell? ⟨w.heap.size, 0, none⟩ = some (.slice A n c) ∧ w'.cell? ⟨w.heap.size, 1, none⟩ = some (.slice B m d) ∧ w'.cell? ⟨O, 0, none⟩ = some (.slice A n c) ∧ w'.cell? ⟨O, 1, none⟩ = some (.slice B m d))) := fun w' h => ⟨below_read h d0, below_read h d1, below_read h o0, below_read h o1⟩
      go_region_held3 (fun w' => w'.cell? ⟨w.heap.size, 0, none⟩ = some (.slice A n c) ∧ w'.cell? ⟨w.heap.size, 1, none⟩ = some (.slice B m d) ∧ w'.cell? ⟨O, 0, none⟩ = some (.slice A n c) ∧ w'.cell? ⟨O, 1, none⟩ = some (.slice B m d)) (first | (refine HF.out _ ?_; go_grown; done) | go_keep) (first
        | (go_at_call 30
           refine (merged_out A B n c m d ks ws (k : Int) r _ ?_ ?_ (by omega) (by omega) HI.out).mono ?_; (· exact (Hk.below iv4.below).below (by go_grown)); (· exact (Hw.below iv4.below).below (by go_grown)); rintro e w5 ⟨x1, x2, rfl, g1, g2, p5⟩; obtain ⟨G1, M1, h1, rfl⟩ := g1.shape; obtain ⟨G2, M2, h2, rfl⟩ := g2.shape
           have q5 : Below w4.heap.size w4 w5 := Below.trans (by go_grown) p5
           have s1 := g1.sl
           have s2 := g2.sl
           have HS1 : Hid (M1 ≤ 1000 ∧ M2 ≤ 1000) := by have e1 := Hk.len; have e2 := Hw.len; refine ⟨by rw [s1.len]; omega, by rw [s2.len]; omega⟩
           have iv5 := iv4.next q5
           clear g1 g2 p5)
        | (go_at_call 21
           refine (alike_walk s1 s2 iv5.keys iv5.ways HS1.out.1 HS1.out.2).mono ?_
           rintro e w6 ⟨rfl, p6⟩
           have q6 := q5.trans (p6.mono q5.size))
        )
      all_goals go_wp2
      all_goals go_ret
      all_goals exact ⟨rfl, hbV.trans ((iv4.below.trans (q6.mono iv4.size)).mono hbV.size)⟩
    have hyes : (k : Int) < (m : Int) - 1 := by omega
    have HE : Hid ((k : Int) + 2 = ((k + 2 : Nat) : Int)) := by show _ = _; omega
    have s4 : w.heap.size < w4.heap.size := World.block_lt_of_cell? w4 _ d0
    go_wp2_with fail
    rw [HE.out]
    have iv5 := iv4.next (below_new w4 (.cells #[.int .i64 r] 35))
    refine (instead_walk A B none (some ⟨w4.heap.size, 0, none⟩) n c m d 0 0 1 1 ks ws [] [r] k (k + 2) _ (Hk.below iv5.below) (Hw.below iv5.below) (Sl.nil _) (sl_one (c_new rfl rfl)) HNM.out (by omega) (by omega) (by omega) (by omega) (by omega)).mono ?_
    rintro e w8 ⟨u1, u2, rfl, g1, g2, p8⟩
    obtain ⟨E1, L1, e1, rfl⟩ := g1.shape
    obtain ⟨E2, L2, e2, rfl⟩ := g2.shape
    have IV9 := Lib.hid (iv5.store g1 g2 p8)
    have iv8 := iv5.next p8
    have o0 := iv8.cell0
    have o1 := iv8.cell1
    have o2 := iv8.free 0
    have o3 := iv8.free 1
    clear d0 d1
    obtain ⟨d0, d1⟩ := HN.below iv8.below
    go_wp2
    obtain ⟨Y, hY, iv9⟩ : ∃ Y : World, (w8.setCell ⟨O, 0, none⟩ (.slice E1 L1 e1)).setCell ⟨O, 1, none⟩ (.slice E2 L2 e2) = Y ∧ Iv V O E1 L1 e1 E2 L2 e2 (ks.take k ++ ([] ++ ks.drop (k + 2 - 1))) (ws.take k ++ ([r] ++ ws.drop (k + 2))) Y := ⟨_, rfl, IV9.out⟩
    rw [hY]
    rw [show k + 2 - 1 = k + 1 from by omega, List.nil_append] at iv9
    clear hY IV9 iv8 iv5 iv4 o0 o1 o2 o3 d0 d1 g1 g2 p8
    obtain ⟨d0, d1⟩ := HN.below iv9.below
    have o0 := iv9.cell0
    have o1 := iv9.cell1
    have HF : Hid (∀ w', Below Y.heap.size Y w' → (w'.cell? ⟨w.heap.size, 0, none⟩ = some (.slice A n c) ∧ w'.cell? ⟨w.heap.size, 1, none⟩ = some (.slice B m d) ∧ w'.cell? ⟨O, 0, none⟩ = some (.slice E1 L1 e1) ∧ w'.cell? ⟨O, 1, none⟩ = some (.slice E2 L2 e2))) := fun w' h => ⟨below_read h d0, below_read h d1, below_read h o0, below_read h o1⟩
    go_region_held3 (fun w' => w'.cell? ⟨w.heap.size, 0, none⟩ = some (.slice A n c) ∧ w'.cell? ⟨w.heap.size, 1, none⟩ = some (.slice B m d) ∧ w'.cell? ⟨O, 0, none⟩ = some (.slice E1 L1 e1) ∧ w'.cell? ⟨O, 1, none⟩ = some (.slice E2 L2 e2)) (first | (refine HF.out _ ?_; go_grown; done) | go_keep) (first
      | (go_at_call 30
         refine (merged_in A B n c m d ks ws k r _ ?_ ?_ (by omega) (by omega) HFT.out hk2).mono ?_; (· exact (Hk.below iv9.below).below (by go_grown)); (· exact (Hw.below iv9.below).below (by go_grown)); rintro e w5 ⟨x1, x2, rfl, g1, g2, p5⟩; obtain ⟨G1, M1, h1, rfl⟩ := g1.shape; obtain ⟨G2, M2, h2, rfl⟩ := g2.shape
         have q5 : Below Y.heap.size Y w5 := Below.trans (by go_grown) p5
         have s1 := g1.sl
         have s2 := g2.sl
         have HS1 : Hid (M1 ≤ 1000 ∧ M2 ≤ 1000) := by have e1 := Hk.len; have e2 := Hw.len; refine ⟨by rw [s1.len]; simp; omega, by rw [s2.len]; simp; omega⟩
         have iv5 := iv9.next q5
         clear g1 g2 p5)
      | (go_at_call 21
         refine (alike_walk s1 s2 iv5.keys iv5.ways HS1.out.1 HS1.out.2).mono ?_
         rintro e w6 ⟨rfl, p6⟩
         have q6 := q5.trans (p6.mono q5.size))
      )
    all_goals go_wp2
    all_goals go_ret
    all_goals exact ⟨rfl, hbV.trans ((iv9.below.trans (q6.mono iv9.size)).mono hbV.size)⟩

set_option maxHeartbeats 2000000 in
theorem innerTurns_walk (A B : Option Addr) (n c m d : Nat) (ks ws : List Int) (i a x b : Int) (w : World) (hk : Sl w A n c ks) (hw : Sl w B m d ws) :
    Calls Try.prog 10 #[inn A n c B m d, .int .i64 i, .int .i64 a, .int .i64 x, .int .i64 b] w fun e w' => e = .returned (.bool true) ∧ Below w.heap.size w w' := by
  go_enter Try.func10, Try.ntmps10
  go_wp2_with fail
  obtain ⟨W0, hW, hb0, HN0⟩ := boxed0 w (.slice A n c) (.slice B m d)
  rw [hW]
  clear hW
  refine (awake_walk W0).mono ?_
  rintro e w1 ⟨rfl, p1⟩
  obtain ⟨c0, c1⟩ := HN0.below p1
  go_wp2_with fail
  refine (short_one w1.heap.size A B n c m d _ (by simp) (by simp)).mono ?_
  rintro e V ⟨rfl, p2⟩
  have pV : Below W0.heap.size W0 V := p1.trans (((below_new w1 _).trans (p2.mono (by simp))).mono p1.size)
  have hbV := hb0.trans (pV.mono hb0.size)
  have HN := HN0.below pV
  clear c0 c1 p1 p2 hb0
  by_cases hfew : n ≤ 40 ∧ m ≤ 40
  case neg =>
    rw [decide_eq_false hfew]
    go_wp2
    go_ret
    exact ⟨rfl, hbV⟩
  rw [decide_eq_true hfew]
  obtain ⟨hn, hm⟩ := hfew
  have Hk := hk.below hbV
  have Hw := hw.below hbV
  obtain ⟨c0, c1⟩ := id HN
  have sV : w.heap.size < V.heap.size := World.block_lt_of_cell? V _ c0
  clear hk hw pV HN0
  go_wp2_with fail
  obtain ⟨X, O, hX, hO, iv⟩ : ∃ (X : World) (O : Nat), V.alloc (.cells #[.slice A n c, .slice B m d] 26) = X ∧ V.heap.size = O ∧ Iv V O A n c B m d ks ws X := ⟨_, _, rfl, rfl, ⟨h_new rfl, Hk.alloc _, Hw.alloc _, Nat.le_refl _, below_new V _⟩⟩
  rw [hX, hO]
  clear hX hO
  have low := iv.low
  have l1 : w.heap.size ≠ O := by omega
  have l2 : O ≠ w.heap.size := by omega
  refine (in_walk A B n c m d i X (by omega) (by omega)).mono ?_
  rintro e w4 ⟨rfl, p4⟩
  have iv4 := iv.next p4
  clear iv p4 c0 c1
  cases hin : (fitsB n m && hasB m i) with
  | false =>
    have HI : Hid ((fitsB n m && hasTwoB m i) = false) := by
      show _ = _
      cases hf : fitsB n m with
      | false => rfl
      | true =>
        rw [hf, Bool.true_and] at hin
        simp [hasB, hasTwoB] at hin ⊢
        intro h
        have := hin h
        omega
    clear hin
    obtain ⟨d0, d1⟩ := HN.below iv4.below
    have o0 := iv4.cell0
    have o1 := iv4.cell1
    go_wp2
    have HF : Hid (∀ w', Below w4.heap.size w4 w' → (w'.cell? ⟨w.heap.size, 0, none⟩ = some (.slice A n c) ∧ w'.cell? ⟨w.heap.size, 1, none⟩ = some (.slice B m d) ∧ w'.cell? ⟨O, 0, none⟩ = some (.slice A n c) ∧ w'.cell? ⟨O, 1, none⟩ = some (.slice B m d))) := fun w' h => ⟨below_read h d0, below_read h d1, below_read h o0, below_read h o1⟩
    go_region_held3 (fun w' => w'.cell? ⟨w.heap.size, 0, none⟩ = some (.slice A n c) ∧ w'.cell? ⟨w.heap.size, 1, none⟩ = some (.slice B m d) ∧ w'.cell? ⟨O, 0, none⟩ = some (.slice A n c) ∧ w'.cell? ⟨O, 1, none⟩ = some (.slice B m d)) (first | (refine HF.out _ ?_; go_grown; done) | go_keep) (first
      | (go_at_call 31
         refine (turned_out A B n c m d ks ws i a x b _ ?_ ?_ (by omega) (by omega) HI.out).mono ?_; (· exact (Hk.below iv4.below).below (by go_grown)); (· exact (Hw.below iv4.below).below (by go_grown)); rintro e w5 ⟨x1, x2, rfl, g1, g2, p5⟩; obtain ⟨G1, M1, h1, rfl⟩ := g1.shape; obtain ⟨G2, M2, h2, rfl⟩ := g2.shape
         have q5 : Below w4.heap.size w4 w5 := Below.trans (by go_grown) p5
         have s1 := g1.sl
         have s2 := g2.sl
         have HS1 : Hid (M1 ≤ 1000 ∧ M2 ≤ 1000) := by have e1 := Hk.len; have e2 := Hw.len; refine ⟨by rw [s1.len]; omega, by rw [s2.len]; omega⟩
         have iv5 := iv4.next q5
         clear g1 g2 p5)
      | (go_at_call 21
         refine (alike_walk s1 s2 iv5.keys iv5.ways HS1.out.1 HS1.out.2).mono ?_
         rintro e w6 ⟨rfl, p6⟩
         have q6 := q5.trans (p6.mono q5.size))
      )
    all_goals go_wp2
    all_goals go_ret
    all_goals exact ⟨rfl, hbV.trans ((iv4.below.trans (q6.mono iv4.size)).mono hbV.size)⟩
  | true =>
    obtain ⟨hf, hh⟩ : fitsB n m = true ∧ hasB m i = true := by simpa using hin
    have h0 : 0 ≤ i ∧ i < (m : Int) := by simpa [hasB] using hh
    obtain ⟨k, rfl⟩ := Int.eq_ofNat_of_zero_le h0.1
    have hkm : k < m := by omega
    have HFT := Lib.hid hf
    have HNM : Hid (n + 1 = m) := (fitsB_iff n m).1 hf
    clear hin hf hh h0
    obtain ⟨d0, d1⟩ := HN.below iv4.below
    by_cases hk2 : k + 1 < m
    case neg =>
      have hno : ¬ ((k : Int) < (m : Int) - 1) := by omega
      have HI : Hid ((fitsB n m && hasTwoB m (k : Int)) = false) := by show _ = _; rw [HFT.out, Bool.true_and]; simp [hasTwoB]; omega
      clear d0 d1
      obtain ⟨d0, d1⟩ := HN.below iv4.below
      have o0 := iv4.cell0
      have o1 := iv4.cell1
      go_wp2
      have HF : Hid (∀ w', Below w4.heap.size w4 w' → (w'.cell? ⟨w.heap.size, 0, none⟩ = some (.slice A n c) ∧ w'.cell? ⟨w.heap.size, 1, none⟩ = some (.slice B m d) ∧ w'.cell? ⟨O, 0, none⟩ = some (.slice A n c) ∧ w'.cell? ⟨O, 1, none⟩ = some (.slice B m d))) := fun w' h => ⟨below_read h d0, below_read h d1, below_read h o0, below_read h o1⟩
      go_region_held3 (fun w' => w'.cell? ⟨w.heap.size, 0, none⟩ = some (.slice A n c) ∧ w'.cell? ⟨w.heap.size, 1, none⟩ = some (.slice B m d) ∧ w'.cell? ⟨O, 0, none⟩ = some (.slice A n c) ∧ w'.cell? ⟨O, 1, none⟩ = some (.slice B m d)) (first | (refine HF.out _ ?_; go_grown; done) | go_keep) (first
        | (go_at_call 31
           refine (turned_out A B n c m d ks ws (k : Int) a x b _ ?_ ?_ (by omega) (by omega) HI.out).mono ?_; (· exact (Hk.below iv4.below).below (by go_grown)); (· exact (Hw.below iv4.below).below (by go_grown)); rintro e w5 ⟨x1, x2, rfl, g1, g2, p5⟩; obtain ⟨G1, M1, h1, rfl⟩ := g1.shape; obtain ⟨G2, M2, h2, rfl⟩ := g2.shape
           have q5 : Below w4.heap.size w4 w5 := Below.trans (by go_grown) p5
           have s1 := g1.sl
           have s2 := g2.sl
           have HS1 : Hid (M1 ≤ 1000 ∧ M2 ≤ 1000) := by have e1 := Hk.len; have e2 := Hw.len; refine ⟨by rw [s1.len]; omega, by rw [s2.len]; omega⟩
           have iv5 := iv4.next q5
           clear g1 g2 p5)
        | (go_at_call 21
           refine (alike_walk s1 s2 iv5.keys iv5.ways HS1.out.1 HS1.out.2).mono ?_
           rintro e w6 ⟨rfl, p6⟩
           have q6 := q5.trans (p6.mono q5.size))
        )
      all_goals go_wp2
      all_goals go_ret
      all_goals exact ⟨rfl, hbV.trans ((iv4.below.trans (q6.mono iv4.size)).mono hbV.size)⟩
    have hyes : (k : Int) < (m : Int) - 1 := by omega
    have HE : Hid ((k : Int) + 2 = ((k + 2 : Nat) : Int)) := by show _ = _; omega
    have s4 : w.heap.size < w4.heap.size := World.block_lt_of_cell? w4 _ d0
    go_wp2_with fail
    rw [HE.out]
    have iv5 := (iv4.next (below_new w4 (.cells #[.int .i64 x] 2))).next (below_new _ (.cells #[.int .i64 a, .int .i64 b] 35))
    refine (instead_walk A B (some ⟨w4.heap.size, 0, none⟩) (some ⟨w4.heap.size + 1, 0, none⟩) n c m d 1 1 2 2 ks ws [x] [a, b] k (k + 2) _ (Hk.below iv5.below) (Hw.below iv5.below) (sl_one (c_old (c_new rfl rfl))) (sl_pair (c_new (by simp) rfl) (c_new (by simp) rfl)) HNM.out (by omega) (by omega) (by omega) (by omega) (by omega)).mono ?_
    rintro e w8 ⟨u1, u2, rfl, g1, g2, p8⟩
    obtain ⟨E1, L1, e1, rfl⟩ := g1.shape
    obtain ⟨E2, L2, e2, rfl⟩ := g2.shape
    have IV9 := Lib.hid (iv5.store g1 g2 p8)
    have iv8 := iv5.next p8
    have o0 := iv8.cell0
    have o1 := iv8.cell1
    have o2 := iv8.free 0
    have o3 := iv8.free 1
    clear d0 d1
    obtain ⟨d0, d1⟩ := HN.below iv8.below
    go_wp2
    obtain ⟨Y, hY, iv9⟩ : ∃ Y : World, (w8.setCell ⟨O, 0, none⟩ (.slice E1 L1 e1)).setCell ⟨O, 1, none⟩ (.slice E2 L2 e2) = Y ∧ Iv V O E1 L1 e1 E2 L2 e2 (ks.take k ++ ([x] ++ ks.drop (k + 2 - 1))) (ws.take k ++ ([a, b] ++ ws.drop (k + 2))) Y := ⟨_, rfl, IV9.out⟩
    rw [hY]
    rw [show k + 2 - 1 = k + 1 from by omega, set_take ks x (by have := Hk.len; have := HNM.out; omega), set_two ws a b (by have := Hw.len; omega)] at iv9
    clear hY IV9 iv8 iv5 iv4 o0 o1 o2 o3 d0 d1 g1 g2 p8
    obtain ⟨d0, d1⟩ := HN.below iv9.below
    have o0 := iv9.cell0
    have o1 := iv9.cell1
    have HF : Hid (∀ w', Below Y.heap.size Y w' → (w'.cell? ⟨w.heap.size, 0, none⟩ = some (.slice A n c) ∧ w'.cell? ⟨w.heap.size, 1, none⟩ = some (.slice B m d) ∧ w'.cell? ⟨O, 0, none⟩ = some (.slice E1 L1 e1) ∧ w'.cell? ⟨O, 1, none⟩ = some (.slice E2 L2 e2))) := fun w' h => ⟨below_read h d0, below_read h d1, below_read h o0, below_read h o1⟩
    go_region_held3 (fun w' => w'.cell? ⟨w.heap.size, 0, none⟩ = some (.slice A n c) ∧ w'.cell? ⟨w.heap.size, 1, none⟩ = some (.slice B m d) ∧ w'.cell? ⟨O, 0, none⟩ = some (.slice E1 L1 e1) ∧ w'.cell? ⟨O, 1, none⟩ = some (.slice E2 L2 e2)) (first | (refine HF.out _ ?_; go_grown; done) | go_keep) (first
      | (go_at_call 31
         refine (turned_in A B n c m d ks ws k a x b _ ?_ ?_ (by omega) (by omega) HFT.out hk2).mono ?_; (· exact (Hk.below iv9.below).below (by go_grown)); (· exact (Hw.below iv9.below).below (by go_grown)); rintro e w5 ⟨x1, x2, rfl, g1, g2, p5⟩; obtain ⟨G1, M1, h1, rfl⟩ := g1.shape; obtain ⟨G2, M2, h2, rfl⟩ := g2.shape
         have q5 : Below Y.heap.size Y w5 := Below.trans (by go_grown) p5
         have s1 := g1.sl
         have s2 := g2.sl
         have HS1 : Hid (M1 ≤ 1000 ∧ M2 ≤ 1000) := by have e1 := Hk.len; have e2 := Hw.len; refine ⟨by rw [s1.len]; simp; omega, by rw [s2.len]; simp; omega⟩
         have iv5 := iv9.next q5
         clear g1 g2 p5)
      | (go_at_call 21
         refine (alike_walk s1 s2 iv5.keys iv5.ways HS1.out.1 HS1.out.2).mono ?_
         rintro e w6 ⟨rfl, p6⟩
         have q6 := q5.trans (p6.mono q5.size))
      )
    all_goals go_wp2
    all_goals go_ret
    all_goals exact ⟨rfl, hbV.trans ((iv9.below.trans (q6.mono iv9.size)).mono hbV.size)⟩

end Go.Proofs.Ytpbbkfpapmomhaa
