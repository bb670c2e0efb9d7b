/-
  The walk of InnerAbsorbs: it returns true, for every input, and changes nothing that was there.
-/
import Derived.Test.YtpbbkfpapmomhaaLawsA
namespace Go.Proofs.Ytpbbkfpapmomhaa
open Go.ChangeShapes Go.WideShapes Go.ChangeAt Go.RowKit
set_option linter.unusedVariables false
set_option linter.unusedSimpArgs false

set_option maxHeartbeats 2000000 in
theorem innerAbsorbs_walk (A B A' B' : Option Addr) (n c m d n' c' m' d' : Nat) (ks ws os vs : List Int) (i : Int) (w : World) (hk : Sl w A n c ks) (hw : Sl w B m d ws) (ho : Sl w A' n' c' os) (hv : Sl w B' m' d' vs) :
    Calls Try.prog 6 #[inn A n c B m d, inn A' n' c' B' m' d', .int .i64 i] w fun e w' => e = .returned (.bool true) ∧ Below w.heap.size w w' := by
  go_enter Try.func6, Try.ntmps6
  go_wp2_with fail
  obtain ⟨W0, b, hW, hb, hb0, HN0, HO0⟩ := boxedS w (.slice A n c) (.slice B m d) (.slice A' n' c') (.slice B' m' d')
  rw [hW, hb]
  have hlt : w.heap.size < b := by omega
  clear hW hb
  refine (awake_walk W0).mono ?_
  rintro e w1 ⟨rfl, p1⟩
  obtain ⟨c0, c1⟩ := HN0.below p1
  obtain ⟨c2, c3⟩ := HO0.below p1
  go_wp2_with fail
  refine (short_two w1.heap.size A B A' B' n c m d n' c' m' d' _ (by simp) (by simp) (by simp) (by simp)).mono ?_
  rintro e V ⟨rfl, p2⟩
  have pV : Below W0.heap.size W0 V := p1.trans (((below_new w1 _).trans (p2.mono (by simp))).mono p1.size)
  have hbV := hb0.trans (pV.mono hb0.size)
  have HN := HN0.below pV
  have HO := HO0.below pV
  clear c0 c1 c2 c3 p1 p2 hb0
  by_cases hfew : (n ≤ 40 ∧ m ≤ 40) ∧ (n' ≤ 40 ∧ m' ≤ 40)
  case neg =>
    have HF : Hid ((decide (n ≤ 40 ∧ m ≤ 40) && decide (n' ≤ 40 ∧ m' ≤ 40)) = false) := by show _ = _; rw [← Bool.decide_and]; exact decide_eq_false hfew
    clear hfew
    rw [HF.out]
    go_wp2
    go_ret
    exact ⟨rfl, hbV⟩
  have HF : Hid ((decide (n ≤ 40 ∧ m ≤ 40) && decide (n' ≤ 40 ∧ m' ≤ 40)) = true) := by show _ = _; rw [← Bool.decide_and]; exact decide_eq_true hfew
  rw [HF.out]
  obtain ⟨⟨hn, hm⟩, hn', hm'⟩ := hfew
  have Hk := hk.below hbV
  have Hw := hw.below hbV
  have Ho := ho.below hbV
  have Hv := hv.below hbV
  obtain ⟨c0, c1⟩ := id HN
  obtain ⟨c2, c3⟩ := id HO
  have sV : w.heap.size < V.heap.size := World.block_lt_of_cell? V _ c0
  have sV2 : b < V.heap.size := World.block_lt_of_cell? V _ c2
  clear hk hw ho hv pV HN0 HO0 HF
  go_wp2_with fail
  obtain ⟨X, O, hX, hO, iv⟩ : ∃ (X : World) (O : Nat), V.alloc (.cells #[.slice A n c, .slice B m d] 26) = X ∧ V.heap.size = O ∧ Iv V O A n c B m d ks ws X := ⟨_, _, rfl, rfl, ⟨h_new rfl, Hk.alloc _, Hw.alloc _, Nat.le_refl _, below_new V _⟩⟩
  rw [hX, hO]
  clear hX hO
  have low := iv.low
  have l1 : w.heap.size ≠ O := by omega
  have l2 : O ≠ w.heap.size := by omega
  have l3 : b ≠ O := by omega
  have l4 : O ≠ b := by omega
  refine (in_walk A B n c m d i X (by omega) (by omega)).mono ?_
  rintro e w4 ⟨rfl, p4⟩
  have iv4 := iv.next p4
  clear iv p4 c0 c1 c2 c3
  cases hin : (fitsB n m && hasB m i) with
  | false =>
    have HI : Hid ((fitsB n m && hasB m i && fitsB n' m') = false) := by show _ = _; rw [hin]; rfl
    clear hin
    obtain ⟨d0, d1⟩ := HN.below iv4.below
    obtain ⟨d2, d3⟩ := HO.below iv4.below
    have o0 := iv4.cell0
    have o1 := iv4.cell1
    go_wp2
    have HF : Hid (∀ w', Below w4.heap.size w4 w' → (w'.cell? ⟨w.heap.size, 0, none⟩ = some (.slice A n c) ∧ w'.cell? ⟨w.heap.size, 1, none⟩ = some (.slice B m d) ∧ w'.cell? ⟨b, 0, none⟩ = some (.slice A' n' c') ∧ w'.cell? ⟨b, 1, none⟩ = some (.slice B' m' d') ∧ w'.cell? ⟨O, 0, none⟩ = some (.slice A n c) ∧ w'.cell? ⟨O, 1, none⟩ = some (.slice B m d))) := fun w' h => ⟨below_read h d0, below_read h d1, below_read h d2, below_read h d3, below_read h o0, below_read h o1⟩
    go_region_held3 (fun w' => w'.cell? ⟨w.heap.size, 0, none⟩ = some (.slice A n c) ∧ w'.cell? ⟨w.heap.size, 1, none⟩ = some (.slice B m d) ∧ w'.cell? ⟨b, 0, none⟩ = some (.slice A' n' c') ∧ w'.cell? ⟨b, 1, none⟩ = some (.slice B' m' d') ∧ w'.cell? ⟨O, 0, none⟩ = some (.slice A n c) ∧ w'.cell? ⟨O, 1, none⟩ = some (.slice B m d)) (first | (refine HF.out _ ?_; go_grown; done) | go_keep) (first
      | (go_at_call 25
         refine (absorb_out A B A' B' n c m d n' c' m' d' ks ws i _ ?_ ?_ (by omega) (by omega) (by omega) (by omega) HI.out).mono ?_; (· exact (Hk.below iv4.below).below (by go_grown)); (· exact (Hw.below iv4.below).below (by go_grown)); rintro e w5 ⟨x1, x2, rfl, g1, g2, p5⟩; obtain ⟨G1, M1, h1, rfl⟩ := g1.shape; obtain ⟨G2, M2, h2, rfl⟩ := g2.shape
         have q5 : Below w4.heap.size w4 w5 := Below.trans (by go_grown) p5
         have s1 := g1.sl
         have s2 := g2.sl
         have HS1 : Hid (M1 ≤ 1000 ∧ M2 ≤ 1000) := by have e1 := Hk.len; have e2 := Hw.len; refine ⟨by rw [s1.len]; omega, by rw [s2.len]; omega⟩
         have iv5 := iv4.next q5
         clear g1 g2 p5)
      | (go_at_call 21
         refine (alike_walk s1 s2 iv5.keys iv5.ways HS1.out.1 HS1.out.2).mono ?_
         rintro e w6 ⟨rfl, p6⟩
         have q6 := q5.trans (p6.mono q5.size))
      )
    all_goals go_wp2
    all_goals go_ret
    all_goals exact ⟨rfl, hbV.trans ((iv4.below.trans (q6.mono iv4.size)).mono hbV.size)⟩
  | true =>
    obtain ⟨i2, i3⟩ := HO.below iv4.below
    go_wp2_with fail
    refine (right_walk A' B' n' c' m' d' w4 (by omega) (by omega)).mono ?_
    rintro e w7 ⟨rfl, p7⟩
    have iv7 := iv4.next p7
    clear iv4 p7 i2 i3
    cases hr : fitsB n' m' with
    | false =>
      have HI : Hid ((fitsB n m && hasB m i && fitsB n' m') = false) := by show _ = _; rw [hin, hr]; rfl
      clear hin hr
      obtain ⟨d0, d1⟩ := HN.below iv7.below
      obtain ⟨d2, d3⟩ := HO.below iv7.below
      have o0 := iv7.cell0
      have o1 := iv7.cell1
      go_wp2
      have HF : Hid (∀ w', Below w7.heap.size w7 w' → (w'.cell? ⟨w.heap.size, 0, none⟩ = some (.slice A n c) ∧ w'.cell? ⟨w.heap.size, 1, none⟩ = some (.slice B m d) ∧ w'.cell? ⟨b, 0, none⟩ = some (.slice A' n' c') ∧ w'.cell? ⟨b, 1, none⟩ = some (.slice B' m' d') ∧ w'.cell? ⟨O, 0, none⟩ = some (.slice A n c) ∧ w'.cell? ⟨O, 1, none⟩ = some (.slice B m d))) := fun w' h => ⟨below_read h d0, below_read h d1, below_read h d2, below_read h d3, below_read h o0, below_read h o1⟩
      go_region_held3 (fun w' => w'.cell? ⟨w.heap.size, 0, none⟩ = some (.slice A n c) ∧ w'.cell? ⟨w.heap.size, 1, none⟩ = some (.slice B m d) ∧ w'.cell? ⟨b, 0, none⟩ = some (.slice A' n' c') ∧ w'.cell? ⟨b, 1, none⟩ = some (.slice B' m' d') ∧ w'.cell? ⟨O, 0, none⟩ = some (.slice A n c) ∧ w'.cell? ⟨O, 1, none⟩ = some (.slice B m d)) (first | (refine HF.out _ ?_; go_grown; done) | go_keep) (first
        | (go_at_call 25
           refine (absorb_out A B A' B' n c m d n' c' m' d' ks ws i _ ?_ ?_ (by omega) (by omega) (by omega) (by omega) HI.out).mono ?_; (· exact (Hk.below iv7.below).below (by go_grown)); (· exact (Hw.below iv7.below).below (by go_grown)); rintro e w5 ⟨x1, x2, rfl, g1, g2, p5⟩; obtain ⟨G1, M1, h1, rfl⟩ := g1.shape; obtain ⟨G2, M2, h2, rfl⟩ := g2.shape
           have q5 : Below w7.heap.size w7 w5 := Below.trans (by go_grown) p5
           have s1 := g1.sl
           have s2 := g2.sl
           have HS1 : Hid (M1 ≤ 1000 ∧ M2 ≤ 1000) := by have e1 := Hk.len; have e2 := Hw.len; refine ⟨by rw [s1.len]; omega, by rw [s2.len]; omega⟩
           have iv5 := iv7.next q5
           clear g1 g2 p5)
        | (go_at_call 21
           refine (alike_walk s1 s2 iv5.keys iv5.ways HS1.out.1 HS1.out.2).mono ?_
           rintro e w6 ⟨rfl, p6⟩
           have q6 := q5.trans (p6.mono q5.size))
        )
      all_goals go_wp2
      all_goals go_ret
      all_goals exact ⟨rfl, hbV.trans ((iv7.below.trans (q6.mono iv7.size)).mono hbV.size)⟩
    | true =>
      obtain ⟨hf, hh⟩ : fitsB n m = true ∧ hasB m i = true := by simpa using hin
      have h0 : 0 ≤ i ∧ i < (m : Int) := by simpa [hasB] using hh
      obtain ⟨k, rfl⟩ := Int.eq_ofNat_of_zero_le h0.1
      have hkm : k < m := by omega
      have HFT := Lib.hid hf
      have HFR := Lib.hid hr
      have HNM : Hid (n + 1 = m) := (fitsB_iff n m).1 hf
      have HE : Hid ((k : Int) + 1 = ((k + 1 : Nat) : Int)) := by show _ = _; omega
      clear hin hf hh h0 hr
      obtain ⟨d0, d1⟩ := HN.below iv7.below
      obtain ⟨d2, d3⟩ := HO.below iv7.below
      have hki : (k : Int) < (m : Int) := by omega
      go_wp2_with fail
      rw [HE.out]
      refine (instead_walk A B A' B' n c m d n' c' m' d' ks ws os vs k (k + 1) w7 (Hk.below iv7.below) (Hw.below iv7.below) (Ho.below iv7.below) (Hv.below iv7.below) HNM.out (by omega) (by omega) (by omega) (by omega) (by omega)).mono ?_
      rintro e w8 ⟨u1, u2, rfl, g1, g2, p8⟩
      obtain ⟨E1, L1, e1, rfl⟩ := g1.shape
      obtain ⟨E2, L2, e2, rfl⟩ := g2.shape
      have IV9 := Lib.hid (iv7.store g1 g2 p8)
      have iv8 := iv7.next p8
      have o0 := iv8.cell0
      have o1 := iv8.cell1
      have o2 := iv8.free 0
      have o3 := iv8.free 1
      clear d0 d1 d2 d3
      obtain ⟨d0, d1⟩ := HN.below iv8.below
      obtain ⟨d2, d3⟩ := HO.below iv8.below
      go_wp2
      obtain ⟨Y, hY, iv9⟩ : ∃ Y : World, (w8.setCell ⟨O, 0, none⟩ (.slice E1 L1 e1)).setCell ⟨O, 1, none⟩ (.slice E2 L2 e2) = Y ∧ Iv V O E1 L1 e1 E2 L2 e2 (ks.take k ++ (os ++ ks.drop (k + 1 - 1))) (ws.take k ++ (vs ++ ws.drop (k + 1))) Y := ⟨_, rfl, IV9.out⟩
      rw [hY]
      rw [show k + 1 - 1 = k from by omega] at iv9
      clear hY IV9 iv8 iv7 o0 o1 o2 o3 d0 d1 d2 d3 g1 g2 p8
      obtain ⟨d0, d1⟩ := HN.below iv9.below
      obtain ⟨d2, d3⟩ := HO.below iv9.below
      have o0 := iv9.cell0
      have o1 := iv9.cell1
      have HF : Hid (∀ w', Below Y.heap.size Y w' → (w'.cell? ⟨w.heap.size, 0, none⟩ = some (.slice A n c) ∧ w'.cell? ⟨w.heap.size, 1, none⟩ = some (.slice B m d) ∧ w'.cell? ⟨b, 0, none⟩ = some (.slice A' n' c') ∧ w'.cell? ⟨b, 1, none⟩ = some (.slice B' m' d') ∧ w'.cell? ⟨O, 0, none⟩ = some (.slice E1 L1 e1) ∧ w'.cell? ⟨O, 1, none⟩ = some (.slice E2 L2 e2))) := fun w' h => ⟨below_read h d0, below_read h d1, below_read h d2, below_read h d3, below_read h o0, below_read h o1⟩
      go_region_held3 (fun w' => w'.cell? ⟨w.heap.size, 0, none⟩ = some (.slice A n c) ∧ w'.cell? ⟨w.heap.size, 1, none⟩ = some (.slice B m d) ∧ w'.cell? ⟨b, 0, none⟩ = some (.slice A' n' c') ∧ w'.cell? ⟨b, 1, none⟩ = some (.slice B' m' d') ∧ w'.cell? ⟨O, 0, none⟩ = some (.slice E1 L1 e1) ∧ w'.cell? ⟨O, 1, none⟩ = some (.slice E2 L2 e2)) (first | (refine HF.out _ ?_; go_grown; done) | go_keep) (first
        | (go_at_call 25
           refine (absorb_in A B A' B' n c m d n' c' m' d' ks ws os vs k _ ?_ ?_ ?_ ?_ (by omega) (by omega) (by omega) (by omega) HFT.out HFR.out hkm).mono ?_; (· exact (Hk.below iv9.below).below (by go_grown)); (· exact (Hw.below iv9.below).below (by go_grown)); (· exact (Ho.below iv9.below).below (by go_grown)); (· exact (Hv.below iv9.below).below (by go_grown)); rintro e w5 ⟨x1, x2, rfl, g1, g2, p5⟩; obtain ⟨G1, M1, h1, rfl⟩ := g1.shape; obtain ⟨G2, M2, h2, rfl⟩ := g2.shape
           have q5 : Below Y.heap.size Y w5 := Below.trans (by go_grown) p5
           have s1 := g1.sl
           have s2 := g2.sl
           have HS1 : Hid (M1 ≤ 1000 ∧ M2 ≤ 1000) := by have e1 := Hk.len; have e2 := Hw.len; have e3 := Ho.len; have e4 := Hv.len; refine ⟨by rw [s1.len]; simp; omega, by rw [s2.len]; simp; omega⟩
           have iv5 := iv9.next q5
           clear g1 g2 p5)
        | (go_at_call 21
           refine (alike_walk s1 s2 iv5.keys iv5.ways HS1.out.1 HS1.out.2).mono ?_
           rintro e w6 ⟨rfl, p6⟩
           have q6 := q5.trans (p6.mono q5.size))
        )
      all_goals go_wp2
      all_goals go_ret
      all_goals exact ⟨rfl, hbV.trans ((iv9.below.trans (q6.mono iv9.size)).mono hbV.size)⟩

end Go.Proofs.Ytpbbkfpapmomhaa
