/-
  The walk of InnerJoins: it returns true, for every input, and changes nothing that was there.
-/
import Derived.Test.YtpbbkfpapmomhaaLawsA
namespace Go.Proofs.Ytpbbkfpapmomhaa
open Go.ChangeShapes Go.WideShapes Go.ChangeAt Go.RowKit
set_option linter.unusedVariables false
set_option linter.unusedSimpArgs false

theorem join_halves (l : List Int) {h : Nat} (h1 : 1 ≤ h) (h2 : h ≤ l.length) : l.take (h - 1) ++ ([l.getD (h - 1) 0] ++ l.drop h) = l := by
  have hl : h - 1 < l.length := by omega
  have e : [l.getD (h - 1) 0] ++ l.drop h = l.drop (h - 1) := by
    rw [List.drop_eq_getElem_cons hl, show h - 1 + 1 = h from by omega]
    simp [List.getD, hl]
  rw [e, List.take_append_drop]

set_option maxHeartbeats 4000000 in
theorem innerJoins_walk (A B A' B' : Option Addr) (n c m d n' c' m' d' : Nat) (ks ws os vs : List Int) (x : Int) (w : World) (hk : Sl w A n c ks) (hw : Sl w B m d ws) (ho : Sl w A' n' c' os) (hv : Sl w B' m' d' vs) :
    Calls Try.prog 8 #[inn A n c B m d, inn A' n' c' B' m' d', .int .i64 x] w fun e w' => e = .returned (.bool true) ∧ Below w.heap.size w w' := by
  go_enter Try.func8, Try.ntmps8
  go_wp2_with fail
  obtain ⟨W0, b, hW, hb, hb0, HN0, HO0⟩ := boxedS w (.slice A n c) (.slice B m d) (.slice A' n' c') (.slice B' m' d')
  rw [hW, hb]
  have hlt : w.heap.size < b := by omega
  clear hW hb
  refine (awake_walk W0).mono ?_
  rintro e w1 ⟨rfl, p1⟩
  obtain ⟨c0, c1⟩ := HN0.below p1
  obtain ⟨c2, c3⟩ := HO0.below p1
  go_wp2_with fail
  refine (short_two w1.heap.size A B A' B' n c m d n' c' m' d' _ (by simp) (by simp) (by simp) (by simp)).mono ?_
  rintro e V ⟨rfl, p2⟩
  have pV : Below W0.heap.size W0 V := p1.trans (((below_new w1 _).trans (p2.mono (by simp))).mono p1.size)
  have hbV := hb0.trans (pV.mono hb0.size)
  have HN := HN0.below pV
  have HO := HO0.below pV
  clear c0 c1 c2 c3 p1 p2 hb0
  by_cases hfew : (n ≤ 40 ∧ m ≤ 40) ∧ (n' ≤ 40 ∧ m' ≤ 40)
  case neg =>
    have HF : Hid ((decide (n ≤ 40 ∧ m ≤ 40) && decide (n' ≤ 40 ∧ m' ≤ 40)) = false) := by show _ = _; rw [← Bool.decide_and]; exact decide_eq_false hfew
    clear hfew
    rw [HF.out]
    go_wp2
    go_ret
    exact ⟨rfl, hbV⟩
  have HF : Hid ((decide (n ≤ 40 ∧ m ≤ 40) && decide (n' ≤ 40 ∧ m' ≤ 40)) = true) := by show _ = _; rw [← Bool.decide_and]; exact decide_eq_true hfew
  rw [HF.out]
  obtain ⟨⟨hn, hm⟩, hn', hm'⟩ := hfew
  have Hk := hk.below hbV
  have Hw := hw.below hbV
  have Ho := ho.below hbV
  have Hv := hv.below hbV
  obtain ⟨c0, c1⟩ := id HN
  obtain ⟨c2, c3⟩ := id HO
  have sV : w.heap.size < V.heap.size := World.block_lt_of_cell? V _ c0
  have sV2 : b < V.heap.size := World.block_lt_of_cell? V _ c2
  clear hk hw ho hv pV HN0 HO0 HF
  have HL0 : Hid (n = ks.length ∧ m = ws.length ∧ n' = os.length ∧ m' = vs.length) := ⟨Hk.len, Hw.len, Ho.len, Hv.len⟩
  go_wp2_with fail
  refine (join_walk A B A' B' n c m d n' c' m' d' ks ws os vs x V Hk Hw Ho Hv (by omega) (by omega) (by omega) (by omega)).mono ?_
  rintro e w2 ⟨u, v, rfl, g1, g2, p2⟩
  obtain ⟨F1, N1, f1, rfl⟩ := g1.shape
  obtain ⟨F2, N2, f2, rfl⟩ := g2.shape
  have b1 : N1 ≤ 81 := by rw [g1.sl.len]; have := HL0.out; simp; omega
  have b2 : N2 ≤ 80 := by rw [g2.sl.len]; have := HL0.out; simp; omega
  clear c0 c1 c2 c3
  obtain ⟨c0, c1⟩ := HN.below p2
  obtain ⟨c2, c3⟩ := HO.below p2
  have s1 : w.heap.size < w2.heap.size := World.block_lt_of_cell? w2 _ c0
  have s2 : b < w2.heap.size := World.block_lt_of_cell? w2 _ c2
  go_wp2
  obtain ⟨X, O, hX, hO, st⟩ : ∃ (X : World) (O : Nat), w2.alloc (.cells #[.slice F1 N1 f1, .slice F2 N2 f2] 26) = X ∧ w2.heap.size = O ∧ St V O (.slice F1 N1 f1) (.slice F2 N2 f2) (.slice F1 N1 f1) (.slice F2 N2 f2) (ks ++ ([x] ++ os)) (ws ++ vs) X := ⟨_, _, rfl, rfl, St.new g1 g2 p2 rfl⟩
  rw [hX, hO]
  clear hX hO g1 g2 p2 c0 c1 c2 c3 s1 s2
  obtain ⟨d0, d1⟩ := HN.below st.below
  obtain ⟨d2, d3⟩ := HO.below st.below
  have o0 := st.cell0
  have o1 := st.cell1
  have HF : Hid (∀ w', Below X.heap.size X w' → (w'.cell? ⟨w.heap.size, 0, none⟩ = some (.slice A n c) ∧ w'.cell? ⟨w.heap.size, 1, none⟩ = some (.slice B m d) ∧ w'.cell? ⟨b, 0, none⟩ = some (.slice A' n' c') ∧ w'.cell? ⟨b, 1, none⟩ = some (.slice B' m' d') ∧ w'.cell? ⟨O, 0, none⟩ = some (.slice F1 N1 f1) ∧ w'.cell? ⟨O, 1, none⟩ = some (.slice F2 N2 f2))) := fun w' h => ⟨below_read h d0, below_read h d1, below_read h d2, below_read h d3, below_read h o0, below_read h o1⟩
  go_region_held3 (fun w' => w'.cell? ⟨w.heap.size, 0, none⟩ = some (.slice A n c) ∧ w'.cell? ⟨w.heap.size, 1, none⟩ = some (.slice B m d) ∧ w'.cell? ⟨b, 0, none⟩ = some (.slice A' n' c') ∧ w'.cell? ⟨b, 1, none⟩ = some (.slice B' m' d') ∧ w'.cell? ⟨O, 0, none⟩ = some (.slice F1 N1 f1) ∧ w'.cell? ⟨O, 1, none⟩ = some (.slice F2 N2 f2)) (first | (refine HF.out _ ?_; go_grown; done) | go_keep) (first
    | (go_at_call 29
       refine (lawJoin_walk A B A' B' n c m d n' c' m' d' ks ws os vs x _ ?_ ?_ ?_ ?_ (by omega) (by omega) (by omega) (by omega)).mono ?_; (· exact (Hk.below st.below).below (by go_grown)); (· exact (Hw.below st.below).below (by go_grown)); (· exact (Ho.below st.below).below (by go_grown)); (· exact (Hv.below st.below).below (by go_grown)); rintro e w5 ⟨x1, x2, rfl, g1, g2, p5⟩; obtain ⟨G1, M1, h1, rfl⟩ := g1.shape; obtain ⟨G2, M2, h2, rfl⟩ := g2.shape
       have q5 : Below X.heap.size X w5 := Below.trans (by go_grown) p5
       have s1 := g1.sl
       have s2 := g2.sl
       clear g1 g2 p5)
    | (go_at_call 21
       refine (alike_walk (st.keys.sl.below q5) (st.ways.sl.below q5) s1 s2 (by omega) (by omega)).mono ?_; rintro e w6 ⟨rfl, p6⟩
       have q6 := q5.trans (p6.mono q5.size))
    )
  have st6 := st.next q6
  generalize ks ++ ([x] ++ os) = kk at *
  generalize ws ++ vs = ww at *
  clear st o0 o1 d0 d1 d2 d3 HF q5 q6 s1 s2 p6 Hk Hw Ho Hv HL0 HN HO
  have HLL : Hid (N1 = kk.length ∧ N2 = ww.length) := ⟨st6.keys.sl.len, st6.ways.sl.len⟩
  have o0 := st6.cell0
  have o1 := st6.cell1
  go_wp2_with fail
  refine (right_walk F1 F2 N1 f1 N2 f2 w6 (by omega) (by omega)).mono ?_
  rintro e w7 ⟨rfl, p7⟩
  have st7 := st6.next p7
  clear o0 o1 st6 p7
  have o0 := st7.cell0
  have o1 := st7.cell1
  have hb7 := hbV.trans (st7.below.mono hbV.size)
  cases hf : fitsB N1 N2 with
  | false =>
    clear hf
    go_wp2
    go_ret
    exact ⟨rfl, hb7⟩
  | true =>
    have HFT := Lib.hid hf
    have HNM : Hid (N1 + 1 = N2) := (fitsB_iff N1 N2).1 hf
    clear hf
    by_cases h2 : N2 < 2
    · have h2' : (N2 : Int) < 2 := by omega
      go_wp2
      go_ret
      exact ⟨rfl, hb7⟩
    have h2' : ¬ (N2 : Int) < 2 := by omega
    go_wp2_with fail
    refine (halves_in F1 F2 N1 f1 N2 f2 kk ww w7 st7.keys.sl st7.ways.sl (by omega) (by omega) HFT.out (by omega)).mono ?_
    rintro e w3 ⟨u, v, u', v', rfl, g1, g2, g3, g4, p3⟩
    obtain ⟨E1, L1, e1, rfl⟩ := g1.shape
    obtain ⟨E2, L2, e2, rfl⟩ := g2.shape
    obtain ⟨E3, L3, e3, rfl⟩ := g3.shape
    obtain ⟨E4, L4, e4, rfl⟩ := g4.shape
    have st3 := st7.next p3
    have k1 : L1 ≤ 81 := by rw [g1.sl.len, List.length_take]; have := HLL.out.1; omega
    have k2 : L2 ≤ 81 := by rw [g2.sl.len, List.length_take]; have := HLL.out.2; omega
    have k3 : L3 ≤ 81 := by rw [g3.sl.len, List.length_drop]; have := HLL.out.1; omega
    have k4 : L4 ≤ 81 := by rw [g4.sl.len, List.length_drop]; have := HLL.out.2; omega
    have HJ : Hid (kk.take (N2 / 2 - 1) ++ ([kk.getD (N2 / 2 - 1) 0] ++ kk.drop (N2 / 2)) = kk) := join_halves kk (by omega) (by have := HLL.out.1; have := HNM.out; omega)
    have HJ2 : Hid (ww.take (N2 / 2) ++ ww.drop (N2 / 2) = ww) := List.take_append_drop _ _
    clear o0 o1
    have o0 := st3.cell0
    have o1 := st3.cell1
    have q1 : O < w3.heap.size := st3.lt
    generalize kk.getD (N2 / 2 - 1) 0 = key at *
    go_wp2
    obtain ⟨Y, P, Q, hY, hP, hQ, bY, HP, HQ⟩ : ∃ (Y : World) (P Q : Nat), (w3.alloc (.cells #[.slice E1 L1 e1, .slice E2 L2 e2] 26)).alloc (.cells #[.slice E3 L3 e3, .slice E4 L4 e4] 26) = Y ∧ w3.heap.size = P ∧ w3.heap.size + 1 = Q ∧ Below w3.heap.size w3 Y ∧ Box Y P (.slice E1 L1 e1) (.slice E2 L2 e2) ∧ Box Y Q (.slice E3 L3 e3) (.slice E4 L4 e4) := ⟨_, _, _, rfl, rfl, rfl, ((Below.refl _ w3).alloc (Nat.le_refl _) _).alloc (by simp) _, (Box.new w3 rfl _ _ _).below (below_new _ _), Box.new _ (by simp) _ _ _⟩
    rw [hY, hQ, hP]
    clear hY hP hQ o0 o1
    have stY := st3.next bY
    have o0 := stY.cell0
    have o1 := stY.cell1
    obtain ⟨i2, i3⟩ := id HP
    obtain ⟨i4, i5⟩ := id HQ
    have K1 := g1.next bY
    have K2 := g2.next bY
    have K3 := g3.next bY
    have K4 := g4.next bY
    have HF : Hid (∀ w', Below Y.heap.size Y w' → (w'.cell? ⟨O, 0, none⟩ = some (.slice F1 N1 f1) ∧ w'.cell? ⟨O, 1, none⟩ = some (.slice F2 N2 f2) ∧ w'.cell? ⟨P, 0, none⟩ = some (.slice E1 L1 e1) ∧ w'.cell? ⟨P, 1, none⟩ = some (.slice E2 L2 e2) ∧ w'.cell? ⟨Q, 0, none⟩ = some (.slice E3 L3 e3) ∧ w'.cell? ⟨Q, 1, none⟩ = some (.slice E4 L4 e4))) := fun w' h => ⟨below_read h o0, below_read h o1, below_read h i2, below_read h i3, below_read h i4, below_read h i5⟩
    go_region_held3 (fun w' => w'.cell? ⟨O, 0, none⟩ = some (.slice F1 N1 f1) ∧ w'.cell? ⟨O, 1, none⟩ = some (.slice F2 N2 f2) ∧ w'.cell? ⟨P, 0, none⟩ = some (.slice E1 L1 e1) ∧ w'.cell? ⟨P, 1, none⟩ = some (.slice E2 L2 e2) ∧ w'.cell? ⟨Q, 0, none⟩ = some (.slice E3 L3 e3) ∧ w'.cell? ⟨Q, 1, none⟩ = some (.slice E4 L4 e4)) (first | (refine HF.out _ ?_; go_grown; done) | go_keep) (first
      | (go_at_call 28
         refine (join_walk E1 E2 E3 E4 L1 e1 L2 e2 L3 e3 L4 e4 (kk.take (N2 / 2 - 1)) (ww.take (N2 / 2)) (kk.drop (N2 / 2)) (ww.drop (N2 / 2)) key _ ?_ ?_ ?_ ?_ (by omega) (by omega) (by omega) (by omega)).mono ?_; (· exact K1.sl.below (by go_grown)); (· exact K2.sl.below (by go_grown)); (· exact K3.sl.below (by go_grown)); (· exact K4.sl.below (by go_grown)); rintro e w5 ⟨x1, x2, rfl, g5, g6, p5⟩; obtain ⟨G1, M1, h1, rfl⟩ := g5.shape; obtain ⟨G2, M2, h2, rfl⟩ := g6.shape
         have q5 : Below Y.heap.size Y w5 := Below.trans (by go_grown) p5
         rw [HJ.out] at g5
         rw [HJ2.out] at g6
         have s1 := g5.sl
         have s2 := g6.sl
         have HM : Hid (M1 ≤ 1000 ∧ M2 ≤ 1000) := ⟨by rw [s1.len, ← HLL.out.1]; omega, by rw [s2.len, ← HLL.out.2]; omega⟩
         clear g5 g6 p5)
      | (go_at_call 21
         refine (alike_walk s1 s2 (stY.keys.sl.below q5) (stY.ways.sl.below q5) HM.out.1 HM.out.2).mono ?_; rintro e w6 ⟨rfl, p6⟩
         have q6 := q5.trans (p6.mono q5.size))
      )
    all_goals go_wp2
    all_goals go_ret
    all_goals exact ⟨rfl, hbV.trans ((stY.below.trans (q6.mono stY.size)).mono hbV.size)⟩

end Go.Proofs.Ytpbbkfpapmomhaa
