/-
  The walk of InnerRoutes: it returns true, for every input, and changes nothing that was there.
-/
import Derived.Test.YtpbbkfpapmomhaaParted
namespace Go.Proofs.Ytpbbkfpapmomhaa
open Go.ChangeShapes Go.WideShapes Go.ChangeAt Go.RowKit
set_option linter.unusedVariables false
set_option linter.unusedSimpArgs false

section
variable {ks : List Int} (ha : Asc1 ks) (x : Int) {a t : Nat} (h1 : a < t) (h2 : t ≤ ks.length + 1)
include ha h1 h2
theorem nk_way : wayL (ks.take a ++ ([] ++ ks.drop (t - 1))) x = min a (wayL ks x) + (wayL ks x - (t - 1)) := by
  rw [List.nil_append, wayL_append, wayL_take ha x a (by omega), wayL_drop ha x (t - 1) (by omega)]
theorem ok_way : wayL ((ks.drop a).take (t - 1 - a)) x = min (t - 1 - a) (wayL ks x - a) := by
  rw [wayL_take (asc1_drop ha a) x _ (by rw [List.length_drop]; omega), wayL_drop ha x a (by omega)]
end
theorem getD_app1 (l m : List Int) {i : Nat} (h : i < l.length) : (l ++ m).getD i 0 = l.getD i 0 := by simp [List.getD, List.getElem?_append_left h]
theorem getD_app2 (l m : List Int) (i : Nat) : (l ++ m).getD (l.length + i) 0 = m.getD i 0 := by simp [List.getD, List.getElem?_append_right]
theorem getD_drop1 (l : List Int) (a b : Nat) : (l.drop a).getD b 0 = l.getD (a + b) 0 := by simp [List.getD]
theorem getD_take1 (l : List Int) {a b : Nat} (h : b < a) : (l.take a).getD b 0 = l.getD b 0 := by simp [List.getD, List.getElem?_take, h]

theorem nw_low {k a t W : Nat} (h1 : a < t) (h2 : t ≤ k + 1) (hW : W ≤ k) (hc : W < a) : ((waysTo 1 k).take a ++ ([-5] ++ (waysTo 1 k).drop t)).getD (min a W + (W - (t - 1))) 0 = 1 + (W : Int) := by
  rw [show min a W + (W - (t - 1)) = W from by omega, getD_app1 _ _ (by rw [List.length_take, waysTo_length]; omega), getD_take1 _ hc]
  exact waysTo_at 1 k W hW
theorem nw_mid {k a t W : Nat} (h1 : a < t) (h2 : t ≤ k + 1) (hW : W ≤ k) (hc : a ≤ W) (hd : W < t) : ((waysTo 1 k).take a ++ ([-5] ++ (waysTo 1 k).drop t)).getD (min a W + (W - (t - 1))) 0 = -5 := by
  have e : ((waysTo 1 k).take a).length = a := by rw [List.length_take, waysTo_length]; omega
  rw [show min a W + (W - (t - 1)) = ((waysTo 1 k).take a).length + 0 from by omega, getD_app2]
  rfl
theorem nw_high {k a t W : Nat} (h1 : a < t) (h2 : t ≤ k + 1) (hW : W ≤ k) (hc : t ≤ W) : ((waysTo 1 k).take a ++ ([-5] ++ (waysTo 1 k).drop t)).getD (min a W + (W - (t - 1))) 0 = 1 + (W : Int) := by
  have e : ((waysTo 1 k).take a).length = a := by rw [List.length_take, waysTo_length]; omega
  rw [show min a W + (W - (t - 1)) = ((waysTo 1 k).take a).length + (1 + (W - t)) from by omega, getD_app2]
  have e2 := getD_app2 [-5] ((waysTo 1 k).drop t) (W - t)
  rw [show ([-5] : List Int).length = 1 from rfl] at e2
  rw [e2, getD_drop1, show t + (W - t) = W from by omega]
  exact waysTo_at 1 k W hW
theorem ow_val {k a t W : Nat} (h1 : a < t) (h2 : t ≤ k + 1) (hW : W ≤ k) (hc : a ≤ W) (hd : W < t) : (((waysTo 1 k).drop a).take (t - a)).getD (min (t - 1 - a) (W - a)) 0 = 1 + (W : Int) := by
  rw [show min (t - 1 - a) (W - a) = W - a from by omega, getD_take1 _ (by omega), getD_drop1, show a + (W - a) = W from by omega]
  exact waysTo_at 1 k W hW

theorem absorb_keys (ks : List Int) {a t : Nat} (h1 : a < t) (h2 : t ≤ ks.length + 1) :
    (ks.take a ++ ([] ++ ks.drop (t - 1))).take a ++ ((ks.drop a).take (t - 1 - a) ++ (ks.take a ++ ([] ++ ks.drop (t - 1))).drop a) = ks := by
  have e : (ks.take a).length = a := by rw [List.length_take]; omega
  rw [List.nil_append, List.take_left' e, List.drop_left' e]
  have e2 : (ks.drop a).take (t - 1 - a) ++ ks.drop (t - 1) = ks.drop a := by
    conv => rhs; rw [← List.take_append_drop (t - 1 - a) (ks.drop a), List.drop_drop, show a + (t - 1 - a) = t - 1 from by omega]
  rw [e2, List.take_append_drop]
theorem absorb_ways (ws : List Int) {a t : Nat} (h1 : a < t) (h2 : t ≤ ws.length) :
    (ws.take a ++ ([-5] ++ ws.drop t)).take a ++ ((ws.drop a).take (t - a) ++ (ws.take a ++ ([-5] ++ ws.drop t)).drop (a + 1)) = ws := by
  have e : (ws.take a).length = a := by rw [List.length_take]; omega
  have e1 : (ws.take a ++ ([-5] ++ ws.drop t)).drop (a + 1) = ws.drop t := by
    rw [← List.append_assoc]
    exact List.drop_left' (by rw [List.length_append, e]; rfl)
  rw [List.take_left' e, e1]
  have e2 : (ws.drop a).take (t - a) ++ ws.drop t = ws.drop a := by
    conv => rhs; rw [← List.take_append_drop (t - a) (ws.drop a), List.drop_drop, show a + (t - a) = t from by omega]
  rw [e2, List.take_append_drop]

set_option maxHeartbeats 2000000 in
theorem innerRoutes_walk (A : Option Addr) (n c : Nat) (zs : List Int) (p q : Nat) (x : Int) (w : World) (h : Sl w A n c zs) (hp : p < 256) (hq : q < 256) :
    Calls Try.prog 11 #[.slice A n c, .int .u8 (p : Int), .int .u8 (q : Int), .int .i64 x] w fun e w' => e = .returned (.bool true) ∧ Below w.heap.size w w' := by
  by_cases hn : n ≤ 40
  case neg =>
    have hn' : (40 : Int) < (n : Int) := by omega
    go_enter Try.func11, Try.ntmps11
    go_wp2_with fail
    refine (awake_walk w).mono ?_
    rintro e w1 ⟨rfl, hb1⟩
    go_wp2
    go_ret
    exact ⟨rfl, hb1⟩
  have hn' : ¬ (40 : Int) < (n : Int) := by omega
  have hlr : (risingL zs).length ≤ 40 := by unfold risingL; have := risingTo_length zs zs.length; have := h.len; omega
  go_enter Try.func11, Try.ntmps11
  go_wp2_with fail
  refine (awake_walk w).mono ?_
  rintro e w1 ⟨rfl, p1⟩
  have h1 := h.below p1
  have hA := asc1_rising zs
  go_wp2_with fail
  have HA := Lib.hid hA
  clear hA
  refine (parted_walk A n c zs _ p q w1 h1 hn hp hq rfl).mono ?_
  have hlk : ((risingL zs).map (·.1)).length = (risingL zs).length := List.length_map _
  rw [← hlk] at hlr
  clear hlk
  generalize (risingL zs).map (·.1) = ks at *
  rintro e w2 ⟨a, t, u1, v1, u2, v2, u3, v3, ht0, ht1, rfl, g1, g2, g3, g4, g5, g6, p2⟩
  obtain ⟨F1, N1, f1, rfl⟩ := g1.shape
  obtain ⟨F2, N2, f2, rfl⟩ := g2.shape
  obtain ⟨F3, N3, f3, rfl⟩ := g3.shape
  obtain ⟨F4, N4, f4, rfl⟩ := g4.shape
  obtain ⟨F5, N5, f5, rfl⟩ := g5.shape
  obtain ⟨F6, N6, f6, rfl⟩ := g6.shape
  have HL : Hid (N1 = ks.length ∧ N2 = ks.length + 1 ∧ N3 = a + (ks.length - (t - 1)) ∧ N4 = a + (1 + (ks.length + 1 - t)) ∧ N5 = t - 1 - a ∧ N6 = t - a) := by
    refine ⟨g1.sl.len, g2.sl.len.trans (waysTo_length _ _), ?_, ?_, ?_, ?_⟩
    · rw [g3.sl.len]; simp; omega
    · rw [g4.sl.len]; simp [waysTo_length]; omega
    · rw [g5.sl.len]; simp; omega
    · rw [g6.sl.len]; simp [waysTo_length]; omega
  have b1 : N1 ≤ 41 := by have := HL.out; omega
  have b2 : N2 ≤ 41 := by have := HL.out; omega
  have b3 : N3 ≤ 90 := by have := HL.out; omega
  have b4 : N4 ≤ 90 := by have := HL.out; omega
  have b5 : N5 ≤ 90 := by have := HL.out; omega
  have b6 : N6 ≤ 90 := by have := HL.out; omega
  have c4 : 0 < N4 := by have := HL.out; omega
  have c6 : 0 < N6 := by have := HL.out; omega
  have c2 : 0 < N2 := by have := HL.out; omega
  have hf3 : fitsB N3 N4 = true := (fitsB_iff _ _).2 (by have := HL.out; omega)
  have hf5 : fitsB N5 N6 = true := (fitsB_iff _ _).2 (by have := HL.out; omega)
  have HF3 := Lib.hid hf3
  have HF5 := Lib.hid hf5
  have haN : a < N4 := by have := HL.out; omega
  have HK := Lib.hid (absorb_keys ks ht0 ht1)
  have HW := Lib.hid (absorb_ways (waysTo 1 ks.length) ht0 (by rw [waysTo_length]; exact ht1))
  have HLE : Hid (wayL ks x ≤ ks.length) := wayL_le ks x
  clear hf3 hf5 h h1
  go_wp2_with fail
  obtain ⟨X, P, Q, R, hX, hP, hQ, hR, bX, HP, HQ, HR⟩ : ∃ (X : World) (P Q R : Nat), ((w2.alloc (.cells #[.slice F1 N1 f1, .slice F2 N2 f2] 26)).alloc (.cells #[.slice F3 N3 f3, .slice F4 N4 f4] 26)).alloc (.cells #[.slice F5 N5 f5, .slice F6 N6 f6] 26) = X ∧ w2.heap.size = P ∧ w2.heap.size + 1 = Q ∧ w2.heap.size + 1 + 1 = R ∧ Below w2.heap.size w2 X ∧ Box X P (.slice F1 N1 f1) (.slice F2 N2 f2) ∧ Box X Q (.slice F3 N3 f3) (.slice F4 N4 f4) ∧ Box X R (.slice F5 N5 f5) (.slice F6 N6 f6) :=
    ⟨_, _, _, _, rfl, rfl, rfl, rfl, (((Below.refl _ w2).alloc (Nat.le_refl _) _).alloc (by simp) _).alloc (by simp; omega) _, ((Box.new w2 rfl _ _ _).below (below_new _ _)).below (below_new _ _), (Box.new _ (by simp) _ _ _).below (below_new _ _), Box.new _ (by simp) _ _ _⟩
  rw [hX, hR, hQ, hP]
  clear hX hR hQ hP
  refine (absorb_in F3 F4 F5 F6 N3 f3 N4 f4 N5 f5 N6 f6 _ _ _ _ a X (g3.next bX).sl (g4.next bX).sl (g5.next bX).sl (g6.next bX).sl (by omega) (by omega) (by omega) (by omega) HF3.out HF5.out haN).mono ?_
  rintro e w3 ⟨u, v, rfl, k1, k2, p3⟩
  rw [HK.out] at k1
  rw [HW.out] at k2
  obtain ⟨G1, M1, i1, rfl⟩ := k1.shape
  obtain ⟨G2, M2, i2, rfl⟩ := k2.shape
  have hM : M1 ≤ 41 ∧ M2 ≤ 41 ∧ 0 < M2 := by have e1 := k1.sl.len; have e2 := k2.sl.len; rw [waysTo_length] at e2; omega
  obtain ⟨m1, m2, m3⟩ := hM
  have HM2 : Hid (M2 = ks.length + 1) := k2.sl.len.trans (waysTo_length _ _)
  have p23 := bX.trans (p3.mono bX.size)
  obtain ⟨o1, o2⟩ := HQ.below p3
  have sQ : Q < w3.heap.size := World.block_lt_of_cell? w3 _ o1
  go_wp2_with fail
  obtain ⟨Y, S, hY, hS, bY, HS⟩ : ∃ (Y : World) (S : Nat), w3.alloc (.cells #[.slice G1 M1 i1, .slice G2 M2 i2] 26) = Y ∧ w3.heap.size = S ∧ Below w3.heap.size w3 Y ∧ Box Y S (.slice G1 M1 i1) (.slice G2 M2 i2) := ⟨_, _, rfl, rfl, below_new _ _, Box.new _ rfl _ _ _⟩
  rw [hY, hS]
  clear hY hS o1 o2 sQ
  have pX : Below X.heap.size X Y := p3.trans (bY.mono p3.size)
  have p2Y : Below w2.heap.size w2 Y := bX.trans (pX.mono bX.size)
  have HP1 := HP.below pX
  have HQ1 := HQ.below pX
  have HR1 := HR.below pX
  have y1 := g1.next p2Y
  have y2 := g2.next p2Y
  have y3 := g3.next p2Y
  have y4 := g4.next p2Y
  have y5 := g5.next p2Y
  have y6 := g6.next p2Y
  have y7 := k1.next bY
  have y8 := k2.next bY
  clear g1 g2 g3 g4 g5 g6 k1 k2
  have hbY : Below w.heap.size w Y := p1.trans ((p2.trans (p2Y.mono p2.size)).mono p1.size)
  refine (on_walk F3 F4 N3 f3 N4 f4 _ _ x Y y3.sl y4.sl (by omega) (by omega) (by omega)).mono ?_
  rintro e w4 ⟨r, rfl, hs, p4⟩
  have er : heldW r N4 = min a (wayL ks x) + (wayL ks x - (t - 1)) := by
    rw [heldW_right (n := N3) (by have := HL.out; omega) (by have := hs.1; simp at this; have := HL.out; omega), spot_way (by rw [List.nil_append]; exact asc1_gap HA.out (by omega)) hs]
    exact nk_way HA.out x ht0 ht1
  rw [er]
  clear er hs
  have HP2 := HP1.below p4
  have HR2 := HR1.below p4
  have HS2 := HS.below p4
  by_cases hmid : a ≤ wayL ks x ∧ wayL ks x < t
  · rw [nw_mid ht0 ht1 HLE.out hmid.1 hmid.2]
    obtain ⟨o1, o2⟩ := id HR2
    go_wp2_with fail
    refine (on_walk F5 F6 N5 f5 N6 f6 _ _ x w4 (y5.next p4).sl (y6.next p4).sl (by omega) (by omega) (by omega)).mono ?_
    rintro e w5 ⟨r, rfl, hs, p5⟩
    have er : heldW r N6 = min (t - 1 - a) (wayL ks x - a) := by
      rw [heldW_right (n := N5) (by have := HL.out; omega) (by have := hs.1; simp at this; have := HL.out; omega), spot_way (asc1_take (asc1_drop HA.out a) _) hs]
      exact ok_way HA.out x ht0 ht1
    rw [er, ow_val ht0 ht1 HLE.out hmid.1 hmid.2]
    clear er hs o1 o2
    have q5 := p4.trans (p5.mono p4.size)
    obtain ⟨o1, o2⟩ := HP1.below q5
    obtain ⟨o3, o4⟩ := HS.below q5
    have hpos : (0 : Int) < 1 + ((wayL ks x : Nat) : Int) := by omega
    go_wp2_with fail
    refine (alike_walk (y7.next q5).sl (y8.next q5).sl (y1.next q5).sl (y2.next q5).sl (by omega) (by omega)).mono ?_
    rintro e w6 ⟨rfl, p6⟩
    have q6 := q5.trans (p6.mono q5.size)
    clear o1 o2 o3 o4
    obtain ⟨o3, o4⟩ := HS.below q6
    go_wp2_with fail
    refine (on_walk G1 G2 M1 i1 M2 i2 _ _ x w6 (y7.next q6).sl (y8.next q6).sl (by omega) (by omega) (by omega)).mono ?_
    rintro e w7 ⟨r, rfl, hs, p7⟩
    rw [show (waysTo 1 ks.length).getD (heldW r M2) 0 = 1 + ((wayL ks x : Nat) : Int) from by rw [heldW_right (n := ks.length) HM2.out.symm hs.1, spot_way HA.out hs]; exact waysTo_at 1 _ _ HLE.out]
    clear hs
    have q7 := q6.trans (p7.mono q6.size)
    go_wp2
    go_ret
    exact ⟨by simp <;> omega, hbY.trans (q7.mono hbY.size)⟩
  · have ev : ((waysTo 1 ks.length).take a ++ ([-5] ++ (waysTo 1 ks.length).drop t)).getD (min a (wayL ks x) + (wayL ks x - (t - 1))) 0 = 1 + ((wayL ks x : Nat) : Int) := by
      by_cases hlow : wayL ks x < a
      · exact nw_low ht0 ht1 HLE.out hlow
      · exact nw_high ht0 ht1 HLE.out (by omega)
    rw [ev]
    clear ev
    have hne5 : (1 + ((wayL ks x : Nat) : Int) == -5) = false := by rw [beq_eq_false_iff_ne]; omega
    have q5 := p4
    obtain ⟨o1, o2⟩ := HP1.below q5
    obtain ⟨o3, o4⟩ := HS.below q5
    have hpos : (0 : Int) < 1 + ((wayL ks x : Nat) : Int) := by omega
    go_wp2_with fail
    refine (alike_walk (y7.next q5).sl (y8.next q5).sl (y1.next q5).sl (y2.next q5).sl (by omega) (by omega)).mono ?_
    rintro e w6 ⟨rfl, p6⟩
    have q6 := q5.trans (p6.mono q5.size)
    clear o1 o2 o3 o4
    obtain ⟨o3, o4⟩ := HS.below q6
    go_wp2_with fail
    refine (on_walk G1 G2 M1 i1 M2 i2 _ _ x w6 (y7.next q6).sl (y8.next q6).sl (by omega) (by omega) (by omega)).mono ?_
    rintro e w7 ⟨r, rfl, hs, p7⟩
    rw [show (waysTo 1 ks.length).getD (heldW r M2) 0 = 1 + ((wayL ks x : Nat) : Int) from by rw [heldW_right (n := ks.length) HM2.out.symm hs.1, spot_way HA.out hs]; exact waysTo_at 1 _ _ HLE.out]
    clear hs
    have q7 := q6.trans (p7.mono q6.size)
    go_wp2
    go_ret
    exact ⟨by simp <;> omega, hbY.trans (q7.mono hbY.size)⟩
end Go.Proofs.Ytpbbkfpapmomhaa
