/-
  The walk of InnerParts: it returns true, for every input, and changes nothing that was there.
-/
import Derived.Test.YtpbbkfpapmomhaaLawsA
namespace Go.Proofs.Ytpbbkfpapmomhaa
open Go.ChangeShapes Go.WideShapes Go.ChangeAt Go.RowKit
set_option linter.unusedVariables false
set_option linter.unusedSimpArgs false

theorem getD_drop0 (l : List Int) (a b : Nat) : (l.drop a).getD b 0 = l.getD (a + b) 0 := by simp [List.getD]
theorem getD_take0 (l : List Int) {a b : Nat} (h : b < a) : (l.take a).getD b 0 = l.getD b 0 := by simp [List.getD, List.getElem?_take, h]

set_option maxHeartbeats 2000000 in
theorem innerParts_walk (A : Option Addr) (n c : Nat) (zs : List Int) (x : Int) (w : World) (h : Sl w A n c zs) :
    Calls Try.prog 12 #[.slice A n c, .int .i64 x] w fun e w' => e = .returned (.bool true) ∧ Below w.heap.size w w' := by
  by_cases hn : n ≤ 40
  case neg =>
    have hn' : (40 : Int) < (n : Int) := by omega
    go_enter Try.func12, Try.ntmps12
    go_wp2_with fail
    refine (awake_walk w).mono ?_
    rintro e w1 ⟨rfl, hb1⟩
    go_wp2
    go_ret
    exact ⟨rfl, hb1⟩
  have hn' : ¬ (40 : Int) < (n : Int) := by omega
  have hlr : (risingL zs).length ≤ 40 := by unfold risingL; have := risingTo_length zs zs.length; have := h.len; omega
  go_enter Try.func12, Try.ntmps12
  go_wp2_with fail
  refine (awake_walk w).mono ?_
  rintro e w1 ⟨rfl, p1⟩
  have h1 := h.below p1
  have hA := asc1_rising zs
  go_wp2_with fail
  refine (of_walk A n c zs 1 w1 h1 (by omega) (by omega) (by omega)).mono ?_
  rintro e w2 ⟨u, v, rfl, g1, g2, p2⟩
  obtain ⟨F1, N1, f1, rfl⟩ := g1.shape
  obtain ⟨F2, N2, f2, rfl⟩ := g2.shape
  have hlk : ((risingL zs).map (·.1)).length = (risingL zs).length := List.length_map _
  rw [← hlk] at g2 hlr
  clear hlk h h1
  generalize (risingL zs).map (·.1) = ks at *
  have hN1 : N1 = ks.length := g1.sl.len
  have hN2 : N2 = ks.length + 1 := g2.sl.len.trans (waysTo_length 1 ks.length)
  have HN1 := Lib.hid hN1
  have HN2 := Lib.hid hN2
  have b1 : N1 ≤ 40 := by omega
  have b2 : N2 ≤ 41 := by omega
  clear hN1 hN2
  have HA := Lib.hid hA
  clear hA
  by_cases h2 : N2 < 2
  · have h2' : (N2 : Int) < 2 := by omega
    go_wp2
    go_ret
    exact ⟨rfl, p1.trans ((p2.trans (below_new w2 _ |>.mono p2.size)).mono p1.size)⟩
  have h2' : ¬ (N2 : Int) < 2 := by omega
  go_wp2_with fail
  obtain ⟨X, O, hX, hO, st⟩ : ∃ (X : World) (O : Nat), w2.alloc (.cells #[.slice F1 N1 f1, .slice F2 N2 f2] 26) = X ∧ w2.heap.size = O ∧ St w1 O (.slice F1 N1 f1) (.slice F2 N2 f2) (.slice F1 N1 f1) (.slice F2 N2 f2) ks (waysTo 1 ks.length) X := ⟨_, _, rfl, rfl, St.new g1 g2 p2 rfl⟩
  rw [hX, hO]
  clear hX hO g1 g2 p2
  refine (halves_in F1 F2 N1 f1 N2 f2 ks (waysTo 1 ks.length) X st.keys.sl st.ways.sl (by omega) (by omega) ((fitsB_iff N1 N2).2 (by rw [HN1.out, HN2.out])) (by omega)).mono ?_
  rintro e w3 ⟨u, v, u', v', rfl, g1, g2, g3, g4, p3⟩
  obtain ⟨E1, L1, e1, rfl⟩ := g1.shape
  obtain ⟨E2, L2, e2, rfl⟩ := g2.shape
  obtain ⟨E3, L3, e3, rfl⟩ := g3.shape
  obtain ⟨E4, L4, e4, rfl⟩ := g4.shape
  have st3 := st.next p3
  have hh1 : 1 ≤ N2 / 2 := by omega
  have hh2 : N2 / 2 ≤ ks.length := by have := HN2.out; omega
  have HW := Lib.hid (way_split HA.out x)
  have hkey : N2 / 2 - 1 < ks.length := by omega
  have HKEY : Hid (ks.getD (N2 / 2 - 1) 0 = ks[N2 / 2 - 1]) := by show _ = _; simp [List.getD, hkey]
  have HW1 := Lib.hid (wayL_take HA.out x (N2 / 2 - 1) (by omega))
  have HW2 := Lib.hid (wayL_drop HA.out x (N2 / 2) hh2)
  have HA1 := Lib.hid (asc1_take HA.out (N2 / 2 - 1))
  have HA2 := Lib.hid (asc1_drop HA.out (N2 / 2))
  have hL1 : L1 = N2 / 2 - 1 := by rw [g1.sl.len, List.length_take]; omega
  have hL2 : L2 = N2 / 2 := by rw [g2.sl.len, List.length_take, waysTo_length]; omega
  have hL3 : L3 = ks.length - N2 / 2 := by rw [g3.sl.len, List.length_drop]
  have hL4 : L4 = ks.length + 1 - N2 / 2 := by rw [g4.sl.len, List.length_drop, waysTo_length]
  have HL : Hid (L1 = N2 / 2 - 1 ∧ L2 = N2 / 2 ∧ L3 = ks.length - N2 / 2 ∧ L4 = ks.length + 1 - N2 / 2) := ⟨hL1, hL2, hL3, hL4⟩
  have b3 : L1 ≤ 41 := by omega
  have b4 : L2 ≤ 41 := by omega
  have b5 : L3 ≤ 41 := by omega
  have b6 : L4 ≤ 41 := by omega
  have b7 : 0 < L2 := by omega
  have b8 : 0 < L4 := by omega
  clear hL1 hL2 hL3 hL4 st
  have o0 := st3.cell0
  have o1 := st3.cell1
  have q1 : O < w3.heap.size := st3.lt
  generalize hkk : ks.getD (N2 / 2 - 1) 0 = key at *
  have HKK := Lib.hid hkk
  clear hkk
  have HLE : Hid (wayL ks x ≤ ks.length) := wayL_le ks x
  by_cases hge : key ≤ x
  · go_wp2
    obtain ⟨Y, H, hY, hH, bY, HB⟩ : ∃ (Y : World) (H : Nat), ((w3.alloc (.cells #[.slice E1 L1 e1, .slice E2 L2 e2] 26)).alloc (.cells #[.slice E3 L3 e3, .slice E4 L4 e4] 26)).alloc (.cells #[.slice E3 L3 e3, .slice E4 L4 e4] 26) = Y ∧ w3.heap.size + 1 + 1 = H ∧ Below w3.heap.size w3 Y ∧ Box Y H (.slice E3 L3 e3) (.slice E4 L4 e4) := ⟨_, _, rfl, rfl, (((Below.refl _ w3).alloc (Nat.le_refl _) _).alloc (by simp) _).alloc (by simp; omega) _, Box.new _ (by simp) _ _ _⟩
    rw [hY, hH]
    clear hY hH o0 o1
    have stY := st3.next bY
    have o0 := stY.cell0
    have o1 := stY.cell1
    obtain ⟨c0, c1⟩ := id HB
    have r1 := g3.next bY
    have r2 := g4.next bY
    have pXY := p3.trans (bY.mono p3.size)
    have HF : Hid (∀ w', Below Y.heap.size Y w' → (w'.cell? ⟨O, 0, none⟩ = some (.slice F1 N1 f1) ∧ w'.cell? ⟨O, 1, none⟩ = some (.slice F2 N2 f2) ∧ w'.cell? ⟨H, 0, none⟩ = some (.slice E3 L3 e3) ∧ w'.cell? ⟨H, 1, none⟩ = some (.slice E4 L4 e4))) := fun w' h => ⟨below_read h o0, below_read h o1, below_read h c0, below_read h c1⟩
    go_region_held3 (fun w' => w'.cell? ⟨O, 0, none⟩ = some (.slice F1 N1 f1) ∧ w'.cell? ⟨O, 1, none⟩ = some (.slice F2 N2 f2) ∧ w'.cell? ⟨H, 0, none⟩ = some (.slice E3 L3 e3) ∧ w'.cell? ⟨H, 1, none⟩ = some (.slice E4 L4 e4)) (first | (refine HF.out _ ?_; go_grown; done) | go_keep) (first
      | (go_at_call_of 33 (Value.slice E3 L3 e3)
         refine (on_walk E3 E4 L3 e3 L4 e4 (ks.drop (N2 / 2)) ((waysTo 1 ks.length).drop (N2 / 2)) x _ ?_ ?_ (by omega) (by omega) (by omega)).mono ?_; (· exact r1.sl.below (by go_grown)); (· exact r2.sl.below (by go_grown)); rintro e w5 ⟨r, rfl, hs, p5⟩
         have q5 : Below Y.heap.size Y w5 := Below.trans (by go_grown) p5
         have HR : Hid (((waysTo 1 ks.length).drop (N2 / 2)).getD (heldW r L4) 0 = 1 + ((wayL ks x : Nat) : Int)) := by
           show _ = _
           have a1 := HL.out.2.2.2
           have a2 := spot_way HA2.out hs
           have a3 := HW2.out
           have a4 := HLE.out
           have a5 : N2 / 2 ≤ wayL ks x := by
             rcases Nat.lt_or_ge (wayL ks x) (N2 / 2) with hlt | hge2
             · have := HW.out.2 (N2 / 2 - 1) hkey (by omega)
               have := HKEY.out
               have := HKK.out
               omega
             · exact hge2
           rw [heldW_right (n := ks.length - N2 / 2) (by omega) (by omega), a2, a3, getD_drop0, show N2 / 2 + (wayL ks x - N2 / 2) = wayL ks x from by omega]
           exact waysTo_at 1 _ _ a4
         rw [HR.out]
         clear hs p5)
      | (go_at_call_of 33 (Value.slice F1 N1 f1)
         first
         | (refine (on_walk F1 F2 N1 f1 N2 f2 ks (waysTo 1 ks.length) x _ (stY.keys.sl.below q6) (stY.ways.sl.below q6) (by omega) (by omega) (by omega)).mono ?_; rintro e w7 ⟨r, rfl, hs, p7⟩; have q7 := q6.trans (p7.mono q6.size))
         | (refine (on_walk F1 F2 N1 f1 N2 f2 ks (waysTo 1 ks.length) x _ (stY.keys.sl.below q5) (stY.ways.sl.below q5) (by omega) (by omega) (by omega)).mono ?_; rintro e w6 ⟨r, rfl, hs, p6⟩; have q6 := q5.trans (p6.mono q5.size))
         rw [show (waysTo 1 ks.length).getD (heldW r N2) 0 = 1 + ((wayL ks x : Nat) : Int) from by rw [heldW_right (n := ks.length) HN2.out.symm hs.1, spot_way HA.out hs]; exact waysTo_at 1 _ _ HLE.out]
         clear hs)
      )
    all_goals go_wp2
    all_goals go_ret
    all_goals exact ⟨by simp; omega, p1.trans ((stY.below.trans (q7.mono stY.size)).mono p1.size)⟩

  · go_wp2
    obtain ⟨Y, H, hY, hH, bY, HB⟩ : ∃ (Y : World) (H : Nat), ((w3.alloc (.cells #[.slice E1 L1 e1, .slice E2 L2 e2] 26)).alloc (.cells #[.slice E3 L3 e3, .slice E4 L4 e4] 26)).alloc (.cells #[.slice E1 L1 e1, .slice E2 L2 e2] 26) = Y ∧ w3.heap.size + 1 + 1 = H ∧ Below w3.heap.size w3 Y ∧ Box Y H (.slice E1 L1 e1) (.slice E2 L2 e2) := ⟨_, _, rfl, rfl, (((Below.refl _ w3).alloc (Nat.le_refl _) _).alloc (by simp) _).alloc (by simp; omega) _, Box.new _ (by simp) _ _ _⟩
    rw [hY, hH]
    clear hY hH o0 o1
    have stY := st3.next bY
    have o0 := stY.cell0
    have o1 := stY.cell1
    obtain ⟨c0, c1⟩ := id HB
    have r1 := g1.next bY
    have r2 := g2.next bY
    have pXY := p3.trans (bY.mono p3.size)
    have HF : Hid (∀ w', Below Y.heap.size Y w' → (w'.cell? ⟨O, 0, none⟩ = some (.slice F1 N1 f1) ∧ w'.cell? ⟨O, 1, none⟩ = some (.slice F2 N2 f2) ∧ w'.cell? ⟨H, 0, none⟩ = some (.slice E1 L1 e1) ∧ w'.cell? ⟨H, 1, none⟩ = some (.slice E2 L2 e2))) := fun w' h => ⟨below_read h o0, below_read h o1, below_read h c0, below_read h c1⟩
    go_region_held3 (fun w' => w'.cell? ⟨O, 0, none⟩ = some (.slice F1 N1 f1) ∧ w'.cell? ⟨O, 1, none⟩ = some (.slice F2 N2 f2) ∧ w'.cell? ⟨H, 0, none⟩ = some (.slice E1 L1 e1) ∧ w'.cell? ⟨H, 1, none⟩ = some (.slice E2 L2 e2)) (first | (refine HF.out _ ?_; go_grown; done) | go_keep) (first
      | (go_at_call_of 33 (Value.slice E1 L1 e1)
         refine (on_walk E1 E2 L1 e1 L2 e2 (ks.take (N2 / 2 - 1)) ((waysTo 1 ks.length).take (N2 / 2)) x _ ?_ ?_ (by omega) (by omega) (by omega)).mono ?_; (· exact r1.sl.below (by go_grown)); (· exact r2.sl.below (by go_grown)); rintro e w5 ⟨r, rfl, hs, p5⟩
         have q5 : Below Y.heap.size Y w5 := Below.trans (by go_grown) p5
         have HR : Hid (((waysTo 1 ks.length).take (N2 / 2)).getD (heldW r L2) 0 = 1 + ((wayL ks x : Nat) : Int)) := by
           show _ = _
           have a1 := HL.out.2.1
           have a2 := spot_way HA1.out hs
           have a3 := HW1.out
           have a4 := HLE.out
           have a5 : wayL ks x ≤ N2 / 2 - 1 := by
             rcases Nat.lt_or_ge (N2 / 2 - 1) (wayL ks x) with hlt | hge2
             · have := HW.out.1 (N2 / 2 - 1) hkey hlt
               have := HKEY.out
               have := HKK.out
               omega
             · exact hge2
           rw [heldW_right (n := N2 / 2 - 1) (by omega) (by omega), a2, a3, getD_take0 _ (by omega), show min (N2 / 2 - 1) (wayL ks x) = wayL ks x from by omega]
           exact waysTo_at 1 _ _ a4
         rw [HR.out]
         clear hs p5)
      | (go_at_call_of 33 (Value.slice F1 N1 f1)
         first
         | (refine (on_walk F1 F2 N1 f1 N2 f2 ks (waysTo 1 ks.length) x _ (stY.keys.sl.below q6) (stY.ways.sl.below q6) (by omega) (by omega) (by omega)).mono ?_; rintro e w7 ⟨r, rfl, hs, p7⟩; have q7 := q6.trans (p7.mono q6.size))
         | (refine (on_walk F1 F2 N1 f1 N2 f2 ks (waysTo 1 ks.length) x _ (stY.keys.sl.below q5) (stY.ways.sl.below q5) (by omega) (by omega) (by omega)).mono ?_; rintro e w6 ⟨r, rfl, hs, p6⟩; have q6 := q5.trans (p6.mono q5.size))
         rw [show (waysTo 1 ks.length).getD (heldW r N2) 0 = 1 + ((wayL ks x : Nat) : Int) from by rw [heldW_right (n := ks.length) HN2.out.symm hs.1, spot_way HA.out hs]; exact waysTo_at 1 _ _ HLE.out]
         clear hs)
      )
    all_goals go_wp2
    all_goals go_ret
    all_goals exact ⟨by simp; omega, p1.trans ((stY.below.trans (q7.mono stY.size)).mono p1.size)⟩

end Go.Proofs.Ytpbbkfpapmomhaa
