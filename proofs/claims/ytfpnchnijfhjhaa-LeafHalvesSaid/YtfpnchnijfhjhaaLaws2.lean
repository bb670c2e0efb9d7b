/-
  The walks of LeafHalves, LeafJoins, LeafRises, LeafBetween: each returns true, for every input, and changes nothing that was there.
-/
import Derived.Test.YtfpnchnijfhjhaaAwake
import Derived.Test.YtfpnchnijfhjhaaLeafFns
namespace Go.Proofs.Ytfpnchnijfhjhaa
open Go.ChangeShapes Go.WideShapes Go.ChangeAt Go.RowKit
set_option linter.unusedVariables false

/-- Old things are old things still. -/
theorem below_on' {w w1 w2 : World} (h1 : Below w.heap.size w w1) (h2 : Below w1.heap.size w1 w2) : Below w.heap.size w w2 := h1.trans (h2.mono h1.size)

set_option maxHeartbeats 1000000 in
theorem leafBetween_walk (A : Option Addr) (n c : Nat) (l : List (Int × Int)) (x y : Int) (w : World) (h : Lf w A n l) :
    Calls Try.prog 9 #[.slice A n c, .int .i64 x, .int .i64 y] w fun e w' => e = .returned (.bool true) ∧ Below w.heap.size w w' := by
  by_cases hn : n ≤ 60
  · have hn' : ¬ (60 : Int) < (n : Int) := by omega
    go_enter Try.func9, Try.ntmps9
    go_wp2_with fail
    refine (awake_walk w).mono ?_
    rintro e w1 ⟨rfl, hb1⟩
    have h1 := h.below hb1
    have hlen : (betweenL l x y).length ≤ 100000 := by have := betweenL_length l x y; have := h.len; omega
    go_wp2_with fail
    refine (between_walk A n c l x y w1 h1 (by omega)).mono ?_
    rintro e w2 ⟨u, rfl, hown2⟩
    have h2 := h1.below hown2.below
    have hb2 := below_on' hb1 hown2.below
    obtain ⟨A3, c3, rfl, _, _, hlf3⟩ := hown2.form
    clear hown2 hb1
    go_wp2_with fail
    refine (lawBetween_walk A n c l x y w2 h2 (by omega)).mono ?_
    rintro e w3 ⟨u, rfl, hown4⟩
    have hlf5 := hlf3.below hown4.below
    have hb4 := below_on' hb2 hown4.below
    obtain ⟨A5, c5, rfl, _, _, hlf6⟩ := hown4.form
    clear hown4 hlf3
    generalize betweenL l x y = rr at *
    go_wp2_with fail
    refine (same_walk A3 A5 rr.length c3 c5 rr w3 hlf5 hlf6 hlen).mono ?_
    rintro e w6 ⟨rfl, hb7⟩
    go_wp2
    go_ret
    exact ⟨rfl, below_on' hb4 hb7⟩
  · have hn' : (60 : Int) < (n : Int) := by omega
    go_enter Try.func9, Try.ntmps9
    go_wp2_with fail
    refine (awake_walk w).mono ?_
    rintro e w1 ⟨rfl, hb1⟩
    go_wp2
    go_ret
    exact ⟨rfl, hb1⟩

set_option maxHeartbeats 1000000 in
theorem leafRises_walk (A : Option Addr) (n c : Nat) (l : List (Int × Int)) (w : World) (h : Lf w A n l) :
    Calls Try.prog 8 #[.slice A n c] w fun e w' => e = .returned (.bool true) ∧ Below w.heap.size w w' := by
  by_cases hn : n ≤ 60
  · have hn' : ¬ (60 : Int) < (n : Int) := by omega
    go_enter Try.func8, Try.ntmps8
    go_wp2_with fail
    refine (awake_walk w).mono ?_
    rintro e w1 ⟨rfl, hb1⟩
    have h1 := h.below hb1
    go_wp2_with fail
    refine (rises_walk A n c l w1 h1 (by omega)).mono ?_
    rintro e w2 ⟨rfl, hb2⟩
    have h2 := h1.below hb2
    have hb3 := below_on' hb1 hb2
    go_wp2_with fail
    refine (lawRises_walk A n c l w2 h2 (by omega)).mono ?_
    rintro e w3 ⟨rfl, hb4⟩
    have h3 := h2.below hb4
    have hb5 := below_on' hb3 hb4
    have hasc := asc_risingTo (l.map (·.1)) (l.map (·.1)).length
    have hlen := risingTo_length (l.map (·.1)) (l.map (·.1)).length
    have hkl : (l.map (·.1)).length = n := by rw [List.length_map]; exact h.len.symm
    have HKL := Lib.hid hkl
    rw [HKL.out] at hlen
    have hee : (ascB l == ascB l) = true := by simp
    clear hb1 hb2 hb3 hb4 h1 h2 hkl
    generalize ascB l = ab at *
    go_wp2_with fail
    refine (keys_walk A n c l w3 h3 (by omega)).mono ?_
    rintro e w4 ⟨u, rfl, hown4⟩
    generalize l.map (·.1) = ks at *
    obtain ⟨A4, c4, rfl, _, hnm4⟩ := hown4.form
    have hb6 := below_on' hb5 hown4.2
    clear hown4
    go_wp2_with fail
    refine (rising_walk A4 ks.length c4 ks w4 hnm4 (by rw [HKL.out]; omega)).mono ?_
    rintro e w5 ⟨u, rfl, hown5⟩
    obtain ⟨A5, c5, rfl, _, _, hlf5⟩ := hown5.form
    have hb7 := below_on' hb6 hown5.below
    have hlr : (risingL ks).length ≤ 100000 := by unfold risingL; rw [HKL.out]; omega
    have HA : Hid (ascB (risingL ks) = true) := ascB_true hasc
    clear hown5 hasc hlen
    generalize risingL ks = rs at *
    go_wp2_with fail
    refine (rises_walk A5 rs.length c5 rs w5 hlf5 hlr).mono ?_
    rintro e w6 ⟨rfl, hb8⟩
    rw [HA.out]
    go_wp2
    go_ret
    refine ⟨?_, below_on' hb7 hb8⟩
    simp
  · have hn' : (60 : Int) < (n : Int) := by omega
    go_enter Try.func8, Try.ntmps8
    go_wp2_with fail
    refine (awake_walk w).mono ?_
    rintro e w1 ⟨rfl, hb1⟩
    go_wp2
    go_ret
    exact ⟨rfl, hb1⟩

set_option maxHeartbeats 1000000 in
theorem leafHalves_walk (A : Option Addr) (n c : Nat) (l : List (Int × Int)) (w : World) (h : Lf w A n l) (hc : n ≤ c) :
    Calls Try.prog 6 #[.slice A n c] w fun e w' => e = .returned (.bool true) ∧ Below w.heap.size w w' := by
  by_cases hn : n ≤ 60
  · have hn' : ¬ (60 : Int) < (n : Int) := by omega
    by_cases hz : n = 0
    · subst hz
      go_enter Try.func6, Try.ntmps6
      go_wp2_with fail
      refine (awake_walk w).mono ?_
      rintro e w1 ⟨rfl, hb1⟩
      go_wp2_with fail
      refine (halves_none A c w1).mono ?_
      rintro e w2 ⟨rfl, rfl⟩
      go_wp2
      go_ret
      exact ⟨rfl, hb1⟩
    · have hpos : 0 < n := by omega
      have hn0 : ((n : Int) == 0) = false := by rw [beq_eq_false_iff_ne]; omega
      have hq : ((n / 2 : Nat) : Int) = (n : Int) / 2 := by omega
      have hll : n / 2 < l.length := by have := h.len; omega
      go_enter Try.func6, Try.ntmps6
      go_wp2_with fail
      refine (awake_walk w).mono ?_
      rintro e w1 ⟨rfl, hb1⟩
      have h1 := h.below hb1
      have HQ := Lib.hid hq
      clear hq
      go_wp2_with fail
      refine (halves_some A n c l w1 h1 (by omega) hc hpos).mono ?_
      rintro e w2 ⟨u, v, rfl, hu, hv⟩
      have h2 := h1.below hu.below
      have hb2 := below_on' hb1 hu.below
      have e1 : (l.take (n / 2)).length = n / 2 := by rw [List.length_take]; have := h.len; omega
      have e2 : (l.drop (n / 2)).length = n - n / 2 := by rw [List.length_drop]; have := h.len; omega
      obtain ⟨A3, c3, eu, _, _, hlf3⟩ := hu.form
      obtain ⟨A4, c4, ev, _, _, hlf4⟩ := hv.form
      rw [e1] at eu hlf3
      rw [e2] at ev hlf4
      subst eu ev
      clear hu hv hb1 h1 e1 e2
      obtain ⟨b, off, rfl, hbl, k1, k2⟩ := h2.at_ hll
      obtain ⟨B1, hl1, hr1⟩ := cut_upto (c := c) h2 (n / 2) (by omega) hc
      obtain ⟨B2, hl2, hr2⟩ := cut_from (c := c) h2 (n / 2) (by omega) hc
      have HK : Hid (keyAt l (n / 2) = l[n / 2].1) := by show _ = _; unfold keyAt; rw [List.getD_eq_getElem?_getD, List.getElem?_eq_getElem hll]; rfl
      rw [HQ.out] at hr1 hr2
      rw [HK.out]
      clear HK k2
      generalize l[n / 2] = p at *
      have hpp : (p.1 == p.1) = true := by simp
      generalize l.take (n / 2) = L1 at *
      generalize l.drop (n / 2) = L2 at *
      go_wp2_with fail
      refine (same_walk A3 B1 (n / 2) c3 c L1 w2 hlf3 hl1 (by omega)).mono ?_
      rintro e w3 ⟨rfl, hb3⟩
      have hlf5 := hlf4.below hb3
      have hl3 := hl2.below hb3
      have hb4 := below_on' hb2 hb3
      have k3 := (hb3.cell (p := ⟨b, off + n / 2 * 2, none⟩) hbl).trans k1
      have hbl3 : b < w3.heap.size := Nat.lt_of_lt_of_le hbl hb3.size
      go_wp2_with fail
      refine (same_walk A4 B2 (n - n / 2) c4 (c - n / 2) L2 w3 hlf5 hl3 (by omega)).mono ?_
      rintro e w4 ⟨rfl, hb5⟩
      have k4 := (hb5.cell (p := ⟨b, off + n / 2 * 2, none⟩) hbl3).trans k3
      have hj0 : (0 : Int) ≤ (n : Int) / 2 := by omega
      have hj1 : (n : Int) / 2 < (n : Int) := by omega
      have hj2 : ((n : Int) / 2).toNat = n / 2 := by omega
      go_wp2
      go_ret
      refine ⟨?_, below_on' hb4 hb5⟩
      simp
  · have hn' : (60 : Int) < (n : Int) := by omega
    go_enter Try.func6, Try.ntmps6
    go_wp2_with fail
    refine (awake_walk w).mono ?_
    rintro e w1 ⟨rfl, hb1⟩
    go_wp2
    go_ret
    exact ⟨rfl, hb1⟩

set_option maxHeartbeats 2000000 in
theorem leafJoins_in (A B : Option Addr) (n m c d : Nat) (l o : List (Int × Int)) (w : World) (h : Lf w A n l) (h' : Lf w B m o) (hn : n ≤ 60) (hm : m ≤ 60) :
    Calls Try.prog 7 #[.slice A n c, .slice B m d] w fun e w' => e = .returned (.bool true) ∧ Below w.heap.size w w' := by
  have hn' : ¬ (60 : Int) < (n : Int) := by omega
  have hm' : ¬ (60 : Int) < (m : Int) := by omega
  have hlen : (l ++ o).length = n + m := by rw [List.length_append, ← h.len, ← h'.len]
  have htk : (l ++ o).take n = l := by rw [h.len]; simp
  have hdr : (l ++ o).drop n = o := by rw [h.len]; simp
  have HL := Lib.hid hlen
  have HT := Lib.hid htk
  have HD := Lib.hid hdr
  clear hlen htk hdr
  go_enter Try.func7, Try.ntmps7
  go_wp2_with fail
  refine (awake_walk w).mono ?_
  rintro e w1 ⟨rfl, hb1⟩
  have h1 := h.below hb1
  have h1' := h'.below hb1
  go_wp2_with fail
  refine (join_walk A B n m c d l o w1 h1 h1' (by omega)).mono ?_
  rintro e w2 ⟨u, rfl, hu⟩
  have h2 := h1.below hu.below
  have h2' := h1'.below hu.below
  have hb2 := below_on' hb1 hu.below
  obtain ⟨A3, c3, eu, hc3, _, hlf3⟩ := hu.form
  rw [HL.out] at eu hlf3 hc3
  subst eu
  clear hu hb1 h1 h1' h h'
  generalize l ++ o = lo at *
  obtain ⟨B1, hl1, hr1⟩ := cut_upto (c := c3) hlf3 n (by omega) hc3
  obtain ⟨B2, hl2, hr2⟩ := cut_from (c := c3) hlf3 n (by omega) hc3
  rw [HT.out] at hl1
  rw [HD.out, show n + m - n = m by omega] at hl2
  rw [show n + m - n = m by omega] at hr2
  generalize hN : n + m = N at *
  have HN := Lib.hid hN
  have hNe : ((N : Int) != (n : Int) + (m : Int)) = false := by rw [bne_eq_false_iff_eq]; omega
  clear hN
  go_wp2_with fail
  refine (same_walk B1 A n c3 c l w2 hl1 h2 (by omega)).mono ?_
  rintro e w3 ⟨rfl, hb3⟩
  have hb4 := below_on' hb2 hb3
  have hlf4 := hlf3.below hb3
  have hl5 := hl2.below hb3
  have h3' := h2'.below hb3
  clear hl2 h2' hl1 h2 hlf3
  go_wp2_with fail
  refine (same_walk B2 B m (c3 - n) d o w3 hl5 h3' (by omega)).mono ?_
  rintro e w4 ⟨rfl, hb5⟩
  have hb6 := below_on' hb4 hb5
  have hlf5 := hlf4.below hb5
  clear hl5 h3' hlf4
  by_cases hz : N = 0
  · subst hz
    have e0 : lo = [] := List.eq_nil_of_length_eq_zero HL.out
    subst e0
    go_wp2_with fail
    refine (halves_none A3 c3 w4).mono ?_
    rintro e w5 ⟨rfl, rfl⟩
    go_wp2_with fail
    refine (join_walk none none 0 0 0 0 [] [] w4 (Lf.nil _ _) (Lf.nil _ _) (by omega)).mono ?_
    rintro e w6 ⟨u, rfl, hu⟩
    have hlf6 := hlf5.below hu.below
    have hb7 := below_on' hb6 hu.below
    obtain ⟨A7, c7, eu, _, _, hlf7⟩ := hu.form
    have eu' : u = .slice A7 0 c7 := eu
    have hlf7' : Lf w6 A7 0 [] := hlf7
    subst eu'
    go_wp2_with fail
    refine (same_walk A7 A3 0 c7 c3 [] w6 hlf7' hlf6 (by omega)).mono ?_
    rintro e w7 ⟨rfl, hb8⟩
    go_wp2
    go_ret
    exact ⟨rfl, below_on' hb7 hb8⟩
  · have hN2 : N ≤ 120 := by have := HN.out; omega
    go_wp2_with fail
    refine (halves_some A3 N c3 lo w4 hlf5 (by omega) hc3 (by omega)).mono ?_
    rintro e w5 ⟨u, v, rfl, hu, hv⟩
    have hlf6 := hlf5.below hu.below
    have hb7 := below_on' hb6 hu.below
    obtain ⟨A7, c7, rfl, _, _, hlf7⟩ := hu.form
    obtain ⟨A8, c8, rfl, _, _, hlf8⟩ := hv.form
    clear hu hv hlf5
    have HS : Hid (lo.take (N / 2) ++ lo.drop (N / 2) = lo) := List.take_append_drop _ _
    have hS2 : (lo.take (N / 2)).length + (lo.drop (N / 2)).length ≤ 100000 := by rw [← List.length_append, HS.out, HL.out]; omega
    generalize lo.take (N / 2) = L1 at *
    generalize lo.drop (N / 2) = L2 at *
    generalize keyAt lo (N / 2) = ky at *
    go_wp2_with fail
    refine (join_walk A7 A8 L1.length L2.length c7 c8 L1 L2 w5 hlf7 hlf8 hS2).mono ?_
    rintro e w6 ⟨u, rfl, hu⟩
    rw [HS.out] at hu
    have hlf9 := hlf6.below hu.below
    have hb8 := below_on' hb7 hu.below
    obtain ⟨A9, c9, eu, _, _, hlf10⟩ := hu.form
    rw [HL.out] at eu hlf10
    subst eu
    clear hu
    go_wp2_with fail
    refine (same_walk A9 A3 N c9 c3 lo w6 hlf10 hlf9 (by omega)).mono ?_
    rintro e w7 ⟨rfl, hb9⟩
    go_wp2
    go_ret
    exact ⟨rfl, below_on' hb8 hb9⟩

set_option maxHeartbeats 1000000 in
theorem leafJoins_walk (A B : Option Addr) (n m c d : Nat) (l o : List (Int × Int)) (w : World) (h : Lf w A n l) (h' : Lf w B m o) :
    Calls Try.prog 7 #[.slice A n c, .slice B m d] w fun e w' => e = .returned (.bool true) ∧ Below w.heap.size w w' := by
  by_cases hn : n ≤ 60
  · by_cases hm : m ≤ 60
    · exact leafJoins_in A B n m c d l o w h h' hn hm
    · have hn' : ¬ (60 : Int) < (n : Int) := by omega
      have hm' : (60 : Int) < (m : Int) := by omega
      go_enter Try.func7, Try.ntmps7
      go_wp2_with fail
      refine (awake_walk w).mono ?_
      rintro e w1 ⟨rfl, hb1⟩
      go_wp2
      go_ret
      exact ⟨rfl, hb1⟩
  · have hn' : (60 : Int) < (n : Int) := by omega
    go_enter Try.func7, Try.ntmps7
    go_wp2_with fail
    refine (awake_walk w).mono ?_
    rintro e w1 ⟨rfl, hb1⟩
    go_wp2
    go_ret
    exact ⟨rfl, hb1⟩
end Go.Proofs.Ytfpnchnijfhjhaa
