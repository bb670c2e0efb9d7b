/-
  The walks of LeafGets, LeafPuts, LeafCuts: each returns true, for every input, and changes nothing that was there.
-/
import Derived.Test.YtfpnchnijfhjhaaAwake
import Derived.Test.YtfpnchnijfhjhaaLeafFns
namespace Go.Proofs.Ytfpnchnijfhjhaa
open Go.ChangeShapes Go.WideShapes Go.ChangeAt Go.RowKit
set_option linter.unusedVariables false

theorem rising_len (zs : List Int) : (risingL zs).length ≤ zs.length := risingTo_length zs zs.length
theorem asc_rising (zs : List Int) : Asc (risingL zs) := asc_risingTo zs zs.length
theorem find_yes {l : List (Int × Int)} (ha : Asc l) {x : Int} (h : hasL l x = true) : findL l x 0 = ((lo l x : Nat) : Int) := by rw [findL_eq ha, if_pos h]; simp
theorem find_no {l : List (Int × Int)} (ha : Asc l) {x : Int} (h : hasL l x = false) : findL l x 0 = -1 := by rw [findL_eq ha, h]; rfl
/-- Old things are old things still. -/
theorem below_on {w w1 w2 : World} (h1 : Below w.heap.size w w1) (h2 : Below w1.heap.size w1 w2) : Below w.heap.size w w2 := h1.trans (h2.mono h1.size)

set_option maxHeartbeats 1000000 in
theorem leafGets_walk (A : Option Addr) (n c : Nat) (zs : List Int) (x : Int) (w : World) (h : Nums w A n zs) :
    Calls Try.prog 3 #[.slice A n c, .int .i64 x] w fun e w' => e = .returned (.bool true) ∧ Below w.heap.size w w' := by
  by_cases hn : n ≤ 60
  · have hn' : ¬ (60 : Int) < (n : Int) := by omega
    go_enter Try.func3, Try.ntmps3
    go_wp2_with fail
    refine (awake_walk w).mono ?_
    rintro e w1 ⟨rfl, hb1⟩
    go_wp2_with fail
    refine (rising_walk A n c zs w1 (h.below hb1) (by omega)).mono ?_
    rintro e w2 ⟨v, rfl, hown⟩
    have hb2 := below_on hb1 hown.below
    obtain ⟨A2, c2, rfl, hc2, _, hlf⟩ := hown.form
    have hlen : (risingL zs).length ≤ 60 := by have := rising_len zs; have := h.len; omega
    have hasc := asc_rising zs
    clear hown hb1 h
    generalize risingL zs = rs at *
    go_wp2_with fail
    refine (get_walk A2 rs.length c2 rs x w2 hlf hasc (by omega)).mono ?_
    rintro e w3 ⟨rfl, hb3⟩
    have hlf3 := hlf.below hb3
    have hb4 := below_on hb2 hb3
    cases hh : hasL rs x with
    | false =>
      have hv := val_none hh
      have hf := find_no hasc hh
      rw [hv]
      clear hh hv
      have HF := Lib.hid hf
      clear hf hlf hb3 hb2
      go_wp2_with fail
      refine (find_walk A2 rs.length c2 rs x w3 hlf3 (by omega)).mono ?_
      rintro e w4 ⟨rfl, hb5⟩
      rw [HF.out]
      go_wp2
      go_ret
      exact ⟨rfl, below_on hb4 hb5⟩
    | true =>
      obtain ⟨hl, hk, hv⟩ := val_at x hh
      have hf := find_yes hasc hh
      have HF := Lib.hid hf
      have HV := Lib.hid hv
      obtain ⟨b, off, rfl, hbl, c1, c2⟩ := hlf3.at_ hl
      rw [hv] at c2
      clear hh hk hv hf hlf hb3 hb2 c1
      go_wp2_with fail
      refine (find_walk _ rs.length _ rs x w3 hlf3 (by omega)).mono ?_
      rintro e w4 ⟨rfl, hb5⟩
      have d2 := (hb5.cell (p := ⟨b, off + lo rs x * 2 + 1, none⟩) hbl).trans c2
      rw [HF.out]
      have hm0 : (0 : Int) ≤ ((lo rs x : Nat) : Int) := by omega
      have hm1 : ((lo rs x : Nat) : Int) < (rs.length : Int) := by omega
      have hvv : (valL rs x == valL rs x) = true := by simp
      clear c2 hlf3 HV HF
      generalize valL rs x = vv at *
      generalize lo rs x = m at *
      generalize rs.length = q at *
      go_wp2
      go_ret
      refine ⟨?_, below_on hb4 hb5⟩
      simp
  · have hn' : (60 : Int) < (n : Int) := by omega
    go_enter Try.func3, Try.ntmps3
    go_wp2_with fail
    refine (awake_walk w).mono ?_
    rintro e w1 ⟨rfl, hb1⟩
    go_wp2
    go_ret
    exact ⟨rfl, hb1⟩

set_option maxHeartbeats 2000000 in
theorem leafPuts_walk (A : Option Addr) (n c : Nat) (zs : List Int) (x y : Int) (w : World) (h : Nums w A n zs) :
    Calls Try.prog 4 #[.slice A n c, .int .i64 x, .int .i64 y] w fun e w' => e = .returned (.bool true) ∧ Below w.heap.size w w' := by
  by_cases hn : n ≤ 60
  · have hn' : ¬ (60 : Int) < (n : Int) := by omega
    go_enter Try.func4, Try.ntmps4
    go_wp2_with fail
    refine (awake_walk w).mono ?_
    rintro e w1 ⟨rfl, hb1⟩
    go_wp2_with fail
    refine (rising_walk A n c zs w1 (h.below hb1) (by omega)).mono ?_
    rintro e w2 ⟨v, rfl, hown⟩
    have hb2 := below_on hb1 hown.below
    obtain ⟨A2, c2, rfl, hc2, _, hlf⟩ := hown.form
    have hlen : (risingL zs).length ≤ 60 := by have := rising_len zs; have := h.len; omega
    have hasc := asc_rising zs
    clear hown hb1 h
    generalize risingL zs = rs at *
    go_wp2_with fail
    refine (find_walk A2 rs.length c2 rs x w2 hlf (by omega)).mono ?_
    rintro e w3 ⟨rfl, hb3⟩
    have hlf3 := hlf.below hb3
    have hb4 := below_on hb2 hb3
    clear hlf hb3 hb2
    have hlen2 : (putL rs x y).length ≤ 100 := by have := putL_length rs x y; omega
    have HLEN := Lib.hid hlen2
    clear hlen2
    cases hh : hasL rs x with
    | false =>
      have HV := Lib.hid (val_none hh)
      have HH := Lib.hid hh
      rw [find_no hasc hh]
      clear hh
      go_wp2_with fail
      refine (put_walk A2 rs.length c2 rs x y w3 hlf3 hasc (by omega) hc2).mono ?_
      rintro e w4 ⟨u, rfl, hown4⟩
      rw [HV.out, HH.out]
      have hlf4 := hlf3.below hown4.below
      have hb5 := below_on hb4 hown4.below
      have HO := Lib.hid hown4
      obtain ⟨A5, c5, rfl, _, _, hlf5⟩ := hown4.form
      clear hown4
      go_wp2_with fail
      refine (lawPut_walk A2 rs.length c2 rs x y w4 hlf4 (by omega)).mono ?_
      rintro e w5 ⟨u2, rfl, hown6⟩
      have hlf6 := hlf5.below hown6.below
      have hb6 := below_on hb5 hown6.below
      obtain ⟨A7, c7, rfl, _, _, hlf7⟩ := hown6.form
      clear hown6 hlf5
      have hq : (putL rs x y).length ≤ 100000 := by have := HLEN.out; omega
      generalize putL rs x y = rr at *
      go_wp2_with fail
      refine (same_walk A5 A7 rr.length c5 c7 rr w5 hlf6 hlf7 hq).mono ?_
      rintro e w6 ⟨rfl, hb7⟩
      go_wp2
      go_ret
      exact ⟨rfl, below_on hb6 hb7⟩
    | true =>
      obtain ⟨hl, hk, hv⟩ := val_at x hh
      have HH := Lib.hid hh
      rw [find_yes hasc hh]
      obtain ⟨b, off, rfl, hbl, k1, k2⟩ := hlf3.at_ hl
      rw [hv] at k2
      have hm0 : (0 : Int) ≤ ((lo rs x : Nat) : Int) := by omega
      have hm1 : ((lo rs x : Nat) : Int) < (rs.length : Int) := by omega
      clear hh hk hv k1
      go_wp2_with fail
      refine (put_walk _ rs.length c2 rs x y w3 hlf3 hasc (by omega) hc2).mono ?_
      rintro e w4 ⟨u, rfl, hown4⟩
      rw [HH.out]
      have d2 := (hown4.below.cell (p := ⟨b, off + lo rs x * 2 + 1, none⟩) hbl).trans k2
      have hlf4 := hlf3.below hown4.below
      have hb5 := below_on hb4 hown4.below
      obtain ⟨A5, c5, rfl, _, _, hlf5⟩ := hown4.form
      have hvv : (valL rs x != valL rs x) = false := by simp
      have hmm : decide ((0 : Int) ≤ ((lo rs x : Nat) : Int)) = true := by simp
      clear hown4 k2
      generalize valL rs x = vv at *
      generalize lo rs x = m at *
      go_wp2_with fail
      refine (lawPut_walk _ rs.length c2 rs x y w4 hlf4 (by omega)).mono ?_
      rintro e w5 ⟨u2, rfl, hown6⟩
      have hlf6 := hlf5.below hown6.below
      have hb6 := below_on hb5 hown6.below
      obtain ⟨A7, c7, rfl, _, _, hlf7⟩ := hown6.form
      clear hown6 hlf5
      have hq : (putL rs x y).length ≤ 100000 := by have := HLEN.out; omega
      generalize putL rs x y = rr at *
      go_wp2_with fail
      refine (same_walk A5 A7 rr.length c5 c7 rr w5 hlf6 hlf7 hq).mono ?_
      rintro e w6 ⟨rfl, hb7⟩
      go_wp2
      go_ret
      exact ⟨rfl, below_on hb6 hb7⟩
  · have hn' : (60 : Int) < (n : Int) := by omega
    go_enter Try.func4, Try.ntmps4
    go_wp2_with fail
    refine (awake_walk w).mono ?_
    rintro e w1 ⟨rfl, hb1⟩
    go_wp2
    go_ret
    exact ⟨rfl, hb1⟩

set_option maxHeartbeats 2000000 in
theorem leafCuts_walk (A : Option Addr) (n c : Nat) (zs : List Int) (x : Int) (w : World) (h : Nums w A n zs) :
    Calls Try.prog 5 #[.slice A n c, .int .i64 x] w fun e w' => e = .returned (.bool true) ∧ Below w.heap.size w w' := by
  by_cases hn : n ≤ 60
  · have hn' : ¬ (60 : Int) < (n : Int) := by omega
    go_enter Try.func5, Try.ntmps5
    go_wp2_with fail
    refine (awake_walk w).mono ?_
    rintro e w1 ⟨rfl, hb1⟩
    go_wp2_with fail
    refine (rising_walk A n c zs w1 (h.below hb1) (by omega)).mono ?_
    rintro e w2 ⟨v, rfl, hown⟩
    have hb2 := below_on hb1 hown.below
    obtain ⟨A2, c2, rfl, hc2, _, hlf⟩ := hown.form
    have hlen : (risingL zs).length ≤ 60 := by have := rising_len zs; have := h.len; omega
    have hasc := asc_rising zs
    clear hown hb1 h
    generalize risingL zs = rs at *
    go_wp2_with fail
    refine (find_walk A2 rs.length c2 rs x w2 hlf (by omega)).mono ?_
    rintro e w3 ⟨rfl, hb3⟩
    have hlf3 := hlf.below hb3
    have hb4 := below_on hb2 hb3
    clear hlf hb3 hb2
    have hlen2 : (cutL rs x).length ≤ 100 := by have := cutL_length rs x; omega
    have HLEN := Lib.hid hlen2
    clear hlen2
    cases hh : hasL rs x with
    | false =>
      have HV := Lib.hid (val_none hh)
      have HH := Lib.hid hh
      rw [find_no hasc hh]
      clear hh
      go_wp2_with fail
      refine (cut_walk A2 rs.length c2 rs x w3 hlf3 hasc (by omega) hc2).mono ?_
      rintro e w4 ⟨u, rfl, hown4⟩
      rw [HV.out, HH.out]
      have hlf4 := hlf3.below hown4.below
      have hb5 := below_on hb4 hown4.below
      have HO := Lib.hid hown4
      obtain ⟨A5, c5, rfl, _, _, hlf5⟩ := hown4.form
      clear hown4
      go_wp2_with fail
      refine (lawCut_walk A2 rs.length c2 rs x w4 hlf4 (by omega)).mono ?_
      rintro e w5 ⟨u2, rfl, hown6⟩
      have hlf6 := hlf5.below hown6.below
      have hb6 := below_on hb5 hown6.below
      obtain ⟨A7, c7, rfl, _, _, hlf7⟩ := hown6.form
      clear hown6 hlf5
      have hq : (cutL rs x).length ≤ 100000 := by have := HLEN.out; omega
      generalize cutL rs x = rr at *
      go_wp2_with fail
      refine (same_walk A5 A7 rr.length c5 c7 rr w5 hlf6 hlf7 hq).mono ?_
      rintro e w6 ⟨rfl, hb7⟩
      go_wp2
      go_ret
      exact ⟨rfl, below_on hb6 hb7⟩
    | true =>
      obtain ⟨hl, hk, hv⟩ := val_at x hh
      have HH := Lib.hid hh
      rw [find_yes hasc hh]
      obtain ⟨b, off, rfl, hbl, k1, k2⟩ := hlf3.at_ hl
      rw [hv] at k2
      have hm0 : (0 : Int) ≤ ((lo rs x : Nat) : Int) := by omega
      have hm1 : ((lo rs x : Nat) : Int) < (rs.length : Int) := by omega
      clear hh hk hv k1
      go_wp2_with fail
      refine (cut_walk _ rs.length c2 rs x w3 hlf3 hasc (by omega) hc2).mono ?_
      rintro e w4 ⟨u, rfl, hown4⟩
      rw [HH.out]
      have d2 := (hown4.below.cell (p := ⟨b, off + lo rs x * 2 + 1, none⟩) hbl).trans k2
      have hlf4 := hlf3.below hown4.below
      have hb5 := below_on hb4 hown4.below
      obtain ⟨A5, c5, rfl, _, _, hlf5⟩ := hown4.form
      have hvv : (valL rs x != valL rs x) = false := by simp
      have hmm : decide ((0 : Int) ≤ ((lo rs x : Nat) : Int)) = true := by simp
      clear hown4 k2
      generalize valL rs x = vv at *
      generalize lo rs x = m at *
      go_wp2_with fail
      refine (lawCut_walk _ rs.length c2 rs x w4 hlf4 (by omega)).mono ?_
      rintro e w5 ⟨u2, rfl, hown6⟩
      have hlf6 := hlf5.below hown6.below
      have hb6 := below_on hb5 hown6.below
      obtain ⟨A7, c7, rfl, _, _, hlf7⟩ := hown6.form
      clear hown6 hlf5
      have hq : (cutL rs x).length ≤ 100000 := by have := HLEN.out; omega
      generalize cutL rs x = rr at *
      go_wp2_with fail
      refine (same_walk A5 A7 rr.length c5 c7 rr w5 hlf6 hlf7 hq).mono ?_
      rintro e w6 ⟨rfl, hb7⟩
      go_wp2
      go_ret
      exact ⟨rfl, below_on hb6 hb7⟩
  · have hn' : (60 : Int) < (n : Int) := by omega
    go_enter Try.func5, Try.ntmps5
    go_wp2_with fail
    refine (awake_walk w).mono ?_
    rintro e w1 ⟨rfl, hb1⟩
    go_wp2
    go_ret
    exact ⟨rfl, hb1⟩
end Go.Proofs.Ytfpnchnijfhjhaa
