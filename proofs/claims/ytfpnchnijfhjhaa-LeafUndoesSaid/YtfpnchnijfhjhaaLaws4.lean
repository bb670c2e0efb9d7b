/-
  The walk of LeafUndoes: it returns true, for every input, and changes nothing that was there.
-/
import Derived.Test.YtfpnchnijfhjhaaLaws1
import Derived.Test.YtfpnchnijfhjhaaPlain2
namespace Go.Proofs.Ytfpnchnijfhjhaa
open Go.ChangeShapes Go.WideShapes Go.ChangeAt Go.RowKit
set_option linter.unusedVariables false

set_option maxHeartbeats 2000000 in
theorem leafUndoes_walk (A : Option Addr) (n c : Nat) (zs : List Int) (x y : Int) (w : World) (h : Nums w A n zs) :
    Calls Try.prog 11 #[.slice A n c, .int .i64 x, .int .i64 y] w fun e w' => e = .returned (.bool true) ∧ Below w.heap.size w w' := by
  by_cases hn : n ≤ 60
  · have hn' : ¬ (60 : Int) < (n : Int) := by omega
    go_enter Try.func11, Try.ntmps11
    go_wp2_with fail
    refine (awake_walk w).mono ?_
    rintro e w1 ⟨rfl, hb1⟩
    go_wp2_with fail
    refine (rising_walk A n c zs w1 (h.below hb1) (by omega)).mono ?_
    rintro e w2 ⟨v, rfl, hown⟩
    have hb2 := below_on hb1 hown.below
    obtain ⟨A2, c2, rfl, hc2, _, hlf⟩ := hown.form
    have hlen : (risingL zs).length ≤ 60 := by have := rising_len zs; have := h.len; omega
    have HA := Lib.hid (asc_rising zs)
    clear hown hb1 h
    generalize risingL zs = rs at *
    go_wp2_with fail
    refine (get_walk A2 rs.length c2 rs x w2 hlf HA.out (by omega)).mono ?_
    rintro e w3 ⟨rfl, hb3⟩
    have hlf3 := hlf.below hb3
    have hb4 := below_on hb2 hb3
    clear hlf hb3 hb2
    cases hh : hasL rs x with
    | true =>
      have HH := Lib.hid hh
      have HP := Lib.hid (put_cutL HA.out hh)
      have HC := Lib.hid (has_cutL rs x)
      have HV := Lib.hid (val_none (has_cutL rs x))
      have HA2 := Lib.hid (asc_cutL HA.out x)
      have hlc : (cutL rs x).length ≤ 60 := by have := cutL_length rs x; omega
      have hvv : (valL rs x == valL rs x) = true := by simp
      clear hh
      go_wp2_with fail
      refine (cut_walk A2 rs.length c2 rs x w3 hlf3 HA.out (by omega) hc2).mono ?_
      rintro e w4 ⟨u, rfl, hown4⟩
      rw [HH.out]
      have hlf4 := hlf3.below hown4.below
      have hb5 := below_on hb4 hown4.below
      obtain ⟨A5, c5, rfl, hc5, _, hlf5⟩ := hown4.form
      clear hown4 hlf3
      generalize cutL rs x = ls at *
      generalize valL rs x = vv at *
      go_wp2_with fail
      refine (put_walk A5 ls.length c5 ls x vv w4 hlf5 HA2.out (by omega) hc5).mono ?_
      rintro e w5 ⟨u, rfl, hown6⟩
      rw [HC.out, HV.out]
      have hlf6 := hlf5.below hown6.below
      have hlf7 := hlf4.below hown6.below
      have hb6 := below_on hb5 hown6.below
      rw [HP.out] at hown6
      obtain ⟨A8, c8, rfl, _, _, hlf8⟩ := hown6.form
      clear hown6 hlf4 hlf5
      go_wp2_with fail
      refine (get_walk A5 ls.length c5 ls x w5 hlf6 HA2.out (by omega)).mono ?_
      rintro e w6 ⟨rfl, hb7⟩
      rw [HC.out, HV.out]
      have hlf9 := hlf7.below hb7
      have hlf10 := hlf8.below hb7
      have hb8 := below_on hb6 hb7
      go_wp2_with fail
      refine (same_walk A8 A2 rs.length c8 c2 rs w6 hlf10 hlf9 (by omega)).mono ?_
      rintro e w7 ⟨rfl, hb9⟩
      go_wp2
      go_ret
      refine ⟨?_, below_on hb8 hb9⟩
      simp
    | false =>
      have HH := Lib.hid hh
      have HV := Lib.hid (val_none hh)
      have HC := Lib.hid (cut_putL HA.out y hh)
      have HH2 := Lib.hid (has_putL HA.out x y)
      have HV2 := Lib.hid (val_putL HA.out x y)
      have HA2 := Lib.hid (asc_putL HA.out x y)
      have hlc : (putL rs x y).length ≤ 61 := by have := putL_length rs x y; omega
      have hyy : (y == y) = true := by simp
      clear hh
      rw [HV.out]
      go_wp2_with fail
      refine (put_walk A2 rs.length c2 rs x y w3 hlf3 HA.out (by omega) hc2).mono ?_
      rintro e w4 ⟨u, rfl, hown4⟩
      rw [HH.out, HV.out]
      have hlf4 := hlf3.below hown4.below
      have hb5 := below_on hb4 hown4.below
      obtain ⟨A5, c5, rfl, hc5, _, hlf5⟩ := hown4.form
      clear hown4 hlf3
      generalize putL rs x y = ms at *
      go_wp2_with fail
      refine (cut_walk A5 ms.length c5 ms x w4 hlf5 HA2.out (by omega) hc5).mono ?_
      rintro e w5 ⟨u, rfl, hown6⟩
      rw [HH2.out, HV2.out]
      have hlf7 := hlf4.below hown6.below
      have hb6 := below_on hb5 hown6.below
      rw [HC.out] at hown6
      obtain ⟨A8, c8, rfl, _, _, hlf8⟩ := hown6.form
      clear hown6 hlf4 hlf5
      go_wp2_with fail
      refine (same_walk A8 A2 rs.length c8 c2 rs w5 hlf8 hlf7 (by omega)).mono ?_
      rintro e w7 ⟨rfl, hb9⟩
      go_wp2
      go_ret
      refine ⟨?_, below_on hb6 hb9⟩
      simp
  · have hn' : (60 : Int) < (n : Int) := by omega
    go_enter Try.func11, Try.ntmps11
    go_wp2_with fail
    refine (awake_walk w).mono ?_
    rintro e w1 ⟨rfl, hb1⟩
    go_wp2
    go_ret
    exact ⟨rfl, hb1⟩
end Go.Proofs.Ytfpnchnijfhjhaa
