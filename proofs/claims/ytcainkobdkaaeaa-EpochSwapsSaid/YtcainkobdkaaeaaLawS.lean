/-
  The law EpochSwaps.
-/
import Derived.Test.YtcainkobdkaaeaaAw7
namespace Go.Proofs.Ytcainkobdkaaeaa
open Go.ChangeShapes Go.WideShapes Go.ChangeAt Go.RowKit
set_option linter.unusedVariables false
set_option linter.unusedSimpArgs false
set_option maxRecDepth 20000

set_option maxHeartbeats 2000000 in
theorem epochSwaps_walk (A : Option Addr) (n c : Nat) (l : List Int) (w : World) (hl : Sl w A n c l) (hmax : n ≤ maxLen) :
    Calls Try.prog 7 #[.slice A n c] w fun e w' => e = .returned (.bool true) ∧ Below w.heap.size w w' := by
  have HL := Lib.hid hl
  unfold maxLen at hmax
  clear hl
  by_cases hn : n ≤ 60
  case neg =>
    have h60 : (60 : Int) < (n : Int) := by omega
    go_enter Try.func7, Try.ntmps7
    go_wp2_with fail
    refine (awake_walk _).mono ?_
    rintro e w1 ⟨rfl, hb1⟩
    go_wp2
    go_ret
    exact ⟨rfl, hb1⟩
  have h60 : ¬ ((60 : Int) < (n : Int)) := by omega
  go_enter Try.func7, Try.ntmps7
  go_wp2_with fail
  refine (awake_walk _).mono ?_
  rintro e w1 ⟨rfl, b1⟩
  have HB := Lib.hid b1
  clear b1
  go_wp2_with fail
  refine (Ow.new (w := w) 1 HB.out).mono ?_
  rintro e w2 ⟨a, rfl, h2⟩
  have H2 : Hid (Ow w a 0 [(-1, [])] w2) := h2
  clear h2 HB
  go_wp2_with fail
  go_loopg [15, 4] n (fun gk i m wr => ∃ (k j : Nat), k + gk = n ∧ j ≤ k ∧ i = .int .i64 (k : Int) ∧ m = .int .i64 (j : Int) ∧ Hid (Ow w a (j : Int) [(-1, [])] wr))
  case atStart => exact ⟨0, 0, by omega, by omega, rfl, rfl, H2.out⟩
  case round =>
    clear H2
    obtain ⟨k, j, hk, hj, rfl, rfl, HH⟩ := hrel
    have hjw : IntKind.i64.wrap ((j : Int) + 1) = (j : Int) + 1 := IntWalk.i64_in _ (by omega)
    by_cases hlt : k < n
    case neg =>
      have i1 : ¬ ((k : Int) < (n : Int)) := by omega
      have hjw2 : IntKind.i64.wrap ((j : Int) - 1) = (j : Int) - 1 := IntWalk.i64_in _ (by omega)
      go_wp2_with fail
      refine (HH.out.swapNo (old := (j : Int) - 1) (by omega)).mono ?_
      rintro e w3 ⟨rfl, rfl⟩
      go_wp2_with fail
      refine (HH.out.swap hjw).mono ?_
      rintro e w3 ⟨rfl, h3⟩
      have H3 := Lib.hid h3
      clear h3 HH
      go_wp2_with fail
      refine H3.out.nowIs.mono ?_
      rintro e w4 ⟨rfl, rfl⟩
      go_wp2
      go_ret
      exact ⟨rfl, H3.out.below⟩
    obtain ⟨g, off, hA, hgl, hc⟩ := HL.out.at0 hlt
    subst hA
    have hc' := below_read HH.out.below hc
    generalize l.getD k 0 = old at *
    have i0 : (0 : Int) ≤ (k : Int) := by omega
    have i1 : (k : Int) < (n : Int) := by omega
    have hkw : IntKind.i64.wrap ((k : Int) + 1) = (k : Int) + 1 := IntWalk.i64_in _ (by omega)
    clear hc
    go_upto_if 22 with fail
    go_cut [6] (fun v wc => ∃ o : Int, v = .int .i64 o ∧ wr = wc)
    case first =>
      by_cases h2 : (k : Int) % 2 = 0
      · go_wp2
        go_meet
        exact ⟨_, rfl, rfl⟩
      · have h3 : ((k : Int) % 2 == 0) = false := by simpa using h2
        go_wp2
        go_meet
        exact ⟨_, rfl, rfl⟩
    case rest =>
    obtain ⟨o, rfl, hwc⟩ := hcut
    subst hwc
    clear hc'
    by_cases ho : o = (j : Int)
    · subst ho
      go_wp2_with fail
      refine (HH.out.swap hjw).mono ?_
      rintro e w3 ⟨rfl, h3⟩
      have H3 : Hid (Ow w a ((j + 1 : Nat) : Int) [(-1, [])] w3) := by
        rw [Int.natCast_add]
        exact h3
      clear h3 HH
      go_wp2_with fail
      refine H3.out.nowIs.mono ?_
      rintro e w4 ⟨rfl, rfl⟩
      have hj1 : ((j + 1 : Nat) : Int) = (j : Int) + 1 := by omega
      go_wp2
      go_roundg (gk - 1)
      case measure => omega
      case rel => exact ⟨k + 1, j + 1, by omega, by omega, by go_num, by go_num, H3.out⟩
    · have hb : (o == (j : Int)) = false := by simpa using ho
      have hb1 : ((j : Int) == o) = false := by simp; omega
      have hb2 : (o != (j : Int)) = true := by simpa using ho
      go_wp2_with fail
      refine (HH.out.swapNo (old := o) (fun e => ho e.symm)).mono ?_
      rintro e w3 ⟨rfl, rfl⟩
      go_wp2_with fail
      refine HH.out.nowIs.mono ?_
      rintro e w4 ⟨rfl, rfl⟩
      go_wp2
      go_roundg (gk - 1)
      case measure => omega
      case rel => exact ⟨k + 1, j, by omega, by omega, by go_num, rfl, HH.out⟩
end Go.Proofs.Ytcainkobdkaaeaa
