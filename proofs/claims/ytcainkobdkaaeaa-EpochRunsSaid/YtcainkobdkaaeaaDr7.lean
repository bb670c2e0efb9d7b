/-
  What the document's Ready returns.
-/
import Derived.Test.YtcainkobdkaaeaaAw7
namespace Go.Proofs.Ytcainkobdkaaeaa
open Go.ChangeShapes Go.WideShapes Go.ChangeAt Go.RowKit
set_option linter.unusedVariables false
set_option linter.unusedSimpArgs false
set_option maxRecDepth 20000

set_option maxHeartbeats 1000000 in
theorem dready_walk (at_ now : Int) (w : World) (h1 : -9223372036854775808 ≤ at_) (h2 : now ≤ 9223372036854775807) : Calls Try.prog 22 #[.int .i64 at_, .int .i64 now] w fun e w' => e = .returned (.bool (rdy at_ now)) ∧ w = w' := by
  go_enter Try.func22, Try.ntmps22
  go_wp2_with fail
  go_loopg [5, 1] 3 (fun gk i n wr => ∃ (k : Nat), k + gk = 3 ∧ i = .int .i64 (k : Int) ∧ n = .int .i64 (now - (k : Int)) ∧ w = wr)
  case atStart => exact ⟨0, by omega, rfl, by simp, rfl⟩
  case round =>
    obtain ⟨k, hk, rfl, rfl, rfl⟩ := hrel
    by_cases hlt : k < 3
    case neg =>
      obtain rfl : k = 3 := by omega
      have HE : Hid (decide (at_ ≤ now - ((3 : Nat) : Int)) = rdy at_ now) := by show _ = _; unfold rdy; congr 1; apply propext; omega
      go_wp2
      go_ret
      exact ⟨ret_bool HE.out, rfl⟩
    have i1 : (k : Int) < 3 := by omega
    have hkw : IntKind.i64.wrap ((k : Int) + 1) = (k : Int) + 1 := IntWalk.i64_in _ (by omega)
    obtain ⟨c, hc⟩ : ∃ c : Int, now - (k : Int) = c := ⟨_, rfl⟩
    rw [hc]
    have HC := Lib.hid hc
    by_cases hle : c ≤ at_
    · have HE : Hid (rdy at_ now = false) := by show _ = _; unfold rdy; simp; omega
      clear hc
      go_wp2
      go_ret
      exact ⟨ret_bool HE.out.symm, rfl⟩
    · have hcw : IntKind.i64.wrap (c - 1) = c - 1 := IntWalk.i64_in _ (by omega)
      have hd : decide (c ≤ at_) = false := by simpa using hle
      clear hc
      go_wp2
      go_roundg (gk - 1)
      case measure => omega
      case rel => exact ⟨k + 1, by omega, by go_num, by rw [← HC.out]; congr 1; omega, rfl⟩
end Go.Proofs.Ytcainkobdkaaeaa
