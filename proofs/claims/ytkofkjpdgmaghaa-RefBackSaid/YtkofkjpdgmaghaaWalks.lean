/-
  The walks of layer 1's functions: what each call of ref, of the document's answer and of the law's own test returns, for every input; none changes the world.
-/
import Derived.Test.YtkofkjpdgmaghaaRows
import Derived.Test.YtkofkjpdgmaghaaPlain
import Derived.ProofKit
import Derived.OpenShut
import Derived.WalkSpells
namespace Go.Proofs.Ytkofkjpdgmaghaa
open Go.ChangeShapes Go.WideShapes Go.ChangeAt Go.RowKit

theorem of_walk (p c : Int) (hc : 0 ≤ c ∧ c ≤ 4294967295) (w : World) :
    Calls Try.prog 10 #[.int .i64 p, .int .u32 c] w fun e w' => e = .returned (.int .i64 (mk p c)) ∧ w = w' := by
  rw [← of_plain p c hc]
  go_enter Try.func10, Try.ntmps10
  go_wp2
  go_ret
  exact ⟨rfl, rfl⟩

theorem place_walk (r : Int) (w : World) :
    Calls Try.prog 13 #[.int .i64 r] w fun e w' => e = .returned (.int .i64 (pl r)) ∧ w = w' := by
  rw [← place_plain r]
  go_enter Try.func13, Try.ntmps13
  go_wp2
  go_ret
  exact ⟨rfl, rfl⟩

theorem count_walk (r : Int) (w : World) :
    Calls Try.prog 14 #[.int .i64 r] w fun e w' => e = .returned (.int .u32 (ct r)) ∧ w = w' := by
  rw [← count_plain r]
  go_enter Try.func14, Try.ntmps14
  go_wp2
  go_ret
  exact ⟨rfl, rfl⟩

theorem awake_walk (w : World) : Calls Try.prog 9 #[] w fun e w' => e = .returned (.bool true) ∧ w = w' := by
  go_enter Try.func9, Try.ntmps9
  go_wp2_with (go_at_call 10; refine (of_walk _ _ (by omega) _).mono ?_; rintro e w' ⟨rfl, rfl⟩)
  go_ret
  refine ⟨?_, rfl⟩
  show Ending.returned (Value.bool (mk 0 1 == 1099511627777)) = _
  have e : (mk 0 1 == 1099511627777) = true := by decide
  rw [e]

theorem refOf_low (p : Int) (h : p.tmod 1099511627776 < 0) : (wrap64 (wrap64 (p.tmod 1099511627776 + 1099511627776) + 1)).tmod 1099511627776 = (p + 1) % 1099511627776 := by
  have h1 := tmod_two p 1099511627776
  generalize p.tmod 1099511627776 = t at *
  rw [IntWalk.wrap64_in (t + 1099511627776) (by omega), IntWalk.wrap64_in _ (by omega)]
  have h2 := tmod_two (t + 1099511627776 + 1) 1099511627776
  omega

theorem refOf_high (p : Int) (h : 0 ≤ p.tmod 1099511627776) : (wrap64 (p.tmod 1099511627776 + 1)).tmod 1099511627776 = (p + 1) % 1099511627776 := by
  have h1 := tmod_two p 1099511627776
  generalize p.tmod 1099511627776 = t at *
  rw [IntWalk.wrap64_in _ (by omega)]
  have h2 := tmod_two (t + 1) 1099511627776
  omega

theorem refOf_walk (p c : Int) (hc : 0 ≤ c ∧ c ≤ 4294967295) (w : World) :
    Calls Try.prog 11 #[.int .i64 p, .int .u32 c] w fun e w' => e = .returned (.int .i64 (mk p c)) ∧ w = w' := by
  go_enter Try.func11, Try.ntmps11
  go_wp2
  all_goals go_ret
  · refine ⟨?_, rfl⟩
    show Ending.returned (Value.int _ _) = _
    rw [refOf_low p ‹_›, IntWalk.wrap64_in _ (by omega)]
    rfl
  · refine ⟨?_, rfl⟩
    show Ending.returned (Value.int _ _) = _
    rw [refOf_high p ‹_›, IntWalk.wrap64_in _ (by omega)]
    rfl

/-- The document's rest, from 0 on. -/
theorem parts_low (r : Int) (h : r.tmod 1099511627776 < 0) : wrap64 (r.tmod 1099511627776 + 1099511627776) = r % 1099511627776 := by
  have h1 := tmod_two r 1099511627776
  generalize r.tmod 1099511627776 = t at *
  rw [IntWalk.wrap64_in _ (by omega)]
  omega

theorem parts_high (r : Int) (h : 0 ≤ r.tmod 1099511627776) : r.tmod 1099511627776 = r % 1099511627776 := by
  have h1 := tmod_two r 1099511627776
  omega

theorem parts_quot (r : Int) (hr : -9223372036854775808 ≤ r ∧ r ≤ 9223372036854775807) :
    wrap64 ((wrap64 (r - r % 1099511627776)).tdiv 1099511627776) = r / 1099511627776 := by
  rw [IntWalk.wrap64_in (r - r % 1099511627776) (by omega)]
  have h1 := tdiv_two (r - r % 1099511627776) 1099511627776
  generalize (r - r % 1099511627776).tdiv 1099511627776 = t at *
  rw [IntWalk.wrap64_in _ (by omega)]
  omega

theorem parts_neg (q : Int) (h : q.tmod 8388608 < 0) : wrap64 (q.tmod 8388608 + 8388608) % 4294967296 = q % 8388608 := by
  have h1 := tmod_two q 8388608
  generalize q.tmod 8388608 = t at *
  rw [IntWalk.wrap64_in _ (by omega)]
  omega

theorem parts_pos (q : Int) (h : 0 ≤ q.tmod 8388608) : q.tmod 8388608 % 4294967296 = q % 8388608 := by
  have h1 := tmod_two q 8388608
  omega

theorem parts_walk (r : Int) (hr : -9223372036854775808 ≤ r ∧ r ≤ 9223372036854775807) (w : World) :
    Calls Try.prog 12 #[.int .i64 r] w fun e w' => e = .returned (.tuple #[.int .i64 (pl r), .int .u32 (ct r)]) ∧ w = w' := by
  go_enter Try.func12, Try.ntmps12
  go_wp2
  all_goals go_ret2
  all_goals refine ⟨?_, rfl⟩
  all_goals show Ending.returned (Value.tuple #[Value.int _ _, Value.int _ _]) = _
  all_goals rename_i h1 h2
  all_goals first | rw [parts_low r h1] at h2 ⊢ | rw [parts_high r h1] at h2 ⊢
  all_goals rw [parts_quot r hr] at h2 ⊢
  all_goals rw [IntWalk.wrap64_in (r % 1099511627776 - 1) (by omega)]
  all_goals first | rw [parts_neg _ h2] | rw [parts_pos _ h2]
  all_goals rfl
end Go.Proofs.Ytkofkjpdgmaghaa
