/-
  The laws' fixed fact: a leaf that nobody is at is Seen in five touches.
-/
import Derived.Test.YtcegianjpifnbaaGreatTj10
namespace Go.Proofs.YtcegianjpifnbaaGreat
open Go.ChangeShapes Go.WideShapes Go.ChangeAt Go.RowKit
set_option linter.unusedVariables false
set_option linter.unusedSimpArgs false
set_option maxRecDepth 20000

abbrev ndsA : List (Int × Nd) := [(mk 0 1, Nd.nil)]
theorem stt_new : Stt ndsA 9 (newSig 9 1) := by
  refine ⟨fun x hx => ?_, fun x hx => (by simp [newSig] at hx), Nat.zero_le _, fun p hp z hz => ?_, by simp [newSig], fun p hp => ?_⟩
  · obtain rfl : x = (mk 0 1, Nd.nil) := by simpa using hx
    exact ⟨0, rootPa, by rfl, rfl⟩
  · simp only [newSig, List.mem_cons, List.not_mem_nil, or_false] at hp
    rcases hp with rfl | rfl
    · cases hz
    · simp only [entryPa, List.mem_cons, List.not_mem_nil, or_false] at hz
      subst hz
      have := mk_range 0 1
      unfold in64; omega
  · simp only [newSig, List.mem_cons, List.not_mem_nil, or_false] at hp
    rcases hp with rfl | rfl
    · simp only [rootPa]; omega
    · simp only [entryPa]; omega
theorem ev_awake : ev (tLook (mk 0 1) Nd.nil) (newSig 9 1) = ([0, 0], newSig 9 1, 5) := by rfl
end Go.Proofs.YtcegianjpifnbaaGreat
