/-
  The laws' fixed fact: in a world that is new a key's way is the entry, and a leaf: one touch.
-/
import Derived.Test.YtcegianjpifnbaaGreatPk
import Derived.Test.YtcegianjpifnbaaGreatAw10
namespace Go.Proofs.YtcegianjpifnbaaGreat
open Go.ChangeShapes Go.WideShapes Go.ChangeAt Go.RowKit
set_option linter.unusedVariables false
set_option linter.unusedSimpArgs false
set_option maxRecDepth 20000

def ndE : Nd := entryPa.nd
abbrev ndsB : List (Int × Nd) := [(mk 1 1, ndE), (mk 0 1, Nd.nil)]
def rkB (z : Int) : Nat := if z = mk 1 1 then 1 else 0
theorem asc_nil : Asc1 [] := List.Pairwise.nil
theorem ndsB_ok : NdsOk ndsB := by
  intro x hx
  simp only [List.mem_cons, List.not_mem_nil, or_false] at hx
  rcases hx with rfl | rfl
  · exact ⟨by unfold Nd.small ndE entryPa entryNd; simp, asc_nil⟩
  · exact ⟨by unfold Nd.small Nd.nil; simp, asc_nil⟩
theorem ski_new : SkI ndsB rkB 9 9 (newSig 9 1) := by
  refine ⟨⟨fun x hx => ?_, stt_new.rcs, stt_new.few, stt_new.win, stt_new.len, stt_new.cnt⟩, rfl, fun x hx hi => ?_⟩
  · simp only [List.mem_cons, List.not_mem_nil, or_false] at hx
    rcases hx with rfl | rfl
    · exact ⟨1, entryPa, rfl, rfl⟩
    · exact ⟨0, rootPa, rfl, rfl⟩
  · simp only [List.mem_cons, List.not_mem_nil, or_false] at hx
    rcases hx with rfl | rfl
    · refine ⟨1, entryPa, rfl, rfl, Nat.le_refl _, fun z hz => ?_⟩
      obtain rfl : z = mk 0 1 := by simpa [entryPa] using hz
      exact ⟨rfl, by decide⟩
    · cases hi
theorem path_new : pathS ndsB 7 (newSig 9 1) 2 (mk 1 1) = [⟨mk 1 1, ndE, 0⟩, ⟨mk 0 1, Nd.nil, 0⟩] := by rfl
theorem fit_new : Fit (newSig 9 1) := (inv_new 9 1 21 (by omega) (by omega) (by omega)).fit
end Go.Proofs.YtcegianjpifnbaaGreat
