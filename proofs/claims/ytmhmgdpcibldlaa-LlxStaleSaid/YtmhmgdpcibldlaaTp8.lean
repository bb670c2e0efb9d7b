/-
  More of world's touches: the closures of Drop, Leave, Make and freeReady.
-/
import Derived.Test.YtmhmgdpcibldlaaTw8
namespace Go.Proofs.Ytmhmgdpcibldlaa
open Go.ChangeShapes Go.WideShapes Go.ChangeAt Go.RowKit
set_option linter.unusedVariables false
set_option linter.unusedSimpArgs false
set_option maxRecDepth 20000

section
variable {d : Wd} {FW R : Nat → Prop} {w w' : World} {s : Sig} {B C D a me i : Nat} {n r : Int}
theorem b2i_back {b : Bool} {z : Int} (h : b2i b = z) : b = (z != 0) := by rw [← h, b2i_ne]
theorem fit_rdy (hf : Fit s) : Ok (gRdy me n s).2.ar := by
  unfold gRdy
  split
  · split
    · exact hf.ok
    · exact hf.ok
  · exact hf.ok
end
end Go.Proofs.Ytmhmgdpcibldlaa
