/-
  A node as an argument.
-/
import Derived.Test.YtcegianjpifnbaaGreatOp11
namespace Go.Proofs.YtcegianjpifnbaaGreat
open Go.ChangeShapes Go.WideShapes Go.ChangeAt Go.RowKit Go.Deep
set_option linter.unusedVariables false
set_option maxRecDepth 20000
section
variable {H : Type} {enc : TypeId × Value → H} {W : World} {b0 base : Nat} {spare : Nat → Bool} {held : Bool} {r : Reach}
theorem open_node {v : Value} {d : DataW H} {p : List MemPlace} (hv : Value.okWide Tryz.prog W r b0 29 v) (h : DataW.Trod enc Tryz.prog W base spare held 29 v d p) :
    ∃ (x y : Bool) (A B C : Option Addr) (n c m e p q : Nat), v = ndv x y (.slice A n c) (.slice B m e) (.slice C p q) := by
  obtain ⟨cs, rfl, hsz⟩ := okWide_struct Tryz.underlying29 hv
  obtain ⟨fuel, hf⟩ := h
  obtain ⟨l⟩ := cs
  have hf : DataW.trod enc Tryz.prog W base spare held fuel 29 l = some (d, p) := by simpa [Value.cells] using hf
  obtain ⟨x, y, P, n1, c1, B, m, c, Z, k, q, ks, e, -⟩ := open_ndc hf
  subst e
  exact ⟨_, _, _, _, _, _, _, _, _, _, _, rfl⟩
end
end Go.Proofs.YtcegianjpifnbaaGreat
