/-
  What world's freeReady and Begin come to within work.
-/
import Derived.Test.YtmhmgdpcibldlaaBg8
import Derived.Deep.CutBlock
import Derived.Deep.DeepCutAuto
namespace Go.Proofs.Ytmhmgdpcibldlaa
open Go.ChangeShapes Go.WideShapes Go.ChangeAt Go.RowKit
set_option linter.unusedVariables false
set_option linter.unusedSimpArgs false
set_option maxRecDepth 20000

section
variable {d : Wd} {R R' : Nat → Prop} {w w' w0 : World} {a st ph k me : Nat} {wk : Value} {zs : List Int} {c : Cur} {s : Sig} {n : Int}
theorem gRdy_in (hf : Fit s) (i : Nat) (n : Int) : in64 (gRdy i n s).1 := by
  have h0 : in64 0 := by unfold in64; omega
  unfold gRdy
  split
  · rename_i y p q hx
    split
    · exact ((hf.que _ (List.mem_of_getElem? hx)).2 p (List.mem_cons_self ..)).1
    · exact h0
  · exact h0
/-- Fuel enough. -/
def fuel (c : Cur) (M : Nat) : Prop := (c.live = true → c.zs.length + 2 ≤ M + c.k) ∧ (c.live = false → 1 ≤ M)
/-- Where freeReady is. -/
structure FR (d : Wd) (R : Nat → Prop) (w : World) (a me : Nat) (wk : Value) (p q : Nat) (o : Out Unit) (n : Int) (M : Nat) (wr : World) (c : Cur) (s : Sig) : Prop where
  run : o = run (tFree me n M) c s
  lv : Lv d (fun b => R b ∨ b = p ∨ b = q) wr a wk c s
  kp : Kp R w wr
  tk : Tk wr p a d.W me
  cn : wr.cell? ⟨q, 0, none⟩ = some (.int .i64 n)
  fu : fuel c M
  len : c.live = true → me < s.S.length
end
end Go.Proofs.Ytmhmgdpcibldlaa
