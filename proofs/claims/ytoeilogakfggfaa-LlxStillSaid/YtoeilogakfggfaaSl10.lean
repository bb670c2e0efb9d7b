/-
  The work of law LlxStale's second thread: some nodes are loaded; are they still so?
-/
import Derived.Test.YtoeilogakfggfaaCh10
namespace Go.Proofs.Ytoeilogakfggfaa
open Go.ChangeShapes Go.WideShapes Go.ChangeAt Go.RowKit
set_option linter.unusedVariables false
set_option linter.unusedSimpArgs false
set_option maxRecDepth 20000

def tStl (prs : List (Int × Nd)) : Tr (List Int) := (tLoads [] prs).bind fun x => if x.2 = true then (tStill x.1).bind fun b => .ret [if b = true then 0 else 1] else .ret [0]
section
variable {nds : List (Int × Nd)} {M L : Nat} {s : Sig}
theorem kl_stl (prs : List (Int × Nd)) : kpL nds M (tStl prs) := kpL_bind (kl_loads [] prs) fun x => kl_if (kpL_bind (kl_still _) fun b => trivial) trivial
theorem good_stl (prs : List (Int × Nd)) (s : Sig) : good (tStl prs) s := by
  refine good_bind (good_loads [] prs s) fun x s' _ => ?_
  split
  · exact good_bind (good_still _ s') fun _ _ _ => trivial
  · exact trivial
theorem tj_still (l : List Sn) : tj nds M L (tStill l) := by
  induction l with
  | nil => exact trivial
  | cons x l ih => exact tj_doInfo fun y _ => tj_if ih trivial
theorem tj_stl (prs : List (Int × Nd)) : tj nds M L (tStl prs) := tj_bind (tj_loads [] prs) fun x => tj_if (tj_bind (tj_still _) fun b => trivial) trivial
end
section
variable {nds : List (Int × Nd)} {M : Nat} {d : Wd} {R R' X X' : Nat → Prop} {w w' w0 wr w1 : World} {a st ph k me p q : Nat} {wk T : Value} {zs ws : List Int} {c : Cur} {s : Sig} {n r : Int} {e : Ending}
end
/-! Steps that read alone: what is left behind j of them. -/
def itN (s : Sig) : Nat → Ts → Ts
  | 0, o => o
  | j + 1, o => itN s j (nxT o s).1
theorem itN_succ (s : Sig) (j : Nat) (o : Ts) : itN s (j + 1) o = (nxT (itN s j o) s).1 := by
  induction j generalizing o with
  | zero => rfl
  | succ j ih => exact ih _
end Go.Proofs.Ytoeilogakfggfaa
