/-
  The law EpochRuns: what stands behind a call; the switch in its loop.
-/
import Derived.Test.YtcainkobdkaaeaaRr7
import Derived.Deep.CutBlock
import Derived.Deep.DeepCutAuto
import Derived.Deep.LoopGhost
namespace Go.Proofs.Ytcainkobdkaaeaa
open Go.ChangeShapes Go.WideShapes Go.ChangeAt Go.RowKit
set_option linter.unusedVariables false
set_option linter.unusedSimpArgs false
set_option maxRecDepth 20000

abbrev acT : TypeId := 30
/-- Behind k calls: both tell the same. -/
def Fin (w : World) (a d k m : Nat) (K : List (Nat × Array Value × TypeId)) (wr : World) : Prop := ∃ (j : Nat) (S : List Tq), j ≤ k ∧ Ok k S ∧ S.length = m ∧ RR w a d (j : Int) S (j : Int) S K wr
/-- The four cells of a call. -/
theorem four_cells {w : World} {b : Nat} {c0 c1 c2 c3 : Value} {t : TypeId} (h : w.heap[b]? = some (.cells #[c0, c1, c2, c3] t (0, 0))) : w.cell? ⟨b, 0, none⟩ = some c0 ∧ w.cell? ⟨b, 1, none⟩ = some c1 ∧ w.cell? ⟨b, 2, none⟩ = some c2 ∧ w.cell? ⟨b, 3, none⟩ = some c3 := by
  refine ⟨?_, ?_, ?_, ?_⟩ <;> (rw [cell_of_row w b _ _ _ (0, 0) h]; rfl)
/-- The statement of a function's text that is block n. -/
def findBlock (n : Nat) : Code → Option Code
  | .block m c => if m = n then some (.block m c) else findBlock n c
  | .seq a b => match findBlock n a with
    | some c => some c
    | none => findBlock n b
  | .cond _ a b => match findBlock n a with
    | some c => some c
    | none => findBlock n b
  | .loop c => findBlock n c
  | .scope c => findBlock n c
  | _ => none
/-- The switch in the law's loop. -/
noncomputable def switchC : Code := ((Try.f3.body.bind (findBlock 2)).getD .skip)
end Go.Proofs.Ytcainkobdkaaeaa
