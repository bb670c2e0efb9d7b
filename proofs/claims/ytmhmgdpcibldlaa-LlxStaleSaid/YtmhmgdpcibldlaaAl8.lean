/-
  What the laws' Alone comes to: an operation goes on alone to its end.
-/
import Derived.Test.YtmhmgdpcibldlaaSt8
namespace Go.Proofs.Ytmhmgdpcibldlaa
open Go.ChangeShapes Go.WideShapes Go.ChangeAt Go.RowKit
set_option linter.unusedVariables false
set_option linter.unusedSimpArgs false
set_option maxRecDepth 20000

section
variable {α : Type}
end
section
variable {d : Wd} {R R' : Nat → Prop} {w w' w0 : World} {a st ph k me : Nat} {wk : Value} {zs : List Int} {c : Cur} {s : Sig} {n : Int} {α : Type} {P : Sig → Prop} {t : Tr α} {out : α → List Int}
/-- What Alone comes to. -/
def AloneP {α : Type} (d : Wd) (R : Nat → Prop) (w : World) (out : α → List Int) (r : α × Sig × Nat) (e : Ending) (w' : World) : Prop :=
  ∃ A n q, e = .returned (.tuple #[.slice A n q, .int .i64 ((max r.2.2 1 : Nat) : Int), .bool true]) ∧ Row 2 w.heap.size w' (.slice A n q) (out r.1) ∧ Idle d (fun b => R b ∨ (Value.slice A n q).ownBlock = some b) w' r.2.1 ∧ Kp R w w'
theorem ended_out {os : List Int} (h : Ended d R w a os s) (hl : os.length ≤ 1000) : Calls Try.prog 43 #[ptr a] w fun e w' => ∃ A n q, e = .returned (.slice A n q) ∧ Row 2 w.heap.size w' (.slice A n q) os ∧ Idle d (fun b => R b ∨ (Value.slice A n q).ownBlock = some b) w' s ∧ Kp R w w' := by
  obtain ⟨F, FW, st, k, O, h1, h2, h3, h4⟩ := h
  refine (out_walk h1 hl).mono ?_
  rintro e w' ⟨v, rfl, hr, hb⟩
  obtain ⟨A, n, q, rfl⟩ := hr.shape
  refine ⟨A, n, q, rfl, hr, ⟨FW, h2.below hb, ?_⟩, Kp.below hb fun b e => (h4 b e).1⟩
  rintro b (e | e)
  · exact ⟨Nat.lt_of_lt_of_le (h4 b e).1 hb.size, (h4 b e).2.2⟩
  · have := World.ownsRow.lt hr b e
    exact ⟨this.2, fun f => by have := h2.lt b f; omega⟩
end
end Go.Proofs.Ytmhmgdpcibldlaa
