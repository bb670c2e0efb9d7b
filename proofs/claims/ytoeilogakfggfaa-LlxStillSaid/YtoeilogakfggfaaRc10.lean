/-
  Two that load the same nodes and store: what each does, touch by touch.
-/
import Derived.Test.YtoeilogakfggfaaCh10
namespace Go.Proofs.Ytoeilogakfggfaa
open Go.ChangeShapes Go.WideShapes Go.ChangeAt Go.RowKit
set_option linter.unusedVariables false
set_option linter.unusedSimpArgs false
set_option maxRecDepth 20000

/-- Does the first of the nodes go to 200 by way 0? -/
def goes0 (l : List Sn) : Bool := match l with
  | [] => false
  | x :: _ => decide (0 < x.ws.length) && x.ws.getD 0 0 == 200
/-- What LlxRace's work does. -/
def tRace (prs : List (Int × Nd)) (nw : Int) : Tr (List Int) := (tLoads [] prs).bind fun x => if x.2 = true then (if goes0 x.1 = true then (tStore 40 x.1 1 0 200 nw).bind fun y => .ret [b2i y.1] else .ret [3]) else .ret [-1]
def fR (l : List (Int × Bool × Int × Int)) (i : Nat) : Ns := match l[i]? with
  | some x => ⟨x.1, x.2.1, x.2.2.1, x.2.2.2⟩
  | none => ns0 i
/-- Nodes and records, told one by one. -/
def sR (k : Nat) (l : List (Int × Bool × Int × Int)) (rs : List Re) : Sig := sN 2 k (fR l) rs
/-- Where a thread is: behind so much that was told, by the records of some state; or at its end. -/
def mkT (t : Tr (List Int)) (S : Nat → Sig) (e : List Int × Nat × Int) : Ts := if e.2.2 = -9 then .run (res t e.1 (S e.2.1)) else .fin [e.2.2]
/-- A table, by hundreds. -/
def at2 {α : Type} (d : α) (l : List (List α)) (i : Nat) : α := (l.getD (i / 20) []).getD (i % 20) d
end Go.Proofs.Ytoeilogakfggfaa
