/-
  Law LlxSnaps: what a snap tells of keys, ways, entries, whichever it is.
-/
import Derived.Test.YtoeilogakfggfaaAw10
namespace Go.Proofs.Ytoeilogakfggfaa
open Go.ChangeShapes Go.WideShapes Go.ChangeAt Go.RowKit
set_option linter.unusedVariables false
set_option linter.unusedSimpArgs false
set_option maxRecDepth 20000

abbrev inT : TypeId := 76
theorem snap_boxes (w : World) (rf inf : Int) (x y : Bool) (pv kv zv wv : Value) : ∃ (W : World) (p q : Nat), (w.alloc (.cells #[.int .i64 rf, .int .i64 inf, .bool x, .bool y, pv, kv, zv, wv] snT)).alloc (.cells #[.slice none 0 0, .slice none 0 0] inT) = W ∧ w.heap.size = p ∧ p + 1 = q ∧ Below w.heap.size w W ∧ Eig W p rf inf x y pv kv zv wv ∧ Var W q ∧ p < W.heap.size ∧ q < W.heap.size ∧ p ≠ q ∧ q ≠ p :=
  ⟨_, _, _, rfl, rfl, rfl, ((Below.refl _ w).alloc (Nat.le_refl _) _).alloc (by simp) _, (Eig.new w rfl rf inf x y pv kv zv wv).below (below_new _ _), Var.new _ (by simp) _, by simp; omega, by simp, by omega, by omega⟩
theorem snap_box (w : World) (rf inf : Int) (x y : Bool) (pv kv zv wv : Value) : ∃ (W : World) (p : Nat), (w.alloc (.cells #[.int .i64 rf, .int .i64 inf, .bool x, .bool y, pv, kv, zv, wv] snT)) = W ∧ w.heap.size = p ∧ Below w.heap.size w W ∧ Eig W p rf inf x y pv kv zv wv :=
  ⟨_, _, rfl, rfl, below_new _ _, Eig.new w rfl rf inf x y pv kv zv wv⟩
section
variable {rf inf : Int} {x y : Bool} {pv zv : Value} {P B C : Option Addr} {n1 c1 m c p q : Nat} {ks ws : List Int} {w : World}
def goesTo (ws : List Int) (way r : Int) (i : Nat) : Bool := decide (0 ≤ way ∧ way.toNat < i ∧ ws[way.toNat]? = some r)
end
end Go.Proofs.Ytoeilogakfggfaa
