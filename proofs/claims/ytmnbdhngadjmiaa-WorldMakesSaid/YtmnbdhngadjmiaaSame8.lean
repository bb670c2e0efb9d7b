/-
  What the laws' Same (of equal pairs, of equal Inners) and Copy return. None changes what was there.
-/
import Derived.Test.YtmnbdhngadjmiaaConcat8
import Derived.Deep.RegionLaw
namespace Go.Proofs.Ytmnbdhngadjmiaa
open Go.ChangeShapes Go.WideShapes Go.ChangeAt Go.RowKit
set_option linter.unusedVariables false
set_option linter.unusedSimpArgs false
set_option maxRecDepth 20000

/-- An Inner as a value. -/
abbrev inn (A : Option Addr) (n c : Nat) (B : Option Addr) (m d : Nat) : Value := .agg #[.slice A n c, .slice B m d]

/-- What a call that makes an Inner gives: its keys' row and its ways' row, and nothing that was there has changed. -/
def MadeI (w : World) (ks ws : List Int) (e : Ending) (w' : World) : Prop :=
  ∃ u v, e = .returned (.agg #[u, v]) ∧ Row 2 w.heap.size w' u ks ∧ Row 30 w.heap.size w' v ws ∧ Below w.heap.size w w'

/-- A result that lies in a variable of two cells. -/
theorem load_inn {w : World} {R : Nat} {x y : Value} (e0 : w.cell? ⟨R, 0, none⟩ = some x) (e1 : w.cell? ⟨R, 1, none⟩ = some y) :
    (loadVar 40 ⟨R, 0, none⟩).run Try.prog w = .ok (.agg #[x, y]) w := by
  simp [go_sem, e0, e1]
theorem results_inn {fn : Func} {t : Tmp} {R : Nat} {x y : Value} {tmps : Array Value} {w : World} (h : fn.results = #[.cell t 40]) (ht : tmps.getD t undef = .pointer (some ⟨R, 0, none⟩))
    (e0 : w.cell? ⟨R, 0, none⟩ = some x) (e1 : w.cell? ⟨R, 1, none⟩ = some y) : (results fn tmps).run Try.prog w = .ok (.agg #[x, y]) w := by
  have := load_inn e0 e1
  have ht' : tmps[t]?.getD undef = .pointer (some ⟨R, 0, none⟩) := by simpa using ht
  simp [results, h, ht', asAddr, this]

/-- .. behind a store into it. -/
theorem results_stored {fn : Func} {t : Tmp} {R : Nat} {x y a b : Value} {tmps : Array Value} {w : World} (h : fn.results = #[.cell t 40]) (ht : tmps.getD t undef = .pointer (some ⟨R, 0, none⟩))
    (e0 : w.cell? ⟨R, 0, none⟩ = some a) (e1 : w.cell? ⟨R, 1, none⟩ = some b) : (results fn tmps).run Try.prog ((w.setCell ⟨R, 0, none⟩ x).setCell ⟨R, 1, none⟩ y) = .ok (.agg #[x, y]) ((w.setCell ⟨R, 0, none⟩ x).setCell ⟨R, 1, none⟩ y) :=
  results_inn h ht ((World.cell?_setCell_other _ _ _ _ (by simp)).trans (World.cell?_setCell_same _ _ _ e0)) (World.cell?_setCell_same _ _ _ ((World.cell?_setCell_other _ _ _ _ (by simp)).trans e1))

/-- What a box of one Inner at block b and a result's variable at block R read as. -/
def Box (w : World) (b : Nat) (x y : Value) : Prop := w.cell? ⟨b, 0, none⟩ = some x ∧ w.cell? ⟨b, 1, none⟩ = some y
def Var (w : World) (b : Nat) : Prop := w.cell? ⟨b, 0, none⟩ = some (.slice none 0 0) ∧ w.cell? ⟨b, 1, none⟩ = some (.slice none 0 0) ∧ w.frozen? ⟨b, 0, none⟩ = false ∧ w.frozen? ⟨b, 1, none⟩ = false
theorem Box.below {W w' : World} {b : Nat} {x y : Value} (h : Box W b x y) (hb : Below W.heap.size W w') : Box w' b x y := by
  have hl := World.block_lt_of_cell? W _ h.1
  exact ⟨(hb.cell (p := ⟨b, 0, none⟩) hl).trans h.1, (hb.cell (p := ⟨b, 1, none⟩) hl).trans h.2⟩
theorem Var.below {W w' : World} {b : Nat} (h : Var W b) (hb : Below W.heap.size W w') : Var w' b := by
  have hl := World.block_lt_of_cell? W _ h.1
  exact ⟨(hb.cell (p := ⟨b, 0, none⟩) hl).trans h.1, (hb.cell (p := ⟨b, 1, none⟩) hl).trans h.2.1, (hb.frozen (p := ⟨b, 0, none⟩) hl).trans h.2.2.1, (hb.frozen (p := ⟨b, 1, none⟩) hl).trans h.2.2.2⟩

theorem Box.new (w : World) {b : Nat} (h : w.heap.size = b) (x y : Value) (t : TypeId) : Box (w.alloc (.cells #[x, y] t)) b x y := by subst h; exact ⟨by simp, by simp⟩
theorem Var.new (w : World) {b : Nat} (h : w.heap.size = b) (t : TypeId) : Var (w.alloc (.cells #[.slice none 0 0, .slice none 0 0] t)) b := by subst h; exact ⟨by simp, by simp, by simp, by simp⟩
/-- .. for one receiver. -/
theorem boxed1v (w : World) (x y : Value) : ∃ (W : World) (R : Nat), (w.alloc (.cells #[x, y] 40)).alloc (.cells #[.slice none 0 0, .slice none 0 0] 40) = W ∧ w.heap.size + 1 = R ∧ Below w.heap.size w W ∧ R < W.heap.size ∧
    Box W w.heap.size x y ∧ Var W R ∧ w.heap.size < R ∧ w.heap.size ≠ R ∧ R ≠ w.heap.size :=
  ⟨_, _, rfl, rfl, ((Below.refl _ w).alloc (Nat.le_refl _) _).alloc (by simp) _, by simp, (Box.new w rfl x y _).below (below_new _ _), Var.new _ (by simp) _, by omega, by omega, by omega⟩

theorem madeI_end1 {w W W3 : World} {u v : Value} {ks ws : List Int} {R : Nat} (h1 : Row 2 W.heap.size W3 u ks) (h2 : Row 30 W.heap.size W3 v ws) (hb1 : Below w.heap.size w W) (hR : R < W.heap.size) (hR0 : w.heap.size ≤ R) (hb : Below w.heap.size w W3) :
    MadeI w ks ws (.returned (.agg #[u, v])) ((W3.setCell ⟨R, 0, none⟩ u).setCell ⟨R, 1, none⟩ v) :=
  ⟨u, v, rfl, ((h1.set_below hR _).set_below hR _).lower hb1.size, ((h2.set_below hR _).set_below hR _).lower hb1.size,
    (hb.setCell (p := ⟨R, 0, none⟩) hR0 u).setCell (p := ⟨R, 1, none⟩) hR0 v⟩
end Go.Proofs.Ytmnbdhngadjmiaa