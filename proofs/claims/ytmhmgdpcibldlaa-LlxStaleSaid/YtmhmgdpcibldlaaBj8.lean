/-
  What world's Begin comes to within work: touch by touch.
-/
import Derived.Test.YtmhmgdpcibldlaaBi8
namespace Go.Proofs.Ytmhmgdpcibldlaa
open Go.ChangeShapes Go.WideShapes Go.ChangeAt Go.RowKit
set_option linter.unusedVariables false
set_option linter.unusedSimpArgs false
set_option maxRecDepth 20000

section
variable {d : Wd} {R R' : Nat → Prop} {w w' w0 : World} {a st ph k me : Nat} {wk : Value} {zs : List Int} {c : Cur} {s : Sig} {n : Int} {α : Type}
variable {X : Nat → Prop} {p L N : Nat} {o : Out α} {wr w1 : World}
/-- A variable that was made, with a number in it. -/
theorem put_new (w : World) (z : Int) (t : TypeId) : Below w.heap.size w (w.alloc (.cells #[.int .i64 z] t)) ∧ (w.alloc (.cells #[.int .i64 z] t)).heap[w.heap.size]? = some (.cells #[.int .i64 z] t (0, 0)) ∧ (w.alloc (.cells #[.int .i64 z] t)).heap.size = w.heap.size + 1 := ⟨below_new w _, heap_alloc_new w _, by simp⟩
theorem num_cell {w : World} {q : Nat} {z : Int} {t : TypeId} (h : w.heap[q]? = some (.cells #[.int .i64 z] t (0, 0))) : w.cell? ⟨q, 0, none⟩ = some (.int .i64 z) := by rw [cell_of_row w q _ _ _ (0, 0) h]; rfl
/-- What comes behind Begin's first touch. -/
def kSay (N L me : Nat) (now : Int) : Tr Unit := .tch (gSay me now) fun _ => (tAll now L 0).bind fun b => (tSwap b now).bind fun _ => .tch gNow fun n => tFree me n N
def kNow (N me : Nat) : Tr Unit := .tch gNow fun n => tFree me n N
def kAll (N me : Nat) (now : Int) (b : Bool) : Tr Unit := (tSwap b now).bind fun _ => kNow N me
structure BV (d : Wd) (R : Nat → Prop) (w : World) (a me : Nat) (wk : Value) (p q L N : Nat) (o : Out Unit) (t : Tr Unit) (z : Int) (wr : World) (c : Cur) (s : Sig) : Prop where
  bs : BS d R (fun b => R b ∨ b = p ∨ b = q) w a me wk p L N o t wr c s
  var : wr.heap[q]? = some (.cells #[.int .i64 z] 2 (0, 0))
  ne : q ≠ p
  nR : ¬ R q
theorem BV.then {q : Nat} {o : Out Unit} {t t' : Tr Unit} {z : Int} {c' : Cur} {s' : Sig} (h : BV d R w a me wk p q L N o t z wr c s) (hB : BS d R (fun b => R b ∨ b = p ∨ b = q) w a me wk p L N o t' w1 c' s') (hK : Kp (fun b => R b ∨ b = p ∨ b = q) wr w1) : BV d R w a me wk p q L N o t' z w1 c' s' :=
  ⟨hB, (hK.block q (.inr (.inr rfl))).trans h.var, h.ne, h.nR⟩
theorem BS.last {t : Tr α} {U : α → Value} {e : Ending} (h : BS d R X w a me wk p L N o t wr c s) (hP : Post d X wr a wk U (run t c s) e w1) : Post d R w a wk U o e w1 := by
  rw [h.rn]; exact Post.from_ h.kp (hP.mono fun b e => h.sub b (.inl e))
theorem BV.cells {q : Nat} {o : Out Unit} {t : Tr Unit} {z : Int} (h : BV d R w a me wk p q L N o t z wr c s) : wr.cell? ⟨p, 0, none⟩ = some (ptr a) ∧ wr.cell? ⟨p, 1, none⟩ = some (ptr d.W) ∧ wr.cell? ⟨p, 2, none⟩ = some (.int .i64 (me : Int)) ∧ wr.cell? ⟨q, 0, none⟩ = some (.int .i64 z) ∧ wr.cell? ⟨d.W, 2, none⟩ = some (ptr d.E) :=
  ⟨h.bs.tk.c0, h.bs.tk.c1, h.bs.tk.c2, num_cell h.var, h.bs.wcell.1⟩
theorem gSwap_01 (n : Int) (s : Sig) : (gSwap n s).1 = 0 ∨ (gSwap n s).1 = 1 := by unfold gSwap; split <;> simp
theorem gSwap_len (n : Int) (s : Sig) : (gSwap n s).2.S = s.S := by unfold gSwap; split <;> rfl
end
end Go.Proofs.Ytmhmgdpcibldlaa
