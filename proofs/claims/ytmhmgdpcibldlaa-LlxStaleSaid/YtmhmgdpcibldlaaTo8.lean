/-
  What world's touches do: the closures that Begin, End, Make, Drop and Leave hand to the thread.
-/
import Derived.Test.YtmhmgdpcibldlaaWo8
import Derived.Test.YtmhmgdpcibldlaaTailW
namespace Go.Proofs.Ytmhmgdpcibldlaa
open Go.ChangeShapes Go.WideShapes Go.ChangeAt Go.RowKit
set_option linter.unusedVariables false
set_option linter.unusedSimpArgs false
set_option maxRecDepth 20000

abbrev tkT : TypeId := 70
/-- A task's cells at block B. -/
structure Tk (w : World) (B a W : Nat) (me : Nat) : Prop where
  c0 : w.cell? ⟨B, 0, none⟩ = some (ptr a)
  c1 : w.cell? ⟨B, 1, none⟩ = some (ptr W)
  c2 : w.cell? ⟨B, 2, none⟩ = some (.int .i64 (me : Int))
abbrev tkV (a W : Nat) (me : Nat) : Value := .agg #[ptr a, ptr W, .int .i64 (me : Int)]
section
variable {d : Wd} {FW : Nat → Prop} {w w' : World} {s : Sig} {B C D a me i : Nat} {n r : Int}
theorem Tk.new (w : World) (a W me : Nat) : Tk (w.alloc (.cells #[ptr a, ptr W, .int .i64 (me : Int)] tkT)) w.heap.size a W me := ⟨c_new rfl rfl, c_new rfl rfl, c_new rfl rfl⟩
theorem Tk.cells {W : Nat} (h : Tk w B a W me) (hb : w'.heap[B]? = w.heap[B]?) : Tk w' B a W me := by
  have : ∀ j, w'.cell? ⟨B, j, none⟩ = w.cell? ⟨B, j, none⟩ := fun j => by unfold World.cell?; rw [hb]
  exact ⟨(this 0).trans h.c0, (this 1).trans h.c1, (this 2).trans h.c2⟩
theorem drew_W (h : WS d FW w s) : WS d FW w.drew s := h.below ((Below.refl _ w).drew)
theorem gone_drew {s' : Sig} (h : NxW d FW w.drew s' w') : NxW d FW w s' w' := NxW.after ((Below.refl _ w).drew) h
theorem hit_some {S : As} {p : Pa} (h : S.hit r = some (i, p)) : S.pls[i]? = some p ∧ p.used = true ∧ mk i p.cnt = r := by
  unfold As.hit at h
  split at h
  · rename_i q hq
    split at h
    · rename_i hh
      injection h with h
      injection h with h1 h2
      subst h1 h2
      exact ⟨hq, hh.1, hh.2⟩
    · cases h
  · cases h
theorem hit_none {S : As} (hok : Ok S) (h : S.hit r = none) : ∀ i, ¬ Hit S r i := by
  rintro i ⟨p, h1, h2, h3⟩
  have hl := (List.getElem?_eq_some_iff.1 h1).1
  have := pl_of_mk (i := i) (by have := hok.len; omega) h3
  have e : (pl r).toNat = i := by omega
  unfold As.hit at h
  rw [e, h1] at h
  simp only at h
  rw [if_pos ⟨h2, h3⟩] at h
  cases h
end
end Go.Proofs.Ytmhmgdpcibldlaa
