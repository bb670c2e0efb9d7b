/-
  What world's say and End come to within work.
-/
import Derived.Test.YtmhmgdpcibldlaaTp8
import Derived.Deep.LoopGhost
namespace Go.Proofs.Ytmhmgdpcibldlaa
open Go.ChangeShapes Go.WideShapes Go.ChangeAt Go.RowKit
set_option linter.unusedVariables false
set_option linter.unusedSimpArgs false
set_option maxRecDepth 20000

section
variable {d : Wd} {R R' : Nat → Prop} {w w' w0 : World} {a st ph k me : Nat} {wk : Value} {zs : List Int} {c : Cur} {s : Sig} {n : Int}
theorem gSay_len (i : Nat) (z : Int) (s : Sig) : (gSay i z s).2.S.length = s.S.length := by
  simp only [gSay, setSaid]
  split
  · rw [List.length_set]
  · rfl
theorem one_box (w : World) (a W me : Nat) : ∃ (X : World) (p : Nat), w.alloc (.cells #[ptr a, ptr W, .int .i64 (me : Int)] tkT) = X ∧ w.heap.size = p ∧ Below w.heap.size w X ∧ Tk X p a W me ∧ X.heap.size = p + 1 :=
  ⟨_, _, rfl, rfl, below_new _ _, Tk.new w a W me, by simp⟩
/-- A touch that was come by. -/
theorem run_do {g : Sig → Int × Sig} {c c' : Cur} {s s' : Sig} {z : Int} (h : run (tDo g) c s = .ret z c' s') :
    (c.live = true ∧ c.k < c.zs.length ∧ c' = ⟨c.zs, c.st, c.k + 1, true⟩ ∧ s' = s ∧ z = c.zs.getD c.k 0) ∨ (c.live = true ∧ ¬ c.k < c.zs.length ∧ c' = ⟨c.zs ++ [(g s).1], c.st + 1, c.k + 1, false⟩ ∧ s' = (g s).2 ∧ z = (g s).1) := by
  obtain ⟨zs, st, k, live⟩ := c
  cases live with
  | false => simp [tDo, run] at h
  | true =>
    by_cases hk : k < zs.length
    · simp only [tDo, run, if_true] at h
      rw [if_pos hk] at h
      injection h with h1 h2 h3
      exact .inl ⟨rfl, hk, h2.symm, h3.symm, h1.symm⟩
    · simp only [tDo, run, if_true] at h
      rw [if_neg hk] at h
      injection h with h1 h2 h3
      exact .inr ⟨rfl, hk, h2.symm, h3.symm, h1.symm⟩
theorem run_tch {α : Type} (g : Sig → Int × Sig) (K : Int → Tr α) (c : Cur) (s : Sig) : run (.tch g K) c s = (run (tDo g) c s).bind fun z c s => run (K z) c s := run_bind (tDo g) K c s
theorem saidOf_in (hf : Fit s) (i : Nat) : in64 (saidOf s.S i) := by
  unfold saidOf
  split
  · rename_i x hx; exact hf.said x (List.mem_of_getElem? hx)
  · unfold in64; omega
/-- Where allAreAt is. -/
structure AA (d : Wd) (R : Nat → Prop) (w : World) (a me : Nat) (wk : Value) (p : Nat) (o : Out Bool) (now : Int) (s : Sig) (r j : Nat) (wr : World) (c : Cur) : Prop where
  run : o = run (tAll now r j) c s
  lv : Lv d (fun b => R b ∨ b = p) wr a wk c s
  kp : Kp R w wr
  tk : Tk wr p a d.W me
end
end Go.Proofs.Ytmhmgdpcibldlaa
