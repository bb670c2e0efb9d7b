/-
  Rows of numbers that grow; one-element slices.
-/
import Derived.Test.YtcegianjpifnbaaGreatLx10
namespace Go.Proofs.YtcegianjpifnbaaGreat
open Go.ChangeShapes Go.WideShapes Go.ChangeAt Go.RowKit
set_option linter.unusedVariables false
set_option linter.unusedSimpArgs false
set_option maxRecDepth 20000
section
variable {sl el : TypeId} (RT : RowT sl el) {w : World}
include RT
/-- append to a row of numbers: where it lies then. -/
theorem run_pushN {T : Value} {A : Option Addr} {n c : Nat} {zs ms : List Int} (hown : Row el 0 w T zs) (hm : Sl w A n c ms) (hl : zs.length + ms.length ≤ 100000) (hA : A ≠ none) :
    ∃ A' m c' w', (Builtin.append_ #[sl, sl] sl #[T, .slice A n c]).run Tryz.prog w = .ok (.slice A' m c') w' ∧ Row el 0 w' (.slice A' m c') (zs ++ ms) ∧ w.grownBy w' T.ownBlock ∧ ∀ b, (Value.slice A' m c').ownBlock = some b → T.ownBlock = some b ∨ w.heap.size ≤ b := by
  obtain ⟨i0, hi0, hz0, hz1, hz2⟩ := info_parts RT.info
  cases A with
  | none => exact absurd rfl hA
  | some ad =>
    have hn := hm.len
    obtain ⟨v', w', h1, h2, h3, h4⟩ := run_push (w := w) sl sl el i0 _ 1 8 RT.under hi0 hz0 hz1 hz2 rfl (by omega) T zs.length (ints zs) hown ad n c (ints ms) (by rw [ints_length, hn]; omega)
      (by
        intro j u hj
        rcases hm.cells with e | ⟨b, off, e, hc⟩
        · subst e; simp [ints] at hj
        · have e := Option.some.inj e
          subst e
          obtain ⟨z, hz, rfl⟩ := ints_at hj
          rw [add_lit0]
          exact hc j z hz) (ints_one _) (by unfold maxLen; omega) (by omega)
    have hR : Row el 0 w' v' (zs ++ ms) := by
      unfold Row
      rw [List.length_append, ← hn, ints_append]
      exact h2
    obtain ⟨A', m, c', rfl⟩ := hR.shape
    exact ⟨A', m, c', w', h1, hR, h3, h4⟩
end
section
variable {w : World}
theorem sl_one9 {b : Nat} {z : Int} (h : w.cell? ⟨b, 0, none⟩ = some (.int .i64 z)) : Sl w (some ⟨b, 0, none⟩) 1 1 [z] :=
  ⟨rfl, Nat.le_refl _, fun e => (by cases e), .inr ⟨_, 0, rfl, fun i y hi => by
    cases i with
    | zero => injection hi with hi; subst hi; exact h
    | succ i => simp at hi⟩⟩
theorem sl_two9 {b : Nat} {z y : Int} (h : w.cell? ⟨b, 0, none⟩ = some (.int .i64 z)) (h' : w.cell? ⟨b, 1, none⟩ = some (.int .i64 y)) : Sl w (some ⟨b, 0, none⟩) 2 2 [z, y] :=
  ⟨rfl, Nat.le_refl _, fun e => (by cases e), .inr ⟨_, 0, rfl, fun i x hi => by
    match i with
    | 0 => injection hi with hi; subst hi; exact h
    | 1 => injection hi with hi; subst hi; exact h'
    | i + 2 => simp at hi⟩⟩
end
theorem wp_append_d {P : Program} (d : Nat) {w : World} {o : Oper} {a : Act} {K : Act → World → Prop} {Q : Exit → Act → World → Prop} (s x : Operand) (t tn : TypeId)
    (ho : o.op = .call { callee := .builtin .append, args := #[s, x], argTypes := #[t, tn] }) (hd : o.dst = some d) (vs vx : Value) (hs : a.eval s = vs) (hx : a.eval x = vx)
    {v' : Value} {w' : World} (hr : (Builtin.append_ #[t, tn] o.type #[vs, vx]).run P w = .ok v' w') (h : K { a with tmps := a.tmps.setIfInBounds d v' } w') : o.wp P a w K Q :=
  Lib.wp_append_run w s x t tn ho vs vx hs hx v' w' hr (by unfold Act.put; rw [hd]; exact h)
end Go.Proofs.YtcegianjpifnbaaGreat
