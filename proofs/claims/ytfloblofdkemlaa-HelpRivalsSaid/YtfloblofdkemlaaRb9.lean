/-
  A record that a law makes in a variable, node by node: both its rows grow, in whatever order.
-/
import Derived.Test.YtfloblofdkemlaaHg9
import Derived.Lib.AppendZeros
namespace Go.Proofs.Ytfloblofdkemlaa
open Go.ChangeShapes Go.WideShapes Go.ChangeAt Go.RowKit
set_option linter.unusedVariables false
set_option linter.unusedSimpArgs false
set_option maxRecDepth 20000

/-- append in a region that draws, the slot named. -/
theorem wp_append_d {P : Program} (d : Nat) {w : World} {o : Oper} {a : Act} {K : Act → World → Prop} {Q : Exit → Act → World → Prop} (s x : Operand) (t tn : TypeId)
    (ho : o.op = .call { callee := .builtin .append, args := #[s, x], argTypes := #[t, tn] }) (hd : o.dst = some d) (vs vx : Value) (hs : a.eval s = vs) (hx : a.eval x = vx)
    {v' : Value} {w' : World} (hr : (Builtin.append_ #[t, tn] o.type #[vs, vx]).run P w = .ok v' w') (h : K { a with tmps := a.tmps.setIfInBounds d v' } w') : o.wp P a w K Q :=
  Lib.wp_append_run w s x t tn ho vs vx hs hx v' w' hr (by unfold Act.put; rw [hd]; exact h)
abbrev rfT : TypeId := 30
abbrev i6T : TypeId := 2
/-- Blocks X stay as in w0; the record's variable is at q, with vN0, vI0 in it; its rows are vN, vI by now. -/
structure RB (W w0 : World) (X : Nat → Prop) (q : Nat) (vN0 vI0 : Value) (k y o n : Int) (vN vI : Value) (lN lI : List Int) (d : Wd) (s : Sig) (w : World) : Prop where
  mb : MB W (fun b => X b ∨ b = q ∨ ownX W vN b ∨ ownX W vI b) d 0 0 h0 o0 s w
  six : Six w q vN0 vI0 k y o n
  rN : Row rfT 0 w vN lN
  rI : Row i6T 0 w vI lI
  oN : ∀ b, vN.ownBlock = some b → W.heap.size ≤ b ∧ ¬ X b
  oI : ∀ b, vI.ownBlock = some b → W.heap.size ≤ b ∧ ¬ X b
  oq : W.heap.size ≤ q ∧ ¬ X q
  kx : ∀ b, X b → b < w0.heap.size ∧ w.heap[b]? = w0.heap[b]?
section
variable {W w0 : World} {X : Nat → Prop} {q : Nat} {vN0 vI0 vN vI : Value} {k y o n : Int} {lN lI : List Int} {d : Wd} {s s' : Sig} {w w' : World}
theorem RB.below (h : RB W w0 X q vN0 vI0 k y o n vN vI lN lI d s w) (hb : Below w.heap.size w w') : RB W w0 X q vN0 vI0 k y o n vN vI lN lI d s w' := by
  have hl := h.mb.lt
  exact ⟨h.mb.below hb, h.six.below hb, own_at h.rN fun b e => hb.block b (hl b (.inr (.inr (.inl ⟨e, (h.oN b e).1⟩)))), own_at h.rI fun b e => hb.block b (hl b (.inr (.inr (.inr ⟨e, (h.oI b e).1⟩)))), h.oN, h.oI, h.oq, fun b e => ⟨(h.kx b e).1, (hb.block b (hl b (.inl e))).trans (h.kx b e).2⟩⟩
/-- The nodes' row grows. -/
theorem RB.apN {g : Nat} {z : Int} (h : RB W w0 X q vN0 vI0 k y o n vN vI lN lI d s w) (hc : w.heap[g]? = some (.cells #[.int .i64 z] rfT (0, 0))) (hl : lN.length ≤ 1000) :
    ∃ A' m' c' Z, (Builtin.append_ #[38, 38] 38 #[vN, .slice (some ⟨g, 0, none⟩) 1 1]).run Try.prog w = .ok (.slice A' m' c') Z ∧ RB W w0 X q vN0 vI0 k y o n (.slice A' m' c') vI (lN ++ [z]) lI d s Z ∧ ∀ b ty, Ty w b ty → ty ≠ rfT → Z.heap[b]? = w.heap[b]? := by
  have hlt := h.mb.lt
  obtain ⟨A', m', c', Z, q1, q2, q3, q4⟩ := run_pushN rowR h.rN (sl_one9 (z := z) (num_cell hc)) (by simp; omega) (by simp)
  have keep : ∀ b ty, Ty w b ty → ty ≠ rfT → Z.heap[b]? = w.heap[b]? := fun b ty h1 h2 => q3.block b (by obtain ⟨cs, hcs⟩ := h1; exact (Array.getElem?_eq_some_iff.1 hcs).1) fun e => h2 (h1.one (own_ty h.rN e.symm))
  have hZl : ∀ b, (Value.slice A' m' c').ownBlock = some b → b < Z.heap.size := fun b e => (World.ownsRow.lt q2 b e).2
  refine ⟨A', m', c', Z, q1, ⟨h.mb.kept q3 (fun b e => ⟨.inr (.inr (.inl ⟨e, (h.oN b e).1⟩)), (h.oN b e).1⟩) ?_, (keep q _ ⟨_, h.six⟩ (by decide)).trans h.six, q2, own_at h.rI fun b e => keep b _ (own_ty h.rI e) (by decide), fun b e => ?_, h.oI, h.oq, fun b e => ⟨(h.kx b e).1, ?_⟩⟩, keep⟩
  · rintro b (e | e | e | e)
    · exact .inl (.inl e)
    · exact .inl (.inr (.inl e))
    · rcases q4 b e.1 with e2 | e2
      · exact .inl (.inr (.inr (.inl ⟨e2, e.2⟩)))
      · exact .inr ⟨e2, hZl b e.1⟩
    · exact .inl (.inr (.inr (.inr e)))
  · rcases q4 b e with e2 | e2
    · exact h.oN b e2
    · exact ⟨Nat.le_trans h.mb.bel.size e2, fun e3 => by have := hlt b (.inl e3); omega⟩
  · exact (q3.block b (hlt b (.inl e)) fun e2 => (h.oN b e2.symm).2 e).trans (h.kx b e).2
/-- The infos' row grows. -/
theorem RB.apI {g : Nat} {z : Int} (h : RB W w0 X q vN0 vI0 k y o n vN vI lN lI d s w) (hc : w.heap[g]? = some (.cells #[.int .i64 z] i6T (0, 0))) (hl : lI.length ≤ 1000) :
    ∃ A' m' c' Z, (Builtin.append_ #[37, 37] 37 #[vI, .slice (some ⟨g, 0, none⟩) 1 1]).run Try.prog w = .ok (.slice A' m' c') Z ∧ RB W w0 X q vN0 vI0 k y o n vN (.slice A' m' c') lN (lI ++ [z]) d s Z ∧ ∀ b ty, Ty w b ty → ty ≠ i6T → Z.heap[b]? = w.heap[b]? := by
  have hlt := h.mb.lt
  obtain ⟨A', m', c', Z, q1, q2, q3, q4⟩ := run_pushN rowK h.rI (sl_one9 (z := z) (num_cell hc)) (by simp; omega) (by simp)
  have keep : ∀ b ty, Ty w b ty → ty ≠ i6T → Z.heap[b]? = w.heap[b]? := fun b ty h1 h2 => q3.block b (by obtain ⟨cs, hcs⟩ := h1; exact (Array.getElem?_eq_some_iff.1 hcs).1) fun e => h2 (h1.one (own_ty h.rI e.symm))
  have hZl : ∀ b, (Value.slice A' m' c').ownBlock = some b → b < Z.heap.size := fun b e => (World.ownsRow.lt q2 b e).2
  refine ⟨A', m', c', Z, q1, ⟨h.mb.kept q3 (fun b e => ⟨.inr (.inr (.inr ⟨e, (h.oI b e).1⟩)), (h.oI b e).1⟩) ?_, (keep q _ ⟨_, h.six⟩ (by decide)).trans h.six, own_at h.rN fun b e => keep b _ (own_ty h.rN e) (by decide), q2, h.oN, fun b e => ?_, h.oq, fun b e => ⟨(h.kx b e).1, ?_⟩⟩, keep⟩
  · rintro b (e | e | e | e)
    · exact .inl (.inl e)
    · exact .inl (.inr (.inl e))
    · exact .inl (.inr (.inr (.inl e)))
    · rcases q4 b e.1 with e2 | e2
      · exact .inl (.inr (.inr (.inr ⟨e2, e.2⟩)))
      · exact .inr ⟨e2, hZl b e.1⟩
  · rcases q4 b e with e2 | e2
    · exact h.oI b e2
    · exact ⟨Nat.le_trans h.mb.bel.size e2, fun e3 => by have := hlt b (.inl e3); omega⟩
  · exact (q3.block b (hlt b (.inl e)) fun e2 => (h.oI b e2.symm).2 e).trans (h.kx b e).2
/-- A store into the variable. -/
theorem RB.set (h : RB W w0 X q vN0 vI0 k y o n vN vI lN lI d s w) {j : Nat} (v : Value) {vN1 vI1 : Value} {k1 y1 o1 n1 : Int} (h6 : Six (w.setCell ⟨q, j, none⟩ v) q vN1 vI1 k1 y1 o1 n1) : RB W w0 X q vN1 vI1 k1 y1 o1 n1 vN vI lN lI d s (w.setCell ⟨q, j, none⟩ v) := by
  have hlt := h.mb.lt
  have hne : ∀ b, b ≠ q → (w.setCell ⟨q, j, none⟩ v).heap[b]? = w.heap[b]? := fun b e => heap_setCell_other w ⟨q, j, none⟩ b v (fun e2 => e e2)
  have qN : ∀ b, vN.ownBlock = some b → b ≠ q := fun b e e2 => by
    subst e2
    exact absurd ((own_ty h.rN e).one ⟨_, h.six⟩) (by decide)
  have qI : ∀ b, vI.ownBlock = some b → b ≠ q := fun b e e2 => by
    subst e2
    exact absurd ((own_ty h.rI e).one ⟨_, h.six⟩) (by decide)
  have hg : w.grownBy (w.setCell ⟨q, j, none⟩ v) (some q) := grown_set w ⟨q, j, none⟩ v
  refine ⟨h.mb.kept hg (fun b e => by injection e with e; subst e; exact ⟨.inr (.inl rfl), h.oq.1⟩) (fun b e => .inl e), h6, own_at h.rN fun b e => hne b (qN b e), own_at h.rI fun b e => hne b (qI b e), h.oN, h.oI, h.oq, fun b e => ⟨(h.kx b e).1, (hne b fun e2 => h.oq.2 (e2 ▸ e)).trans (h.kx b e).2⟩⟩
/-- Both rows into the variable. -/
theorem RB.put (h : RB W w0 X q vN0 vI0 k y o n vN vI lN lI d s w) : RB W w0 X q vN vI k y o n vN vI lN lI d s ((w.setCell ⟨q, 0, none⟩ vN).setCell ⟨q, 1, none⟩ vI) :=
  (h.set vN (h.six.set0 vN)).set vI ((h.six.set0 vN).set1 vI)
theorem RB.new {A : Option Addr} (h : MB W X d 0 0 h0 o0 s w) (hX : ∀ b, X b → W.heap.size ≤ b) (k y o n : Int) :
    ∃ (Y : World) (q : Nat), w.alloc (.cells #[.slice none 0 0, .slice none 0 0, .int .i64 0, .int .i64 0, .int .i64 0, .int .i64 0] 55) = Y ∧ w.heap.size = q ∧ Six Y q (.slice none 0 0) (.slice none 0 0) 0 0 0 0 ∧ RB W w X q (.slice none 0 0) (.slice none 0 0) k y o n (.slice none 0 0) (.slice none 0 0) [] [] d s (put6 Y q (.slice none 0 0) (.slice none 0 0) k y o n) := by
  have b1 := below_new w (.cells #[.slice none 0 0, .slice none 0 0, .int .i64 0, .int .i64 0, .int .i64 0, .int .i64 0] 55)
  have h6 := Six.new w (b := w.heap.size) rfl (.slice none 0 0) (.slice none 0 0) 0 0 0 0
  have b3 : Below w.heap.size w (put6 (w.alloc (.cells #[.slice none 0 0, .slice none 0 0, .int .i64 0, .int .i64 0, .int .i64 0, .int .i64 0] 55)) w.heap.size (.slice none 0 0) (.slice none 0 0) k y o n) := below_put6 b1 (Nat.le_refl _)
  have hlt := h.lt
  refine ⟨_, _, rfl, rfl, h6, ⟨h.more b3 fun b e => ?_, h6.put, Row.nil _ _ _, Row.nil _ _ _, fun b e => (by cases e), fun b e => (by cases e), ⟨h.bel.size, fun e => by have := hlt _ e; omega⟩, fun b e => ⟨hlt b e, b3.block b (hlt b e)⟩⟩⟩
  rcases e with e | e | e | e
  · exact .inl e
  · exact .inr ⟨by omega, by subst e; simp⟩
  · exact absurd e.1 (by intro e; cases e)
  · exact absurd e.1 (by intro e; cases e)
theorem RB.nx {F : Nat} {args : Array Value} {a : Value} (h : RB W w0 X q vN0 vI0 k y o n vN vI lN lI d s w) (hc : ∀ FW, WS d FW w s → Calls Try.prog F args w fun e w' => e = .returned a ∧ NxW d FW w s' w') : Calls Try.prog F args w fun e w' => e = .returned a ∧ RB W w0 X q vN0 vI0 k y o n vN vI lN lI d s' w' := by
  refine (h.mb.nxK hc).mono ?_
  rintro e w' ⟨rfl, h1, hk⟩
  exact ⟨rfl, h1, h.six.kp hk (.inr (.inr (.inl rfl))), own_at h.rN fun b e => hk.block b (.inr (.inr (.inr (.inl ⟨e, (h.oN b e).1⟩)))), own_at h.rI fun b e => hk.block b (.inr (.inr (.inr (.inr ⟨e, (h.oI b e).1⟩)))), h.oN, h.oI, h.oq, fun b e => ⟨(h.kx b e).1, (hk.block b (.inr (.inl e))).trans (h.kx b e).2⟩⟩
end
end Go.Proofs.Ytfloblofdkemlaa
