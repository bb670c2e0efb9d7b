/-
  Memory that the calls of layer 2 make: a row of pairs of the call's own ('Own'), a pair put behind it, a copy of pairs into it.
-/
import Derived.Test.YtmnbdhngadjmiaaMem8
import Derived.OwnWalk
import Derived.Laws.CopyOwn
import Derived.Deep.AppendLies
namespace Go.Proofs.Ytmnbdhngadjmiaa
open Go.RowKit

theorem pair_info : (Try.prog.info? 119).map (fun i => (i.zero, i.size, i.bytes)) = some (some (.agg #[.int .i64 0, .int .i64 0]), 2, 16) := by kernel_rfl
theorem int64_info : (Try.prog.info? 2).map (fun i => (i.zero, i.size, i.bytes)) = some (some (.int .i64 0), 1, 8) := by kernel_rfl
theorem pair_size : (Try.prog.info? 119).map (·.size) = some 2 := by kernel_rfl

/-- v is a row that was made since w0, and reads as l; what lay in w0 lies as it lay. -/
def Own (w0 w : World) (v : Value) (l : List (Int × Int)) : Prop :=
  w.ownsRow w0.heap.size 119 2 v l.length (cellsP l) ∧ Below w0.heap.size w0 w

section
variable {w0 w w' : World} {v : Value} {l : List (Int × Int)}
theorem Own.nil (w0 : World) : Own w0 w0 (.slice none 0 0) [] := ⟨World.ownsRow_nil _ _ _ _, Below.refl _ _⟩
theorem Own.nil' (h : Below w0.heap.size w0 w) : Own w0 w (.slice none 0 0) [] := ⟨World.ownsRow_nil _ _ _ _, h⟩
theorem Own.below (h : Own w0 w v l) : Below w0.heap.size w0 w := h.2
theorem Own.size (h : Own w0 w v l) : w0.heap.size ≤ w.heap.size := h.2.size
theorem Own.alloc (h : Own w0 w v l) (o : Obj) : Own w0 (w.alloc o) v l := ⟨h.1.alloc o, h.2.alloc h.2.size o⟩
theorem Own.drewN (h : Own w0 w v l) (n : Nat) : Own w0 (w.drewN n) v l := ⟨h.1, below_drewN h.2 n⟩
/-- The row lies below what comes next. -/
theorem Own.block_lt (h : Own w0 w v l) : ∀ k, v.ownBlock = some k → w0.heap.size ≤ k ∧ k < w.heap.size := h.1.lt
theorem Own.next (h : Own w0 w v l) (hb : Below w.heap.size w w') : Own w0 w' v l := by
  refine ⟨h.1.kept (row := none) ⟨hb.os, hb.tape, hb.output, hb.size, fun k hk _ => hb.block k hk⟩ ?_, h.2.trans (hb.mono h.2.size)⟩
  cases v.ownBlock with
  | none => exact .inl rfl
  | some _ => exact .inr (by simp)
/-- Its form. -/
theorem Own.form (h : Own w0 w v l) : ∃ A c, v = .slice A l.length c ∧ l.length ≤ c ∧ c ≤ maxLen ∧ Lf w A l.length l := by
  have hl := h.1
  rcases h.1.2 with ⟨rfl, h0⟩ | ⟨g, cap, cur, rfl, _, _, h1, h2, _⟩
  · have e : l = [] := List.eq_nil_of_length_eq_zero h0
    subst e
    exact ⟨none, 0, rfl, Nat.le_refl _, Nat.zero_le _, Lf.nil _ _⟩
  · exact ⟨_, cap, rfl, h1, h2, Lf.of_own hl⟩
end

/-- Counted from an earlier world on. -/
theorem Own.since {w0 w1 w2 : World} {v : Value} {l : List (Int × Int)} (h : Own w1 w2 v l) (hb : Below w0.heap.size w0 w1) : Own w0 w2 v l := by
  obtain ⟨⟨h1, h2⟩, h3⟩ := h
  refine ⟨⟨h1, ?_⟩, hb.trans (h3.mono hb.size)⟩
  rcases h2 with h2 | ⟨g, cap, cur, e, hg, r⟩
  · exact .inl h2
  · exact .inr ⟨g, cap, cur, e, Nat.le_trans hb.size hg, r⟩

section
variable {ops : Array Oper} {rest : List Oper} {o : Oper} {a : Act} {Q : Exit → Act → World → Prop}

/-- 'append(out, p)': a pair behind a row of the call's own. -/
theorem push {w0 w : World} (hg : o.guard = none) (s x : Operand) (ho : o.op = .call { callee := .builtin .append, args := #[s, x], argTypes := #[36, 36] })
    (v : Value) (l : List (Int × Int)) (hs : a.eval s = v) (hown : Own w0 w v l) (g : Nat) (p : Int × Int) (hx : a.eval x = .slice (some ⟨g, 0, none⟩) 1 1)
    (h1 : w.cell? ⟨g, 0, none⟩ = some (.int .i64 p.1)) (h2 : w.cell? ⟨g, 1, none⟩ = some (.int .i64 p.2)) (hlen : l.length ≤ 100000)
    (h : ∀ v' w', Own w0 w' v' (l ++ [p]) → (∀ b o', w0.heap.size ≤ b → b < w.heap.size → v.ownBlock ≠ some b → w'.cell? ⟨b, o', none⟩ = w.cell? ⟨b, o', none⟩) → w.heap.size ≤ w'.heap.size → wpList Try.prog ops Q rest (a.put o.dst v') w') :
    wpList Try.prog ops Q (o :: rest) a w := by
  obtain ⟨i0, hi0, hz0, hz1, hz2⟩ := info_parts pair_info
  refine wpList_append_own _ hg s x _ ho w0.heap.size 119 i0 _ 2 16 Try.underlying36 hi0 hz0 hz1 hz2 rfl (by omega) v l.length (cellsP l) hs hown.1 ⟨g, 0, none⟩ 1 1 (cellsP [p]) hx rfl ?_ (cellsP_oneCell _) ?_ ?_ hown.size ?_
  · intro j u hj
    match j, hj with
    | 0, hj => simp [cellsP] at hj; subst hj; exact h1
    | 1, hj => simp [cellsP] at hj; subst hj; exact h2
  · unfold maxLen; omega
  · omega
  · intro v' w' h3 h4 _
    refine h v' w' ⟨by simpa [cellsP_append] using h3, hown.2.grown h4 hown.size fun k hk => (hown.1.lt k hk).1⟩ (fun b o' _ hb hne => ?_) h4.size
    exact World.cell?_of_block (w := w) (h4.block b hb (fun e => hne e.symm))

/-- 'append(out, src...)': pairs that are read at their place, behind a row of the call's own. -/
theorem pushAll {w0 w : World} (hg : o.guard = none) (s x : Operand) (ho : o.op = .call { callee := .builtin .append, args := #[s, x], argTypes := #[36, 36] })
    (v : Value) (l : List (Int × Int)) (hs : a.eval s = v) (hown : Own w0 w v l) (A : Option Addr) (n c : Nat) (m : List (Int × Int)) (hx : a.eval x = .slice A n c) (hm : Lf w A n m) (hlen : l.length + m.length ≤ 100000)
    (hne : m = [] → A = none → c = 0)
    (h : ∀ v' w', Own w0 w' v' (l ++ m) → (∀ b o', w0.heap.size ≤ b → b < w.heap.size → v.ownBlock ≠ some b → w'.cell? ⟨b, o', none⟩ = w.cell? ⟨b, o', none⟩) → w.heap.size ≤ w'.heap.size → wpList Try.prog ops Q rest (a.put o.dst v') w') :
    wpList Try.prog ops Q (o :: rest) a w := by
  obtain ⟨i0, hi0, hz0, hz1, hz2⟩ := info_parts pair_info
  have hn := hm.1
  cases A with
  | none =>
    have e : m = [] := by
      rcases hm.2 with e | ⟨_, _, e, _⟩
      · exact e
      · cases e
    subst e
    obtain rfl : c = 0 := hne rfl rfl
    obtain rfl : n = 0 := by simpa using hn
    have hr := run_append_owned_none (P := Try.prog) w w0.heap.size 36 o.type 119 i0 2 Try.underlying36 hi0 v l.length (cellsP l) hown.1
    refine wpList_plain hg fun K hK => ?_
    unfold Oper.wp execOp
    simp only [ho, resolve, invoke, builtin, Sem.run_bind, Sem.run_pure, Result.andThen_ok, List.map_toArray, List.map_cons, List.map_nil, hs, hx, hr]
    exact hK _ _ (h v w (by simpa using hown) (fun _ _ _ _ _ => rfl) (Nat.le_refl _))
  | some ad =>
    refine wpList_append_own _ hg s x _ ho w0.heap.size 119 i0 _ 2 16 Try.underlying36 hi0 hz0 hz1 hz2 rfl (by omega) v l.length (cellsP l) hs hown.1 ad n c (cellsP m) hx (by rw [cellsP_length, hn]) ?_ (cellsP_oneCell _) ?_ ?_ hown.size ?_
    · intro j u hj
      rcases hm.2 with e | ⟨b, off, e, hc⟩
      · subst e; simp [cellsP] at hj
      · have e := Option.some.inj e
        subst e
        have := hc j u hj
        unfold Addr.add
        split
        · rename_i e0; subst e0; exact this
        · exact this
    · unfold maxLen; omega
    · omega
    · intro v' w' h3 h4 _
      refine h v' w' ⟨by simpa [cellsP_append, hn] using h3, hown.2.grown h4 hown.size fun k hk => (hown.1.lt k hk).1⟩ (fun b o' _ hb hne => ?_) h4.size
      exact World.cell?_of_block (w := w) (h4.block b hb (fun e => hne e.symm))
end
end Go.Proofs.Ytmnbdhngadjmiaa
