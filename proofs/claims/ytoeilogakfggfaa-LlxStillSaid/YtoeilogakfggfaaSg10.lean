/-
  Law LlxStale's state: its threads by where they lie and what is left of them; what each call makes of it.
-/
import Derived.Test.YtoeilogakfggfaaSm10
namespace Go.Proofs.Ytoeilogakfggfaa
open Go.ChangeShapes Go.WideShapes Go.ChangeAt Go.RowKit
set_option linter.unusedVariables false
set_option linter.unusedSimpArgs false
set_option maxRecDepth 20000

/-- The threads are those of the list. -/
def PsR (nds : List (Int × Nd)) (hs : Nat → Hp) (os : Nat → Ts) (ps : List (Nat × Ts)) : Prop := ∀ i a o, ps[i]? = some (a, o) → os i = o ∧ (hs i).a = a ∧ (hs i).P = Stt nds 40
/-- Threads, the world, the nodes' slice, its box. -/
def SG (W : World) (v : Value) (bx : Nat) (d : Wd) (k T : Nat) (s : Sig) (w : World) (ps : List (Nat × Ts)) : Prop := ∃ X hs os, MB W X d ps.length T hs os s w ∧ RowX X rfT w v (refN k) ∧ w.cell? ⟨bx, 0, none⟩ = some v ∧ X bx ∧ PsR (ndsN k) hs os ps
section
variable {W : World} {X : Nat → Prop} {v : Value} {bx k T n : Nat} {d : Wd} {hs : Nat → Hp} {os : Nat → Ts} {s s' : Sig} {w w' : World} {ps : List (Nat × Ts)} {i a : Nat} {o : Ts} {nds : List (Int × Nd)}
theorem PsR.snoc {x : Hp} (h : PsR nds hs os ps) (hP : x.P = Stt nds 40) : PsR nds (upd hs ps.length x) (upd os ps.length o) (ps ++ [(x.a, o)]) := by
  intro i a' o' e
  by_cases hi : i = ps.length
  · subst hi
    simp at e
    rw [upd_at, upd_at]
    exact ⟨e.2, e.1, hP⟩
  · have hl : i < ps.length := by
      have := (List.getElem?_eq_some_iff.1 e).1
      simp at this; omega
    rw [List.getElem?_append_left hl] at e
    rw [upd_ne _ _ hi, upd_ne _ _ hi]
    exact h i a' o' e
theorem PsR.put {o2 : Ts} (h : PsR nds hs os ps) (hi : ps[i]? = some (a, o)) : PsR nds hs (upd os i o2) (ps.set i (a, o2)) := by
  intro j a' o' e
  by_cases hj : j = i
  · subst hj
    have hl := (List.getElem?_eq_some_iff.1 hi).1
    rw [List.getElem?_set_self hl] at e
    injection e with e; injection e with e1 e2
    subst e1 e2
    rw [upd_at]
    exact ⟨rfl, (h j a o hi).2⟩
  · rw [List.getElem?_set_ne (fun f => hj f.symm)] at e
    rw [upd_ne _ _ hj]
    exact h j a' o' e
theorem SG.lg {t : TypeId} (h : LG W X v d k 0 0 h0 o0 s w) : SG W v w.heap.size d k 0 s (w.alloc (.cells #[v] t)) [] := by
  have bZ : Below w.heap.size w (w.alloc (.cells #[v] t)) := below_new _ _
  have hZ : (w.alloc (.cells #[v] t)).cell? ⟨w.heap.size, 0, none⟩ = some v := c_new rfl rfl
  have hbZ := World.block_lt_of_cell? _ _ hZ
  exact ⟨fun q => X q ∨ q = w.heap.size, h0, o0, h.mb.more bZ (fun q e => e.imp id fun e => ⟨Nat.le_of_eq e.symm, by rw [e]; exact hbZ⟩) (.inl rfl), (h.row.kp (h.mb.kb bZ)).mono fun b e => .inl e, hZ, .inr rfl, fun i a o e => by cases e⟩
theorem SG.below (h : SG W v bx d k T s w ps) (hb : Below w.heap.size w w') : SG W v bx d k T s w' ps := by
  obtain ⟨X, hs, os, h1, h2, h3, h4, h5⟩ := h
  exact ⟨X, hs, os, h1.below hb, h2.kp (h1.kb hb), below_read hb h3, h4, h5⟩
theorem SG.bel (h : SG W v bx d k T s w ps) : Below W.heap.size W w := by
  obtain ⟨X, hs, os, h1, h2, h3, h4, h5⟩ := h
  exact h1.bel
theorem SG.cells (h : SG W v bx d k T s w ps) : w.cell? ⟨d.W, 0, none⟩ = some (ptr d.A) ∧ w.cell? ⟨d.W, 1, none⟩ = some (ptr d.R) ∧ w.cell? ⟨bx, 0, none⟩ = some v := by
  obtain ⟨X, hs, os, h1, h2, h3, h4, h5⟩ := h
  exact ⟨h1.cells.1, h1.cells.2.1, h3⟩
theorem SG.at_ {g m c : Nat} (h : SG W (.slice (some ⟨g, 0, none⟩) m c) bx d k T s w ps) {j : Nat} (hj : j < k) : w.cell? ⟨g, j, none⟩ = some (.int .i64 (rfN j)) := by
  obtain ⟨X, hs, os, h1, h2, h3, h4, h5⟩ := h
  obtain ⟨g', c', hv, -, hc⟩ := h2.at_ (refN_at (k := k) (i := j) hj)
  injection hv with e5 e6 e4
  injection e5 with e5
  injection e5 with e5
  subst e5
  exact hc
/-- A Step. -/
theorem SG.step (h : SG W v bx d k T s w ps) (hi : ps[i]? = some (a, o)) (hP : o.done = false → Stt (ndsN k) 40 s ∧ Fit s) (hO : stO o s) (hT : T ≤ 440) :
    Calls Try.prog 36 #[ptr a] w fun e w' => e = .returned (.bool (nxT o s).1.done) ∧ SG W v bx d k (T + 1) (nxT o s).2 w' (ps.set i (a, (nxT o s).1)) := by
  obtain ⟨X, hs, os, h1, h2, h3, h4, h5⟩ := h
  obtain ⟨g1, g2, g3⟩ := h5 i a o hi
  have hl := (List.getElem?_eq_some_iff.1 hi).1
  have := h1.me.step hl (by rw [g1, g3]; exact hP) (by rw [g1]; exact hO) hT
  rw [g1, g2] at this
  refine this.mono ?_
  rintro e w' ⟨rfl, k1, k2⟩
  exact ⟨rfl, X, hs, _, by rw [List.length_set]; exact h1.kp k1 k2, h2.kp k2, cell_same (k2.block bx (.inr h4)) h3, h4, h5.put hi⟩
/-- Alone, to its end. -/
theorem SG.alone {u : Tr (List Int)} {M : Nat} {b : List Int} (h : SG W v bx d k T s w ps) (hi : ps[i]? = some (a, .run u)) (hr : RJ (ndsN k) 40 2 u s) (hI : Inv 2 (M + 1) s) (hS : Stt (ndsN k) 40 s) (he : (ev u s).1 = b) (hm : (ev u s).2.2 ≤ M) (hT : T + M ≤ 430) (hlen : b.length ≤ 1000) :
    Calls Try.prog 11 #[ptr a] w fun e w' => ∃ A q c kz, e = .returned (.tuple #[.slice A q c, .int .i64 kz, .bool true]) ∧ SG W v bx d k (T + M + 1) (ev u s).2.1 w' (ps.set i (a, .fin b)) := by
  obtain ⟨X, hs, os, h1, h2, h3, h4, h5⟩ := h
  obtain ⟨g1, g2, g3⟩ := h5 i a _ hi
  have hl := (List.getElem?_eq_some_iff.1 hi).1
  have := h1.alone (i := i) (M := M) (L := 2) (nds := ndsN k) (Mx := 40) hl (by rw [g1, nrm_nl hr.nl]) g3 hI hS hr.tj hr.kp hr.gd (Prod.ext he (Prod.ext rfl rfl)) hT hm hlen rfl
  rw [g2] at this
  refine this.mono ?_
  rintro e w' ⟨A, q, c, rfl, -, k1, k2⟩
  exact ⟨A, q, c, _, rfl, X, hs, _, by rw [List.length_set]; exact k1, h2.kp k2, cell_same (k2.block bx (.inr h4)) h3, h4, h5.put hi⟩
theorem SG.ws (h : SG W v bx d k T s w ps) : ∃ FW, WS d FW w s := by
  obtain ⟨X, hs, os, h1, h2, h3, h4, h5⟩ := h
  exact h1.ws
end
end Go.Proofs.Ytoeilogakfggfaa
