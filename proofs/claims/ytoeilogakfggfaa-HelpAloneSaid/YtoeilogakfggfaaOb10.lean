/-
  What a law keeps beside its world: rows that may grow, and boxes (variables, slices made at once), each in blocks of its own.
-/
import Derived.Test.YtoeilogakfggfaaLp10
import Derived.Test.YtoeilogakfggfaaSn10
namespace Go.Proofs.Ytoeilogakfggfaa
open Go.ChangeShapes Go.WideShapes Go.ChangeAt Go.RowKit
set_option linter.unusedVariables false
set_option linter.unusedSimpArgs false
set_option maxRecDepth 20000

/-- A thing: a row of numbers, or a box. -/
inductive Thg where
  | row (v : Value) (ty : TypeId) (l : List Int)
  | box (b : Nat) (ty : TypeId) (cs : Array Value)
def Thg.blk : Thg → Option Nat
  | .row v _ _ => v.ownBlock
  | .box b _ _ => some b
def Thg.is (w : World) : Thg → Prop
  | .row v ty l => Row ty 0 w v l
  | .box b ty cs => w.heap[b]? = some (.cells cs ty (0, 0))
section
variable {w w' : World} {t : Thg}
theorem Thg.is.same (h : t.is w) (hb : ∀ b, t.blk = some b → w'.heap[b]? = w.heap[b]?) : t.is w' := by
  cases t with
  | row v ty l => exact own_at h hb
  | box b ty cs => exact (hb b rfl).trans h
theorem Thg.is.lt (h : t.is w) {b : Nat} (hb : t.blk = some b) : b < w.heap.size := by
  cases t with
  | row v ty l => exact (World.ownsRow.lt h b hb).2
  | box c ty cs => injection hb with hb; subst hb; exact (Array.getElem?_eq_some_iff.1 h).1
end
/-- Things, each in blocks of its own, beside the law's world. -/
structure ObX (W : World) (X : Nat → Prop) (d : Wd) (s : Sig) (w : World) (l : List Thg) : Prop where
  mb : MB W X d 0 0 h0 o0 s w
  own : ∀ t ∈ l, t.is w
  blk : ∀ t ∈ l, ∀ b, t.blk = some b → X b ∧ W.heap.size ≤ b
  apart : ∀ (i j : Nat) (t u : Thg) (b : Nat), l[i]? = some t → l[j]? = some u → t.blk = some b → u.blk = some b → i = j
def Ob (W : World) (d : Wd) (s : Sig) (w : World) (l : List Thg) : Prop := ∃ X, ObX W X d s w l
section
variable {W : World} {X : Nat → Prop} {d : Wd} {s s' : Sig} {w w' : World} {l : List Thg} {t : Thg} {i b : Nat} {ty : TypeId} {cs : Array Value} {v : Value} {zs : List Int}
theorem Ob.begin_ (h : MB W X d 0 0 h0 o0 s w) (hr : RowX X ty w v zs) (hv : ∀ b, v.ownBlock = some b → W.heap.size ≤ b) : Ob W d s w [.row v ty zs] := by
  refine ⟨X, h, fun t e => ?_, fun t e b hb => ?_, fun i j t u b hi hj h1 h2 => ?_⟩
  · rw [List.mem_singleton.1 e]; exact hr.row
  · rw [List.mem_singleton.1 e] at hb; exact ⟨hr.own b hb, hv b hb⟩
  · have := (List.getElem?_eq_some_iff.1 hi).1
    have := (List.getElem?_eq_some_iff.1 hj).1
    simp at *; omega
theorem Ob.below (h : Ob W d s w l) (hb : Below w.heap.size w w') : Ob W d s w' l := by
  obtain ⟨X, h1, h2, h3, h4⟩ := h
  exact ⟨X, h1.below hb, fun t e => (h2 t e).same fun b q => hb.block b ((h2 t e).lt q), h3, h4⟩
theorem Ob.drewN (h : Ob W d s w l) (q : Nat) : Ob W d s (w.drewN q) l := h.below (below_drewN (Below.refl _ w) q)
theorem Ob.bel (h : Ob W d s w l) : Below W.heap.size W w := h.choose_spec.mb.bel
theorem Ob.cells (h : Ob W d s w l) : w.cell? ⟨d.W, 0, none⟩ = some (ptr d.A) ∧ w.cell? ⟨d.W, 1, none⟩ = some (ptr d.R) := ⟨h.choose_spec.mb.cells.1, h.choose_spec.mb.cells.2.1⟩
theorem Ob.ws (h : Ob W d s w l) : ∃ FW, WS d FW w s := h.choose_spec.mb.ws
theorem Ob.at_ (h : Ob W d s w l) (hi : l[i]? = some t) : t.is w := h.choose_spec.own t (List.mem_of_getElem? hi)
theorem Ob.box_at (h : Ob W d s w l) (hi : l[i]? = some (.box b ty cs)) : w.heap[b]? = some (.cells cs ty (0, 0)) := h.at_ hi
theorem Ob.row_at (h : Ob W d s w l) (hi : l[i]? = some (.row v ty zs)) : Row ty 0 w v zs := h.at_ hi
theorem Ob.cell (h : Ob W d s w l) (hi : l[i]? = some (.box b ty cs)) {j : Nat} {u : Value} (hj : cs[j]? = some u) : w.cell? ⟨b, j, none⟩ = some u := by
  rw [cell_of_row w b _ _ _ (0, 0) (h.box_at hi)]; exact hj
theorem Ob.free (h : Ob W d s w l) (hi : l[i]? = some (.box b ty cs)) (j : Nat) : w.frozen? ⟨b, j, none⟩ = false := frozen_of_row w b j _ _ (h.box_at hi)
/-- A row's cell. -/
theorem Ob.num {A : Option Addr} {m c j : Nat} {z : Int} (h : Ob W d s w l) (hi : l[i]? = some (.row (.slice A m c) ty zs)) (hj : zs[j]? = some z) : ∃ g, A = some ⟨g, 0, none⟩ ∧ w.cell? ⟨g, j, none⟩ = some (.int .i64 z) ∧ m = zs.length := by
  obtain ⟨g, c', u, e, -, -, -, hc, -⟩ := (h.row_at hi).put (List.getElem?_eq_some_iff.1 hj).1
  have hr := (h.row_at hi).sl
  obtain ⟨b, off, e2, -, hc2⟩ := hr.at_ (List.getElem?_eq_some_iff.1 hj).1
  injection e with e1 e3 e4
  rw [e1] at e2
  injection e2 with e2
  injection e2 with e5 e6
  subst e5 e6
  refine ⟨g, e1, ?_, e3⟩
  rw [Nat.zero_add, (List.getElem?_eq_some_iff.1 hj).2] at hc2
  exact hc2
/-- A call on what is shared. -/
theorem Ob.nx {F : Nat} {args : Array Value} {a : Value} (h : Ob W d s w l) (hc : ∀ FW, WS d FW w s → Calls Try.prog F args w fun e w' => e = .returned a ∧ NxW d FW w s' w') : Calls Try.prog F args w fun e w' => e = .returned a ∧ Ob W d s' w' l := by
  obtain ⟨X, h1, h2, h3, h4⟩ := h
  refine (h1.nxK hc).mono ?_
  rintro e w' ⟨rfl, k1, k2⟩
  exact ⟨rfl, X, k1, fun t e => (h2 t e).same fun b q => k2.block b (.inr (h3 t e b q).1), h3, h4⟩
/-- One thing is another one now, in its own block or a new one; the others stay. -/
theorem Ob.put {g : Option Nat} {t' : Thg} (h : Ob W d s w l) (hi : l[i]? = some t) (hg : w.grownBy w' g) (hgt : ∀ b, g = some b → t.blk = some b) (ht : t'.is w') (hbk : ∀ b, t'.blk = some b → t.blk = some b ∨ w.heap.size ≤ b) : Ob W d s w' (l.set i t') := by
  obtain ⟨X, h1, h2, h3, h4⟩ := h
  have hlt := h1.lt
  have htm := List.mem_of_getElem? hi
  have hil := (List.getElem?_eq_some_iff.1 hi).1
  have hmem : ∀ u ∈ l.set i t', u = t' ∨ ∃ j, j ≠ i ∧ l[j]? = some u := by
    intro u hu
    obtain ⟨j, hj⟩ := List.mem_iff_getElem?.1 hu
    rw [List.getElem?_set] at hj
    by_cases e : i = j
    · subst e; rw [if_pos rfl, if_pos hil] at hj; injection hj with hj; exact .inl hj.symm
    · rw [if_neg e] at hj; exact .inr ⟨j, fun e2 => e e2.symm, hj⟩
  have hX : ∀ b, X b → X b ∨ (w.heap.size ≤ b ∧ b < w'.heap.size) := fun b e => .inl e
  refine ⟨fun b => X b ∨ t'.blk = some b, h1.kept hg (fun b e => h3 t htm b (hgt b e)) (fun b e => ?_), fun u hu => ?_, fun u hu b hb => ?_, fun a c t1 t2 b ha hc hb1 hb2 => ?_⟩
  · rcases e with e | e
    · exact .inl e
    · exact (hbk b e).imp (fun e2 => (h3 t htm b e2).1) fun e2 => ⟨e2, ht.lt e⟩
  · rcases hmem u hu with rfl | ⟨j, hj, hju⟩
    · exact ht
    · have hum := List.mem_of_getElem? hju
      refine (h2 u hum).same fun b q => hg.block b ((h2 u hum).lt q) fun e => hj ?_
      exact h4 j i u t b hju hi q (hgt b e.symm)
  · rcases hmem u hu with rfl | ⟨j, hj, hju⟩
    · exact ⟨.inr hb, (hbk b hb).elim (fun e => (h3 t htm b e).2) fun e => Nat.le_trans h1.bel.size e⟩
    · have := h3 u (List.mem_of_getElem? hju) b hb
      exact ⟨.inl this.1, this.2⟩
  · have hne : ∀ (j : Nat) (u : Thg), j ≠ i → l[j]? = some u → u.blk = some b → t'.blk = some b → False := by
      intro j u hj hju hu ht'
      rcases hbk b ht' with e | e
      · exact hj (h4 j i u t b hju hi hu e)
      · have := (h2 u (List.mem_of_getElem? hju)).lt hu; omega
    rw [List.getElem?_set] at ha hc
    by_cases e1 : i = a
    · by_cases e2 : i = c
      · omega
      · rw [if_pos e1] at ha
        rw [if_neg e2] at hc
        rw [if_pos (by omega)] at ha
        injection ha with ha
        subst ha
        exact (hne c t2 (fun e => e2 e.symm) hc hb2 hb1).elim
    · rw [if_neg e1] at ha
      by_cases e2 : i = c
      · rw [if_pos e2, if_pos (by omega)] at hc
        injection hc with hc
        subst hc
        exact (hne a t1 (fun e => e1 e.symm) ha hb1 hb2).elim
      · rw [if_neg e2] at hc
        exact h4 a c t1 t2 b ha hc hb1 hb2
/-- One more thing, in a new block or none. -/
theorem Ob.snoc {t' : Thg} (h : Ob W d s w l) (hb : Below w.heap.size w w') (ht : t'.is w') (hbk : ∀ b, t'.blk = some b → w.heap.size ≤ b) : Ob W d s w' (l ++ [t']) := by
  obtain ⟨X, h1, h2, h3, h4⟩ := h
  have hlt := h1.lt
  have hat : ∀ (j : Nat) (u : Thg), (l ++ [t'])[j]? = some u → l[j]? = some u ∨ j = l.length ∧ u = t' := by
    intro j u hj
    rcases Nat.lt_trichotomy j l.length with e | e | e
    · rw [List.getElem?_append_left e] at hj; exact .inl hj
    · subst e; rw [List.getElem?_append_right (Nat.le_refl _)] at hj; simp at hj; exact .inr ⟨rfl, hj.symm⟩
    · rw [List.getElem?_append_right (by omega)] at hj
      have := (List.getElem?_eq_some_iff.1 hj).1
      simp at this; omega
  refine ⟨fun b => X b ∨ t'.blk = some b, h1.more hb (fun b e => e.imp id fun e => ⟨hbk b e, ht.lt e⟩) (.inl rfl), fun u hu => ?_, fun u hu b hub => ?_, fun a c t1 t2 b ha hc hb1 hb2 => ?_⟩
  · rcases List.mem_append.1 hu with e | e
    · exact (h2 u e).same fun b q => hb.block b ((h2 u e).lt q)
    · rw [List.mem_singleton.1 e]; exact ht
  · rcases List.mem_append.1 hu with e | e
    · exact ⟨.inl (h3 u e b hub).1, (h3 u e b hub).2⟩
    · rw [List.mem_singleton.1 e] at hub
      exact ⟨.inr hub, Nat.le_trans h1.bel.size (hbk b hub)⟩
  · rcases hat a t1 ha with e | ⟨e, rfl⟩ <;> rcases hat c t2 hc with f | ⟨f, rfl⟩
    · exact h4 a c t1 t2 b e f hb1 hb2
    · have := (h2 t1 (List.mem_of_getElem? e)).lt hb1
      have := hbk b hb2
      omega
    · have := (h2 t2 (List.mem_of_getElem? f)).lt hb2
      have := hbk b hb1
      omega
    · omega
theorem Ob.box (h : Ob W d s w l) (cs : Array Value) (ty : TypeId) : Ob W d s (w.alloc (.cells cs ty)) (l ++ [.box w.heap.size ty cs]) :=
  h.snoc (below_new _ _) (heap_alloc_new w _) fun b e => by injection e with e; omega
theorem Ob.nil (h : Ob W d s w l) (ty : TypeId) : Ob W d s w (l ++ [.row (.slice none 0 0) ty []]) :=
  h.snoc (Below.refl _ w) (Row.nil _ _ _) fun b e => by cases e
/-- A store into a box. -/
theorem Ob.set (h : Ob W d s w l) (hi : l[i]? = some (.box b ty cs)) (j : Nat) (v : Value) : Ob W d s (w.setCell ⟨b, j, none⟩ v) (l.set i (.box b ty (cs.setIfInBounds j v))) :=
  h.put hi (grown_set w ⟨b, j, none⟩ v) (fun c e => e) (heap_setCell_same w b j _ _ v (h.box_at hi)) fun c e => .inl e
/-- A row grows. -/
theorem Ob.push {sl : TypeId} (R : RowT sl ty) {g : Nat} {z : Int} (h : Ob W d s w l) (hi : l[i]? = some (.row v ty zs)) (hc : w.cell? ⟨g, 0, none⟩ = some (.int .i64 z)) (hl : zs.length ≤ 1000) :
    ∃ A' m' c' Z, (Builtin.append_ #[sl, sl] sl #[v, .slice (some ⟨g, 0, none⟩) 1 1]).run Try.prog w = .ok (.slice A' m' c') Z ∧ Ob W d s Z (l.set i (.row (.slice A' m' c') ty (zs ++ [z]))) ∧ ∀ q, q < w.heap.size → v.ownBlock ≠ some q → Z.heap[q]? = w.heap[q]? := by
  obtain ⟨A', m', c', Z, q1, q2, q3, q4⟩ := run_pushN R (h.row_at hi) (sl_one9 hc) (by simp; omega) (by simp)
  exact ⟨A', m', c', Z, q1, h.put hi q3 (fun c e => e) q2 q4, fun q hq hne => q3.block q hq fun e => hne e.symm⟩
end
end Go.Proofs.Ytoeilogakfggfaa
