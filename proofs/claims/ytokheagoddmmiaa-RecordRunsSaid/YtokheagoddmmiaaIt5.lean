/-
  Words for a table of records (the program's items, the law's entries): plain data, its cells, what is read in them, what a store or an append makes of them.
-/
import Derived.Test.YtokheagoddmmiaaConcat5
namespace Go.Proofs.Ytokheagoddmmiaa
open Go.RowKit
set_option linter.unusedVariables false
set_option maxRecDepth 20000

/-- A record as plain data. -/
structure Rc where
  ns : List Int
  is : List Int
  kp : Int
  wy : Int
  od : Int
  nw : Int
def Rc.nil : Rc := ⟨[], [], 0, 0, 0, 0⟩
/-- A record, its state, whether all is set; where its two lists lie. -/
structure It where
  rc : Rc
  st : Int
  all : Bool
  nv : Value
  iv : Value
/-- A record's value. -/
abbrev rcv (u v : Value) (r : Rc) : Value := .agg #[u, v, .int .i64 r.kp, .int .i64 r.wy, .int .i64 r.od, .int .i64 r.nw]
def cellsOf (x : It) : List Value := [x.nv, x.iv, .int .i64 x.rc.kp, .int .i64 x.rc.wy, .int .i64 x.rc.od, .int .i64 x.rc.nw, .int .u8 x.st, .bool x.all]
theorem cellsOf_length (x : It) : (cellsOf x).length = 8 := rfl
def rowOf : List It → List Value
  | [] => []
  | x :: l => cellsOf x ++ rowOf l
theorem rowOf_length (l : List It) : (rowOf l).length = l.length * 8 := by
  induction l with
  | nil => rfl
  | cons x l ih => simp [rowOf, cellsOf_length, ih]; omega
theorem rowOf_append (a b : List It) : rowOf (a ++ b) = rowOf a ++ rowOf b := by
  induction a with
  | nil => rfl
  | cons x l ih => simp [rowOf, ih]
theorem rowOf_at {l : List It} {i : Nat} {x : It} (h : l[i]? = some x) {j : Nat} (hj : j < 8) : (rowOf l)[i * 8 + j]? = (cellsOf x)[j]? := by
  induction l generalizing i with
  | nil => simp at h
  | cons q l ih =>
    cases i with
    | zero => simp at h; subst h; rw [rowOf, Nat.zero_mul, Nat.zero_add, List.getElem?_append_left (by rw [cellsOf_length]; exact hj)]
    | succ i =>
      rw [rowOf, List.getElem?_append_right (by rw [cellsOf_length]; omega), cellsOf_length]
      simp at h
      rw [← ih h]
      congr 1; omega
/-- The row with one cell written. -/
theorem rowOf_set1 {l : List It} {i : Nat} {x y : It} (h : l[i]? = some x) {j : Nat} (hj : j < 8) (u : Value) (hy : cellsOf y = (cellsOf x).set j u) : (rowOf l).set (i * 8 + j) u = rowOf (l.set i y) := by
  induction l generalizing i with
  | nil => simp at h
  | cons q l ih =>
    cases i with
    | zero => simp at h; subst h; rw [rowOf, Nat.zero_mul, Nat.zero_add, List.set_append_left _ _ (by rw [cellsOf_length]; exact hj), List.set_cons_zero, rowOf, hy]
    | succ i =>
      rw [rowOf, List.set_append_right _ _ (by rw [cellsOf_length]; omega), cellsOf_length, List.set_cons_succ, rowOf]
      simp at h
      rw [← ih h]
      congr 2; omega
theorem rowOf_split (l : List It) (i : Nat) (x : It) (h : l[i]? = some x) : ∃ A B, A.length = i * 8 ∧ rowOf l = A ++ (cellsOf x ++ B) ∧ ∀ y, rowOf (l.set i y) = A ++ (cellsOf y ++ B) := by
  have hl : i < l.length := (List.getElem?_eq_some_iff.1 h).1
  refine ⟨rowOf (l.take i), rowOf (l.drop (i + 1)), by rw [rowOf_length, List.length_take]; omega, ?_, fun y => ?_⟩
  · have e : l = l.take i ++ (x :: l.drop (i + 1)) := by
      have e2 : l[i] = x := (List.getElem?_eq_some_iff.1 h).2
      rw [← e2, ← List.drop_eq_getElem_cons hl, List.take_append_drop]
    conv => lhs; rw [e]
    rw [rowOf_append]; rfl
  · rw [List.set_eq_take_append_cons_drop, if_pos hl, rowOf_append]; rfl

/-- An item's two lists lie in blocks of F, and read as the record has them. -/
structure ItM (w : World) (F : Nat → Prop) (x : It) : Prop where
  ns : Row 30 0 w x.nv x.rc.ns
  is : Row 2 0 w x.iv x.rc.is
  own : ∀ b, x.nv.ownBlock = some b ∨ x.iv.ownBlock = some b → F b
  few : x.rc.ns.length ≤ 20 ∧ x.rc.is.length ≤ 20
section
variable {F G : Nat → Prop} {w w' : World} {x : It} {l : List It} {t : TypeId} {P : Value} {i : Nat}
theorem ItM.keep (h : ItM w F x) (hb : ∀ b, F b → w'.heap[b]? = w.heap[b]?) : ItM w' F x :=
  ⟨own_at h.ns fun b e => hb b (h.own b (.inl e)), own_at h.is fun b e => hb b (h.own b (.inr e)), h.own, h.few⟩
theorem ItM.mono (h : ItM w F x) (hs : ∀ b, F b → G b) : ItM w G x := ⟨h.ns, h.is, fun b e => hs b (h.own b e), h.few⟩
/-- A block of another kind is none of its. -/
theorem ItM.not (h : ItM w F x) {b : Nat} (ht : Ty w b t) (h1 : t ≠ 30) (h2 : t ≠ 2) : ¬ (x.nv.ownBlock = some b ∨ x.iv.ownBlock = some b) := by
  rintro (e | e)
  · exact h1 (ht.one (own_ty h.ns e))
  · exact h2 (ht.one (own_ty h.is e))

/-- P is a row of items (of kind t) that reads as l; all of it lies in blocks of F. -/
structure Its (t : TypeId) (F : Nat → Prop) (w : World) (P : Value) (l : List It) : Prop where
  lt : ∀ b, F b → b < w.heap.size
  row : w.ownsRow 0 t 8 P l.length (rowOf l)
  frow : ∀ b, P.ownBlock = some b → F b
  mem : ∀ x ∈ l, ItM w F x

theorem Its.nil (t : TypeId) (w : World) : Its t (fun _ => False) w (.slice none 0 0) [] := ⟨fun _ e => e.elim, World.ownsRow_nil _ _ _ _, fun b e => (by cases e), fun x hx => (by cases hx)⟩
theorem Its.keep (h : Its t F w P l) (hb : ∀ b, F b → w'.heap[b]? = w.heap[b]?) (hs : w.heap.size ≤ w'.heap.size) : Its t F w' P l :=
  ⟨fun b e => Nat.lt_of_lt_of_le (h.lt b e) hs, own_at h.row fun b e => hb b (h.frow b e), h.frow, fun x hx => (h.mem x hx).keep hb⟩
theorem Its.below (h : Its t F w P l) (hb : Below w.heap.size w w') : Its t F w' P l := h.keep (fun b hF => hb.block b (h.lt b hF)) hb.size
theorem Its.only (h : Its t F w P l) (hb : Only G w w') (hd : ∀ b, F b → ¬ G b) : Its t F w' P l := h.keep (fun b hF => hb.block b (h.lt b hF) (hd b hF)) hb.size
/-- Its form. -/
theorem Its.form (h : Its t F w P l) : ∃ A c, P = .slice A l.length c ∧ l.length ≤ c ∧ c ≤ maxLen := by
  rcases h.row.2 with ⟨rfl, h0⟩ | ⟨g, cap, cur, rfl, _, _, h1, h2, _⟩
  · exact ⟨none, 0, by rw [h0], by omega, Nat.zero_le _⟩
  · exact ⟨_, cap, rfl, h1, h2⟩
/-- An item's cells. -/
theorem Its.cells (h : Its t F w P l) (hi : l[i]? = some x) : ∃ g c, P = .slice (some ⟨g, 0, none⟩) l.length c ∧ g < w.heap.size ∧ F g ∧ Ty w g t ∧ l.length ≤ c ∧ c ≤ maxLen ∧
    w.cell? ⟨g, i * 8, none⟩ = some x.nv ∧ w.cell? ⟨g, i * 8 + 1, none⟩ = some x.iv ∧ w.cell? ⟨g, i * 8 + 2, none⟩ = some (.int .i64 x.rc.kp) ∧ w.cell? ⟨g, i * 8 + 3, none⟩ = some (.int .i64 x.rc.wy) ∧ w.cell? ⟨g, i * 8 + 4, none⟩ = some (.int .i64 x.rc.od) ∧ w.cell? ⟨g, i * 8 + 5, none⟩ = some (.int .i64 x.rc.nw) ∧ w.cell? ⟨g, i * 8 + 6, none⟩ = some (.int .u8 x.st) ∧ w.cell? ⟨g, i * 8 + 7, none⟩ = some (.bool x.all) ∧ ∀ j, w.frozen? ⟨g, j, none⟩ = false := by
  have hr := h.row
  have hil : i < l.length := (List.getElem?_eq_some_iff.1 hi).1
  rcases h.row.2 with ⟨rfl, h0⟩ | ⟨g, cap, cur, rfl, _, hg, h1, h2, _⟩
  · omega
  · have hc : ∀ j, j < 8 → w.cell? ⟨g, i * 8 + j, none⟩ = (cellsOf x)[j]? := fun j hj => by
      rw [World.ownsRow.cellAt hr (i * 8 + j) (by omega), rowOf_at hi hj]
    exact ⟨g, cap, rfl, (Array.getElem?_eq_some_iff.1 hg).1, h.frow g rfl, ⟨cur, hg⟩, h1, h2, hc 0 (by omega), hc 1 (by omega), hc 2 (by omega), hc 3 (by omega), hc 4 (by omega), hc 5 (by omega), hc 6 (by omega), hc 7 (by omega), fun j => World.ownsRow.frozenAt hr j⟩

/-- Behind a change of the row alone. -/
theorem Its.changed {l' : List It} (h : Its t F w P l) (hg : w.grownBy w' P.ownBlock) (hrow : w'.ownsRow 0 t 8 P l'.length (rowOf l')) (hmem : ∀ x ∈ l', ItM w F x) (h1 : t ≠ 30) (h2 : t ≠ 2) : Its t F w' P l' :=
  ⟨fun b e => Nat.lt_of_lt_of_le (h.lt b e) hg.size, hrow, h.frow, fun x hx => by
    have hm := hmem x hx
    have hk : ∀ b, (x.nv.ownBlock = some b ∨ x.iv.ownBlock = some b) → w'.heap[b]? = w.heap[b]? := fun b e => hg.block b (h.lt b (hm.own b e)) (fun eb => hm.not (own_ty h.row eb.symm) h1 h2 e)
    exact ⟨own_at hm.ns fun b e => hk b (.inl e), own_at hm.is fun b e => hk b (.inr e), hm.own, hm.few⟩⟩

/-- One cell of an item is written: its state, or whether all is set. -/
theorem Its.setCell1 (h : Its t F w P l) (hi : l[i]? = some x) {g c : Nat} (hP : P = .slice (some ⟨g, 0, none⟩) l.length c) {j : Nat} (hj : j < 8) (u : Value) (y : It) (hc : cellsOf y = (cellsOf x).set j u) (hnv : y.nv = x.nv) (hiv : y.iv = x.iv) (hrc : y.rc = x.rc) (h1 : t ≠ 30) (h2 : t ≠ 2) :
    Its t F (w.setCell ⟨g, i * 8 + j, none⟩ u) P (l.set i y) := by
  have hm := h.mem x (List.mem_of_getElem? hi)
  have hr := h.row
  have h0 := h
  subst hP
  have hst := World.ownsRow.stored hr (i * 8 + j) u
  rw [rowOf_set1 hi hj u hc] at hst
  refine h0.changed hst.2 (by rw [List.length_set]; exact hst.1) (fun z hz => ?_) h1 h2
  rcases List.mem_or_eq_of_mem_set hz with hz | rfl
  · exact h.mem z hz
  · exact ⟨by rw [hnv, hrc]; exact hm.ns, by rw [hiv, hrc]; exact hm.is, by rw [hnv, hiv]; exact hm.own, by rw [hrc]; exact hm.few⟩

theorem own_mid {g n c j : Nat} {A M B : List Value} (hr : w.ownsRow 0 t 8 (.slice (some ⟨g, 0, none⟩) n c) n (A ++ (M ++ B))) (hA : A.length = i * 8) (hj : j < M.length) (u : Value) :
    (w.setCell ⟨g, i * 8 + j, none⟩ u).ownsRow 0 t 8 (.slice (some ⟨g, 0, none⟩) n c) n (A ++ (M.set j u ++ B)) := by
  have := (World.ownsRow.stored hr (i * 8 + j) u).1
  rwa [set_mid hA hj] at this

/-- An item is put behind the row. -/
theorem Its.push (h : Its t F w P l) {w2 : World} {P2 : Value} (hx : ItM w G x) (hGF : ∀ b, F b → G b) (hG : ∀ b, G b → b < w.heap.size) (h1 : t ≠ 30) (h2 : t ≠ 2)
    (hrow : w2.ownsRow 0 t 8 P2 (l.length + 1) (rowOf l ++ cellsOf x)) (hg : w.grownBy w2 P.ownBlock) (hP2 : ∀ b, P2.ownBlock = some b → P.ownBlock = some b ∨ w.heap.size ≤ b) :
    Its t (fun b => G b ∨ P2.ownBlock = some b) w2 P2 (l ++ [x]) := by
  have hk : ∀ y, ItM w G y → ItM w2 G y := fun y hm => by
    have hk : ∀ b, (y.nv.ownBlock = some b ∨ y.iv.ownBlock = some b) → w2.heap[b]? = w.heap[b]? := fun b e => hg.block b (hG b (hm.own b e)) (fun eb => hm.not (own_ty h.row eb.symm) h1 h2 e)
    exact ⟨own_at hm.ns fun b e => hk b (.inl e), own_at hm.is fun b e => hk b (.inr e), hm.own, hm.few⟩
  refine ⟨fun b e => ?_, ?_, fun b e => .inr e, fun y hy => ?_⟩
  · rcases e with e | e
    · exact Nat.lt_of_lt_of_le (hG b e) hg.size
    · exact (World.ownsRow.lt hrow b e).2
  · rw [List.length_append, rowOf_append]
    simpa [rowOf] using hrow
  · rcases List.mem_append.1 hy with hy | hy
    · exact (hk y ((h.mem y hy).mono hGF)).mono fun b e => .inl e
    · rw [List.mem_singleton] at hy
      subst hy
      exact (hk _ hx).mono fun b e => .inl e
end
end Go.Proofs.Ytokheagoddmmiaa
