/-
  The record's memory and its calls.
-/
import Derived.Test.YtcegianjpifnbaaGreatPa
namespace Go.Proofs.YtcegianjpifnbaaGreat
open Go.RowKit
set_option linter.unusedVariables false
set_option maxRecDepth 20000

/-- A record as plain data. -/
structure Rc where
  ns : List Int
  is : List Int
  kp : Int
  wy : Int
  od : Int
  nw : Int
def Rc.nil : Rc := ⟨[], [], 0, 0, 0, 0⟩
/-- A record, its state, whether all is set; where its two lists lie. -/
structure It where
  rc : Rc
  st : Int
  all : Bool
  nv : Value
  iv : Value
/-- A record's value. -/
abbrev rcv (u v : Value) (r : Rc) : Value := .agg #[u, v, .int .i64 r.kp, .int .i64 r.wy, .int .i64 r.od, .int .i64 r.nw]
def cellsJt (x : It) : List Value := [x.nv, x.iv, .int .i64 x.rc.kp, .int .i64 x.rc.wy, .int .i64 x.rc.od, .int .i64 x.rc.nw, .int .u8 x.st, .bool x.all]
theorem cellsJt_length (x : It) : (cellsJt x).length = 8 := rfl
def rowJt : List It → List Value
  | [] => []
  | x :: l => cellsJt x ++ rowJt l
theorem rowJt_length (l : List It) : (rowJt l).length = l.length * 8 := by
  induction l with
  | nil => rfl
  | cons x l ih => simp [rowJt, cellsJt_length, ih]; omega
theorem rowJt_append (a b : List It) : rowJt (a ++ b) = rowJt a ++ rowJt b := by
  induction a with
  | nil => rfl
  | cons x l ih => simp [rowJt, ih]
theorem rowJt_at {l : List It} {i : Nat} {x : It} (h : l[i]? = some x) {j : Nat} (hj : j < 8) : (rowJt l)[i * 8 + j]? = (cellsJt x)[j]? := by
  induction l generalizing i with
  | nil => simp at h
  | cons q l ih =>
    cases i with
    | zero => simp at h; subst h; rw [rowJt, Nat.zero_mul, Nat.zero_add, List.getElem?_append_left (by rw [cellsJt_length]; exact hj)]
    | succ i =>
      rw [rowJt, List.getElem?_append_right (by rw [cellsJt_length]; omega), cellsJt_length]
      simp at h
      rw [← ih h]
      congr 1; omega
/-- The row with one cell written. -/
theorem rowJt_set1 {l : List It} {i : Nat} {x y : It} (h : l[i]? = some x) {j : Nat} (hj : j < 8) (u : Value) (hy : cellsJt y = (cellsJt x).set j u) : (rowJt l).set (i * 8 + j) u = rowJt (l.set i y) := by
  induction l generalizing i with
  | nil => simp at h
  | cons q l ih =>
    cases i with
    | zero => simp at h; subst h; rw [rowJt, Nat.zero_mul, Nat.zero_add, List.set_append_left _ _ (by rw [cellsJt_length]; exact hj), List.set_cons_zero, rowJt, hy]
    | succ i =>
      rw [rowJt, List.set_append_right _ _ (by rw [cellsJt_length]; omega), cellsJt_length, List.set_cons_succ, rowJt]
      simp at h
      rw [← ih h]
      congr 2; omega
theorem rowJt_split (l : List It) (i : Nat) (x : It) (h : l[i]? = some x) : ∃ A B, A.length = i * 8 ∧ rowJt l = A ++ (cellsJt x ++ B) ∧ ∀ y, rowJt (l.set i y) = A ++ (cellsJt y ++ B) := by
  have hl : i < l.length := (List.getElem?_eq_some_iff.1 h).1
  refine ⟨rowJt (l.take i), rowJt (l.drop (i + 1)), by rw [rowJt_length, List.length_take]; omega, ?_, fun y => ?_⟩
  · have e : l = l.take i ++ (x :: l.drop (i + 1)) := by
      have e2 : l[i] = x := (List.getElem?_eq_some_iff.1 h).2
      rw [← e2, ← List.drop_eq_getElem_cons hl, List.take_append_drop]
    conv => lhs; rw [e]
    rw [rowJt_append]; rfl
  · rw [List.set_eq_take_append_cons_drop, if_pos hl, rowJt_append]; rfl

/-- An item's two lists lie in blocks of F, and read as the record has them. -/
structure ItM (w : World) (F : Nat → Prop) (x : It) : Prop where
  ns : Row 53 0 w x.nv x.rc.ns
  is : Row 2 0 w x.iv x.rc.is
  own : ∀ b, x.nv.ownBlock = some b ∨ x.iv.ownBlock = some b → F b
  few : x.rc.ns.length ≤ 20 ∧ x.rc.is.length ≤ 20
section
variable {F G : Nat → Prop} {w w' : World} {x : It} {l : List It} {t : TypeId} {P : Value} {i : Nat}
theorem ItM.keep (h : ItM w F x) (hb : ∀ b, F b → w'.heap[b]? = w.heap[b]?) : ItM w' F x :=
  ⟨own_at h.ns fun b e => hb b (h.own b (.inl e)), own_at h.is fun b e => hb b (h.own b (.inr e)), h.own, h.few⟩
theorem ItM.mono (h : ItM w F x) (hs : ∀ b, F b → G b) : ItM w G x := ⟨h.ns, h.is, fun b e => hs b (h.own b e), h.few⟩
/-- A block of another kind is none of its. -/
theorem ItM.not (h : ItM w F x) {b : Nat} (ht : Ty w b t) (h1 : t ≠ 53) (h2 : t ≠ 2) : ¬ (x.nv.ownBlock = some b ∨ x.iv.ownBlock = some b) := by
  rintro (e | e)
  · exact h1 (ht.one (own_ty h.ns e))
  · exact h2 (ht.one (own_ty h.is e))

/-- P is a row of items (of kind t) that reads as l; all of it lies in blocks of F. -/
structure Its (t : TypeId) (F : Nat → Prop) (w : World) (P : Value) (l : List It) : Prop where
  lt : ∀ b, F b → b < w.heap.size
  row : w.ownsRow 0 t 8 P l.length (rowJt l)
  frow : ∀ b, P.ownBlock = some b → F b
  mem : ∀ x ∈ l, ItM w F x

theorem Its.nil (t : TypeId) (w : World) : Its t (fun _ => False) w (.slice none 0 0) [] := ⟨fun _ e => e.elim, World.ownsRow_nil _ _ _ _, fun b e => (by cases e), fun x hx => (by cases hx)⟩
theorem Its.keep (h : Its t F w P l) (hb : ∀ b, F b → w'.heap[b]? = w.heap[b]?) (hs : w.heap.size ≤ w'.heap.size) : Its t F w' P l :=
  ⟨fun b e => Nat.lt_of_lt_of_le (h.lt b e) hs, own_at h.row fun b e => hb b (h.frow b e), h.frow, fun x hx => (h.mem x hx).keep hb⟩
theorem Its.below (h : Its t F w P l) (hb : Below w.heap.size w w') : Its t F w' P l := h.keep (fun b hF => hb.block b (h.lt b hF)) hb.size
theorem Its.only (h : Its t F w P l) (hb : Only G w w') (hd : ∀ b, F b → ¬ G b) : Its t F w' P l := h.keep (fun b hF => hb.block b (h.lt b hF) (hd b hF)) hb.size
/-- Its form. -/
theorem Its.form (h : Its t F w P l) : ∃ A c, P = .slice A l.length c ∧ l.length ≤ c ∧ c ≤ maxLen := by
  rcases h.row.2 with ⟨rfl, h0⟩ | ⟨g, cap, cur, rfl, _, _, h1, h2, _⟩
  · exact ⟨none, 0, by rw [h0], by omega, Nat.zero_le _⟩
  · exact ⟨_, cap, rfl, h1, h2⟩
/-- An item's cells. -/
theorem Its.cells (h : Its t F w P l) (hi : l[i]? = some x) : ∃ g c, P = .slice (some ⟨g, 0, none⟩) l.length c ∧ g < w.heap.size ∧ F g ∧ Ty w g t ∧ l.length ≤ c ∧ c ≤ maxLen ∧
    w.cell? ⟨g, i * 8, none⟩ = some x.nv ∧ w.cell? ⟨g, i * 8 + 1, none⟩ = some x.iv ∧ w.cell? ⟨g, i * 8 + 2, none⟩ = some (.int .i64 x.rc.kp) ∧ w.cell? ⟨g, i * 8 + 3, none⟩ = some (.int .i64 x.rc.wy) ∧ w.cell? ⟨g, i * 8 + 4, none⟩ = some (.int .i64 x.rc.od) ∧ w.cell? ⟨g, i * 8 + 5, none⟩ = some (.int .i64 x.rc.nw) ∧ w.cell? ⟨g, i * 8 + 6, none⟩ = some (.int .u8 x.st) ∧ w.cell? ⟨g, i * 8 + 7, none⟩ = some (.bool x.all) ∧ ∀ j, w.frozen? ⟨g, j, none⟩ = false := by
  have hr := h.row
  have hil : i < l.length := (List.getElem?_eq_some_iff.1 hi).1
  rcases h.row.2 with ⟨rfl, h0⟩ | ⟨g, cap, cur, rfl, _, hg, h1, h2, _⟩
  · omega
  · have hc : ∀ j, j < 8 → w.cell? ⟨g, i * 8 + j, none⟩ = (cellsJt x)[j]? := fun j hj => by
      rw [World.ownsRow.cellAt hr (i * 8 + j) (by omega), rowJt_at hi hj]
    exact ⟨g, cap, rfl, (Array.getElem?_eq_some_iff.1 hg).1, h.frow g rfl, ⟨cur, hg⟩, h1, h2, hc 0 (by omega), hc 1 (by omega), hc 2 (by omega), hc 3 (by omega), hc 4 (by omega), hc 5 (by omega), hc 6 (by omega), hc 7 (by omega), fun j => World.ownsRow.frozenAt hr j⟩

/-- Behind a change of the row alone. -/
theorem Its.changed {l' : List It} (h : Its t F w P l) (hg : w.grownBy w' P.ownBlock) (hrow : w'.ownsRow 0 t 8 P l'.length (rowJt l')) (hmem : ∀ x ∈ l', ItM w F x) (h1 : t ≠ 53) (h2 : t ≠ 2) : Its t F w' P l' :=
  ⟨fun b e => Nat.lt_of_lt_of_le (h.lt b e) hg.size, hrow, h.frow, fun x hx => by
    have hm := hmem x hx
    have hk : ∀ b, (x.nv.ownBlock = some b ∨ x.iv.ownBlock = some b) → w'.heap[b]? = w.heap[b]? := fun b e => hg.block b (h.lt b (hm.own b e)) (fun eb => hm.not (own_ty h.row eb.symm) h1 h2 e)
    exact ⟨own_at hm.ns fun b e => hk b (.inl e), own_at hm.is fun b e => hk b (.inr e), hm.own, hm.few⟩⟩

/-- One cell of an item is written: its state, or whether all is set. -/
theorem Its.setCell1 (h : Its t F w P l) (hi : l[i]? = some x) {g c : Nat} (hP : P = .slice (some ⟨g, 0, none⟩) l.length c) {j : Nat} (hj : j < 8) (u : Value) (y : It) (hc : cellsJt y = (cellsJt x).set j u) (hnv : y.nv = x.nv) (hiv : y.iv = x.iv) (hrc : y.rc = x.rc) (h1 : t ≠ 53) (h2 : t ≠ 2) :
    Its t F (w.setCell ⟨g, i * 8 + j, none⟩ u) P (l.set i y) := by
  have hm := h.mem x (List.mem_of_getElem? hi)
  have hr := h.row
  have h0 := h
  subst hP
  have hst := World.ownsRow.stored hr (i * 8 + j) u
  rw [rowJt_set1 hi hj u hc] at hst
  refine h0.changed hst.2 (by rw [List.length_set]; exact hst.1) (fun z hz => ?_) h1 h2
  rcases List.mem_or_eq_of_mem_set hz with hz | rfl
  · exact h.mem z hz
  · exact ⟨by rw [hnv, hrc]; exact hm.ns, by rw [hiv, hrc]; exact hm.is, by rw [hnv, hiv]; exact hm.own, by rw [hrc]; exact hm.few⟩

theorem own_midJt {g n c j : Nat} {A M B : List Value} (hr : w.ownsRow 0 t 8 (.slice (some ⟨g, 0, none⟩) n c) n (A ++ (M ++ B))) (hA : A.length = i * 8) (hj : j < M.length) (u : Value) :
    (w.setCell ⟨g, i * 8 + j, none⟩ u).ownsRow 0 t 8 (.slice (some ⟨g, 0, none⟩) n c) n (A ++ (M.set j u ++ B)) := by
  have := (World.ownsRow.stored hr (i * 8 + j) u).1
  rwa [set_mid hA hj] at this

/-- An item is put behind the row. -/
theorem Its.push (h : Its t F w P l) {w2 : World} {P2 : Value} (hx : ItM w G x) (hGF : ∀ b, F b → G b) (hG : ∀ b, G b → b < w.heap.size) (h1 : t ≠ 53) (h2 : t ≠ 2)
    (hrow : w2.ownsRow 0 t 8 P2 (l.length + 1) (rowJt l ++ cellsJt x)) (hg : w.grownBy w2 P.ownBlock) (hP2 : ∀ b, P2.ownBlock = some b → P.ownBlock = some b ∨ w.heap.size ≤ b) :
    Its t (fun b => G b ∨ P2.ownBlock = some b) w2 P2 (l ++ [x]) := by
  have hk : ∀ y, ItM w G y → ItM w2 G y := fun y hm => by
    have hk : ∀ b, (y.nv.ownBlock = some b ∨ y.iv.ownBlock = some b) → w2.heap[b]? = w.heap[b]? := fun b e => hg.block b (hG b (hm.own b e)) (fun eb => hm.not (own_ty h.row eb.symm) h1 h2 e)
    exact ⟨own_at hm.ns fun b e => hk b (.inl e), own_at hm.is fun b e => hk b (.inr e), hm.own, hm.few⟩
  refine ⟨fun b e => ?_, ?_, fun b e => .inr e, fun y hy => ?_⟩
  · rcases e with e | e
    · exact Nat.lt_of_lt_of_le (hG b e) hg.size
    · exact (World.ownsRow.lt hrow b e).2
  · rw [List.length_append, rowJt_append]
    simpa [rowJt] using hrow
  · rcases List.mem_append.1 hy with hy | hy
    · exact (hk y ((h.mem y hy).mono hGF)).mono fun b e => .inl e
    · rw [List.mem_singleton] at hy
      subst hy
      exact (hk _ hx).mono fun b e => .inl e
end
end Go.Proofs.YtcegianjpifnbaaGreat
namespace Go.Proofs.YtcegianjpifnbaaGreat
open Go.ChangeShapes Go.WideShapes Go.ChangeAt Go.RowKit
set_option linter.unusedVariables false
set_option linter.unusedSimpArgs false
set_option maxRecDepth 20000

abbrev itT : TypeId := 200
/-- A table at block a: of m records at most, its items are l. -/
structure Tb (F : Nat → Prop) (w : World) (a m : Nat) (l : List It) (P : Value) : Prop where
  its : Its itT F w P l
  head : w.heap[a]? = some (.cells #[.int .i64 (m : Int), P] 82 (0, 0))
  fa : F a
def recMost (m : Int) : Nat := (min (max m 0) 65536).toNat

theorem itT_ne : itT ≠ 53 ∧ itT ≠ 2 ∧ itT ≠ 82 := by decide
section
variable {F G : Nat → Prop} {w w' : World} {a m i : Nat} {l : List It} {P : Value} {x : It} {n : Int}
theorem Tb.keep (h : Tb F w a m l P) (hb : ∀ b, F b → w'.heap[b]? = w.heap[b]?) (hs : w.heap.size ≤ w'.heap.size) : Tb F w' a m l P := ⟨h.its.keep hb hs, (hb a h.fa).trans h.head, h.fa⟩
theorem Tb.below (h : Tb F w a m l P) (hb : Below w.heap.size w w') : Tb F w' a m l P := h.keep (fun b hF => hb.block b (h.its.lt b hF)) hb.size
theorem Tb.only (h : Tb F w a m l P) (hb : Only G w w') (hd : ∀ b, F b → ¬ G b) : Tb F w' a m l P := h.keep (fun b hF => hb.block b (h.its.lt b hF) (hd b hF)) hb.size
theorem Tb.lta (h : Tb F w a m l P) : a < w.heap.size := h.its.lt a h.fa
theorem Tb.cells (h : Tb F w a m l P) : w.cell? ⟨a, 0, none⟩ = some (.int .i64 (m : Int)) ∧ w.cell? ⟨a, 1, none⟩ = some P ∧ w.frozen? ⟨a, 1, none⟩ = false :=
  ⟨by rw [cell_of_row w a _ _ _ (0, 0) h.head]; rfl, by rw [cell_of_row w a _ _ _ (0, 0) h.head]; rfl, frozen_of_row w a 1 _ _ h.head⟩
/-- One cell of an item is written. -/
theorem Tb.setCell1 (h : Tb F w a m l P) (hi : l[i]? = some x) {g c : Nat} (hP : P = .slice (some ⟨g, 0, none⟩) l.length c) (hg : Ty w g itT) {j : Nat} (hj : j < 8) (u : Value) (y : It) (hc : cellsJt y = (cellsJt x).set j u) (hnv : y.nv = x.nv) (hiv : y.iv = x.iv) (hrc : y.rc = x.rc) :
    Tb F (w.setCell ⟨g, i * 8 + j, none⟩ u) a m (l.set i y) P :=
  ⟨h.its.setCell1 hi hP hj u y hc hnv hiv hrc itT_ne.1 itT_ne.2.1, (heap_setCell_other w ⟨g, i * 8 + j, none⟩ a u (fun e => by have e2 : a = g := e; subst e2; exact itT_ne.2.2 (hg.one ⟨_, h.head⟩))).trans h.head, h.fa⟩

theorem tb_new (w : World) (k : Int) (m : Nat) (hk : k = (m : Int)) : Tb (fun b => b = w.heap.size) (w.alloc (.cells #[.int .i64 k, .slice none 0 0] 82)) w.heap.size m [] (.slice none 0 0) := by
  subst hk
  exact ⟨⟨fun b hb => by subst hb; simp, World.ownsRow_nil _ _ _ _, fun b e => (by cases e), fun x hx => (by cases hx)⟩, heap_alloc_new w _, rfl⟩
set_option maxHeartbeats 400000 in
theorem recNew_walk (mo : Int) (w : World) :
    Calls Tryz.prog 36 #[.int .i64 mo] w fun e w' => e = .returned (ptr w.heap.size) ∧ Tb (fun b => b = w.heap.size) w' w.heap.size (recMost mo) [] (.slice none 0 0) ∧ Below w.heap.size w w' := by
  go_enter Tryz.func36, Tryz.ntmps36
  go_wp2
  all_goals go_ret
  all_goals exact ⟨rfl, tb_new w _ _ (by unfold recMost; omega), below_new _ _⟩

theorem recAt_no (h : Tb F w a m l P) (hn : n < 1 ∨ (l.length : Int) < n) : Calls Tryz.prog 149 #[ptr a, .int .i64 n] w fun e w' => e = .returned nilp ∧ w = w' := by
  obtain ⟨c0, c1, c2⟩ := h.cells
  obtain ⟨A, c, rfl, hlc, hcm⟩ := h.its.form
  clear h hlc hcm
  generalize l.length = k at *
  by_cases h1 : n < 1
  · go_enter Tryz.func149, Tryz.ntmps149
    go_wp2
    go_ret
    exact ⟨rfl, rfl⟩
  · have h2 : (k : Int) < n := by omega
    clear hn
    go_enter Tryz.func149, Tryz.ntmps149
    go_wp2
    go_ret
    exact ⟨rfl, rfl⟩
theorem recAt_yes (h : Tb F w a m l P) (hi : i < l.length) (hn : n = (i : Int) + 1) (hl : l.length ≤ 100000) : ∃ g c, P = .slice (some ⟨g, 0, none⟩) l.length c ∧ Calls Tryz.prog 149 #[ptr a, .int .i64 n] w fun e w' => e = .returned (.pointer (some ⟨g, i * 8, none⟩)) ∧ w = w' := by
  obtain ⟨c0, c1, c2⟩ := h.cells
  obtain ⟨g, c, rfl, -⟩ := h.its.cells (List.getElem?_eq_getElem hi)
  refine ⟨g, c, rfl, ?_⟩
  clear h
  generalize l.length = k at *
  subst hn
  have h1 : ¬ ((i : Int) + 1 < 1) := by omega
  have h2 : ¬ ((k : Int) < (i : Int) + 1) := by omega
  have h3 : IntKind.i64.wrap ((i : Int) + 1 - 1) = (i : Int) := by rw [Int.add_sub_cancel]; exact IntWalk.i64_in _ (by omega)
  have i0 : (0 : Int) ≤ (i : Int) := by omega
  have i1 : (i : Int) < (k : Int) := by omega
  go_enter Tryz.func149, Tryz.ntmps149
  go_wp2
  go_ret
  exact ⟨by first | rfl | simp, rfl⟩
/-- State, All: of a record; of others; of no table. -/
theorem recState_yes (h : Tb F w a m l P) (hi : l[i]? = some x) (hn : n = (i : Int) + 1) (hl : l.length ≤ 100000) : Calls Tryz.prog 136 #[ptr a, .int .i64 n] w fun e w' => e = .returned (.int .u8 x.st) ∧ w = w' := by
  obtain ⟨g, c, rfl, -, -, -, -, -, -, -, -, -, -, -, c6, -⟩ := h.its.cells hi
  obtain ⟨g', c', e, hat⟩ := recAt_yes h (List.getElem?_eq_some_iff.1 hi).1 hn hl
  injection e with e1 e2 e3
  injection e1 with e1
  injection e1 with e1
  subst e1
  clear h e2 e3 hn hl
  go_enter Tryz.func136, Tryz.ntmps136
  go_wp2_with fail
  refine hat.mono ?_
  rintro e w1 ⟨rfl, rfl⟩
  go_wp2
  go_ret
  exact ⟨rfl, rfl⟩
theorem recAll_yes (h : Tb F w a m l P) (hi : l[i]? = some x) (hn : n = (i : Int) + 1) (hl : l.length ≤ 100000) : Calls Tryz.prog 155 #[ptr a, .int .i64 n] w fun e w' => e = .returned (.bool x.all) ∧ w = w' := by
  obtain ⟨g, c, rfl, -, -, -, -, -, -, -, -, -, -, -, -, c7, -⟩ := h.its.cells hi
  obtain ⟨g', c', e, hat⟩ := recAt_yes h (List.getElem?_eq_some_iff.1 hi).1 hn hl
  injection e with e1 e2 e3
  injection e1 with e1
  injection e1 with e1
  subst e1
  clear h e2 e3 hn hl
  go_enter Tryz.func155, Tryz.ntmps155
  go_wp2_with fail
  refine hat.mono ?_
  rintro e w1 ⟨rfl, rfl⟩
  go_wp2
  go_ret
  exact ⟨rfl, rfl⟩
theorem recState_no (h : Tb F w a m l P) (hn : n < 1 ∨ (l.length : Int) < n) : Calls Tryz.prog 136 #[ptr a, .int .i64 n] w fun e w' => e = .returned (.int .u8 0) ∧ w = w' := by
  have hat := recAt_no h hn
  clear h hn
  go_enter Tryz.func136, Tryz.ntmps136
  go_wp2_with fail
  refine hat.mono ?_
  rintro e w1 ⟨rfl, rfl⟩
  go_wp2
  go_ret
  exact ⟨rfl, rfl⟩
theorem recAll_no (h : Tb F w a m l P) (hn : n < 1 ∨ (l.length : Int) < n) : Calls Tryz.prog 155 #[ptr a, .int .i64 n] w fun e w' => e = .returned (.bool false) ∧ w = w' := by
  have hat := recAt_no h hn
  clear h hn
  go_enter Tryz.func155, Tryz.ntmps155
  go_wp2_with fail
  refine hat.mono ?_
  rintro e w1 ⟨rfl, rfl⟩
  go_wp2
  go_ret
  exact ⟨rfl, rfl⟩
theorem recSet_yes (h : Tb F w a m l P) (hi : l[i]? = some x) (hn : n = (i : Int) + 1) (hl : l.length ≤ 100000) (s : Int) : Calls Tryz.prog 167 #[ptr a, .int .i64 n, .int .u8 s] w fun e w' => e = .returned (.tuple #[]) ∧ Tb F w' a m (l.set i { x with st := s }) P ∧ Only F w w' := by
  obtain ⟨g, c, rfl, hgl, hFg, hty, -, -, c0, c1, c2, c3, c4, c5, c6, c7, hz⟩ := h.its.cells hi
  obtain ⟨g', c', e, hat⟩ := recAt_yes h (List.getElem?_eq_some_iff.1 hi).1 hn hl
  injection e with e1 e2 e3
  injection e1 with e1
  injection e1 with e1
  subst e1
  have HT := Lib.hid (h.setCell1 hi rfl hty (j := 6) (by omega) (.int .u8 s) { x with st := s } rfl rfl rfl rfl)
  have HO := Lib.hid (Only.set F w (p := ⟨g, i * 8 + 6, none⟩) hFg (.int .u8 s))
  have z := hz (i * 8 + 6)
  clear h e2 e3 hn hl hz c0 c1 c2 c3 c4 c5
  go_enter Tryz.func167, Tryz.ntmps167
  go_wp2_with fail
  refine hat.mono ?_
  rintro e w1 ⟨rfl, rfl⟩
  go_wp2
  ((try simp only [Exit.inBlock, Exit.then]); refine bodyPost_end (results_none rfl _ _ _) rfl ?_)
  exact ⟨rfl, HT.out, HO.out⟩
theorem recSet_no (h : Tb F w a m l P) (hn : n < 1 ∨ (l.length : Int) < n) (s : Int)  : Calls Tryz.prog 167 #[ptr a, .int .i64 n, .int .u8 s] w fun e w' => e = .returned (.tuple #[]) ∧ w = w' := by
  have hat := recAt_no h hn
  clear h hn
  go_enter Tryz.func167, Tryz.ntmps167
  go_wp2_with fail
  refine hat.mono ?_
  rintro e w1 ⟨rfl, rfl⟩
  go_wp2
  ((try simp only [Exit.inBlock, Exit.then]); refine bodyPost_end (results_none rfl _ _ _) rfl ?_)
  exact ⟨rfl, rfl⟩
theorem setAll_yes (h : Tb F w a m l P) (hi : l[i]? = some x) (hn : n = (i : Int) + 1) (hl : l.length ≤ 100000) : Calls Tryz.prog 159 #[ptr a, .int .i64 n] w fun e w' => e = .returned (.tuple #[]) ∧ Tb F w' a m (l.set i { x with all := true }) P ∧ Only F w w' := by
  obtain ⟨g, c, rfl, hgl, hFg, hty, -, -, c0, c1, c2, c3, c4, c5, c6, c7, hz⟩ := h.its.cells hi
  obtain ⟨g', c', e, hat⟩ := recAt_yes h (List.getElem?_eq_some_iff.1 hi).1 hn hl
  injection e with e1 e2 e3
  injection e1 with e1
  injection e1 with e1
  subst e1
  have HT := Lib.hid (h.setCell1 hi rfl hty (j := 7) (by omega) (.bool true) { x with all := true } rfl rfl rfl rfl)
  have HO := Lib.hid (Only.set F w (p := ⟨g, i * 8 + 7, none⟩) hFg (.bool true))
  have z := hz (i * 8 + 7)
  clear h e2 e3 hn hl hz c0 c1 c2 c3 c4 c5
  go_enter Tryz.func159, Tryz.ntmps159
  go_wp2_with fail
  refine hat.mono ?_
  rintro e w1 ⟨rfl, rfl⟩
  go_wp2
  ((try simp only [Exit.inBlock, Exit.then]); refine bodyPost_end (results_none rfl _ _ _) rfl ?_)
  exact ⟨rfl, HT.out, HO.out⟩
theorem setAll_no (h : Tb F w a m l P) (hn : n < 1 ∨ (l.length : Int) < n)  : Calls Tryz.prog 159 #[ptr a, .int .i64 n] w fun e w' => e = .returned (.tuple #[]) ∧ w = w' := by
  have hat := recAt_no h hn
  clear h hn
  go_enter Tryz.func159, Tryz.ntmps159
  go_wp2_with fail
  refine hat.mono ?_
  rintro e w1 ⟨rfl, rfl⟩
  go_wp2
  ((try simp only [Exit.inBlock, Exit.then]); refine bodyPost_end (results_none rfl _ _ _) rfl ?_)
  exact ⟨rfl, rfl⟩
end
end Go.Proofs.YtcegianjpifnbaaGreat
namespace Go.Proofs.YtcegianjpifnbaaGreat
open Go.ChangeShapes Go.WideShapes Go.ChangeAt Go.RowKit
set_option linter.unusedVariables false
set_option linter.unusedSimpArgs false
set_option maxRecDepth 20000

/-- A record of its own memory. -/
def MadeR (w : World) (r : Rc) (e : Ending) (w' : World) : Prop :=
  ∃ u v, e = .returned (rcv u v r) ∧ Row 53 w.heap.size w' u r.ns ∧ Row 2 w.heap.size w' v r.is ∧ Below w.heap.size w w'
/-- A variable of six cells. -/
def Six (w : World) (b : Nat) (u v : Value) (k y o n : Int) : Prop := w.heap[b]? = some (.cells #[u, v, .int .i64 k, .int .i64 y, .int .i64 o, .int .i64 n] 186 (0, 0))
section
variable {w w' : World} {b : Nat} {u v : Value} {k y o n : Int}
theorem Six.cells (h : Six w b u v k y o n) : w.cell? ⟨b, 0, none⟩ = some u ∧ w.cell? ⟨b, 1, none⟩ = some v ∧ w.cell? ⟨b, 2, none⟩ = some (.int .i64 k) ∧ w.cell? ⟨b, 3, none⟩ = some (.int .i64 y) ∧ w.cell? ⟨b, 4, none⟩ = some (.int .i64 o) ∧ w.cell? ⟨b, 5, none⟩ = some (.int .i64 n) := by
  refine ⟨?_, ?_, ?_, ?_, ?_, ?_⟩ <;> (rw [cell_of_row w b _ _ _ (0, 0) h]; rfl)
theorem Six.free (h : Six w b u v k y o n) (j : Nat) : w.frozen? ⟨b, j, none⟩ = false := frozen_of_row w b j _ _ h
theorem Six.frees (h : Six w b u v k y o n) : w.frozen? ⟨b, 0, none⟩ = false ∧ w.frozen? ⟨b, 1, none⟩ = false ∧ w.frozen? ⟨b, 2, none⟩ = false ∧ w.frozen? ⟨b, 3, none⟩ = false ∧ w.frozen? ⟨b, 4, none⟩ = false ∧ w.frozen? ⟨b, 5, none⟩ = false := ⟨h.free 0, h.free 1, h.free 2, h.free 3, h.free 4, h.free 5⟩
theorem Six.below (h : Six w b u v k y o n) (hb : Below w.heap.size w w') : Six w' b u v k y o n := (hb.block b (Array.getElem?_eq_some_iff.1 h).1).trans h
theorem Six.lt (h : Six w b u v k y o n) : b < w.heap.size := (Array.getElem?_eq_some_iff.1 h).1
theorem Six.off (h : Six w b u v k y o n) {p : Addr} (hp : b ≠ p.block) (x : Value) : Six (w.setCell p x) b u v k y o n := (heap_setCell_other w p b x hp).trans h
theorem Six.set0 (h : Six w b u v k y o n) (x : Value) : Six (w.setCell ⟨b, 0, none⟩ x) b x v k y o n := heap_setCell_same w b 0 _ _ x h
theorem Six.set1 (h : Six w b u v k y o n) (x : Value) : Six (w.setCell ⟨b, 1, none⟩ x) b u x k y o n := heap_setCell_same w b 1 _ _ x h
theorem Six.new (w : World) {b : Nat} (hb : w.heap.size = b) (u v : Value) (k y o n : Int) : Six (w.alloc (.cells #[u, v, .int .i64 k, .int .i64 y, .int .i64 o, .int .i64 n] 186)) b u v k y o n := by subst hb; exact heap_alloc_new w _
end
/-- The six stores of a record into a variable. -/
abbrev put6 (w : World) (R : Nat) (u v : Value) (k y o n : Int) : World := (((((w.setCell ⟨R, 0, none⟩ u).setCell ⟨R, 1, none⟩ v).setCell ⟨R, 2, none⟩ (.int .i64 k)).setCell ⟨R, 3, none⟩ (.int .i64 y)).setCell ⟨R, 4, none⟩ (.int .i64 o)).setCell ⟨R, 5, none⟩ (.int .i64 n)
theorem Six.put {w : World} {R : Nat} {u v u' v' : Value} {k y o n k' y' o' n' : Int} (h : Six w R u' v' k' y' o' n') : Six (put6 w R u v k y o n) R u v k y o n := by
  unfold Six
  rw [heap_setCell_same _ R 5 _ _ _ (heap_setCell_same _ R 4 _ _ _ (heap_setCell_same _ R 3 _ _ _ (heap_setCell_same _ R 2 _ _ _ (heap_setCell_same _ R 1 _ _ _ (heap_setCell_same _ R 0 _ _ _ h)))))]
  rfl
theorem Row.put6 {el : TypeId} {B R : Nat} {w : World} {x u v : Value} {zs : List Int} {k y o n : Int} (h : Row el B w x zs) (hR : R < B) : Row el B (put6 w R u v k y o n) x zs :=
  (((((h.set_below (p := ⟨R, 0, none⟩) hR _).set_below (p := ⟨R, 1, none⟩) hR _).set_below (p := ⟨R, 2, none⟩) hR _).set_below (p := ⟨R, 3, none⟩) hR _).set_below (p := ⟨R, 4, none⟩) hR _).set_below (p := ⟨R, 5, none⟩) hR _
theorem below_put6 {B R : Nat} {a w : World} {u v : Value} {k y o n : Int} (h : Below B a w) (hR : B ≤ R) : Below B a (put6 w R u v k y o n) :=
  (((((h.setCell (p := ⟨R, 0, none⟩) hR _).setCell (p := ⟨R, 1, none⟩) hR _).setCell (p := ⟨R, 2, none⟩) hR _).setCell (p := ⟨R, 3, none⟩) hR _).setCell (p := ⟨R, 4, none⟩) hR _).setCell (p := ⟨R, 5, none⟩) hR _
theorem load_six {w : World} {R : Nat} {u v : Value} {k y o n : Int} (h : Six w R u v k y o n) :
    (loadVar 186 ⟨R, 0, none⟩).run Tryz.prog w = .ok (.agg #[u, v, .int .i64 k, .int .i64 y, .int .i64 o, .int .i64 n]) w := by
  obtain ⟨e0, e1, e2, e3, e4, e5⟩ := h.cells
  simp [go_sem, e0, e1, e2, e3, e4, e5]
theorem results_six {fn : Func} {t : Tmp} {R : Nat} {u v : Value} {k y o n : Int} {tmps : Array Value} {w : World} (h : fn.results = #[.cell t 186]) (ht : tmps.getD t undef = .pointer (some ⟨R, 0, none⟩))
    (h6 : Six w R u v k y o n) : (results fn tmps).run Tryz.prog w = .ok (.agg #[u, v, .int .i64 k, .int .i64 y, .int .i64 o, .int .i64 n]) w := by
  have := load_six h6
  have ht' : tmps[t]?.getD undef = .pointer (some ⟨R, 0, none⟩) := by simpa using ht
  simp [results, h, ht', asAddr, this]

/-- The world behind a box for a record and a variable for the result. -/
theorem boxed6 (w : World) (u v : Value) (k y o n : Int) : ∃ (W : World) (R : Nat), (w.alloc (.cells #[u, v, .int .i64 k, .int .i64 y, .int .i64 o, .int .i64 n] 186)).alloc (.cells #[.slice none 0 0, .slice none 0 0, .int .i64 0, .int .i64 0, .int .i64 0, .int .i64 0] 186) = W ∧ w.heap.size + 1 = R ∧ Below w.heap.size w W ∧ R < W.heap.size ∧
    Six W w.heap.size u v k y o n ∧ Six W R (.slice none 0 0) (.slice none 0 0) 0 0 0 0 ∧ w.heap.size < R ∧ w.heap.size ≠ R ∧ R ≠ w.heap.size :=
  ⟨_, _, rfl, rfl, ((Below.refl _ w).alloc (Nat.le_refl _) _).alloc (by simp) _, by simp, (Six.new w rfl u v k y o n).below (below_new _ _), Six.new _ (by simp) _ _ _ _ _ _, by omega, by omega, by omega⟩
/-- A slice of one is built. -/
theorem stepBJt (cw : World) (v : Value) (t : TypeId) : ∃ (X : World) (b : Nat), cw.alloc (.cells #[v] t) = X ∧ cw.heap.size = b ∧ Below cw.heap.size cw X ∧ X.cell? ⟨b, 0, none⟩ = some v :=
  ⟨_, _, rfl, rfl, below_new _ _, c_new rfl rfl⟩
/-- The record stands where the result stands. -/
theorem six_end {w Z : World} {B R : Nat} {u v u' v' : Value} {k' y' o' n' : Int} {r : Rc} (hr : Row 53 B Z u r.ns) (hk : Row 2 B Z v r.is) (hRB : R < B) (hB : w.heap.size ≤ B) (hb : Below w.heap.size w Z) (hR : w.heap.size ≤ R) (hv : Six Z R u' v' k' y' o' n') :
    Six (put6 Z R u v r.kp r.wy r.od r.nw) R u v r.kp r.wy r.od r.nw ∧ MadeR w r (.returned (rcv u v r)) (put6 Z R u v r.kp r.wy r.od r.nw) :=
  ⟨hv.put, u, v, rfl, (hr.put6 hRB).lower hB, (hk.put6 hRB).lower hB, below_put6 hb hR⟩

set_option maxHeartbeats 4000000 in
theorem recSame_walk (A B : Option Addr) (n c m d : Nat) (r : Rc) (w : World) (hr : Sl w A n c r.ns) (hk : Sl w B m d r.is) (hrl : r.ns.length ≤ 100) (hkl : r.is.length ≤ 100) :
    Calls Tryz.prog 138 #[rcv (.slice A n c) (.slice B m d) r] w (MadeR w r) := by
  obtain ⟨ns, is, kp, wy, od, nw⟩ := r
  simp only at hr hk hrl hkl
  obtain ⟨W, R, hW, hR, hb0, hs0, h6, hv6, hR0, l1, l2⟩ := boxed6 w (.slice A n c) (.slice B m d) kp wy od nw
  obtain ⟨c0, c1, c2, c3, c4, c5⟩ := h6.cells
  have Hr := Lib.hid hr
  have Hk := Lib.hid hk
  clear hr hk
  go_enter Tryz.func138, Tryz.ntmps138
  go_wp2_with fail
  clear hW hR
  have HW := Lib.hid hb0
  clear hb0
  generalize hb : w.heap.size = b at *
  have HB := Lib.hid hb
  clear hb
  refine (concatR1 W.heap.size A n c ns _ (c_new rfl rfl) ((Hr.out.keep fun p h => HW.out.cell (by have := HB.out; omega)).below (below_new _ _)) (by omega)).mono ?_
  rintro e w1 ⟨v1, rfl, hr1, hb1⟩
  obtain ⟨F1, N1, f1, rfl⟩ := hr1.shape
  have p1 : Below W.heap.size W w1 := (below_new W _).trans (hb1.mono (by simp))
  have g6 := h6.below p1
  have gv := hv6.below p1
  have hr2 := hr1.lower (base' := W.heap.size) (by simp)
  clear hr1 hb1 c0 c1 c2 c3 c4 c5
  obtain ⟨d0, d1, d2, d3, d4, d5⟩ := g6.cells
  have f0 := g6.free 0
  have hbW : b < W.heap.size := by omega
  have hb1 : Below b w w1 := HW.out.trans (p1.mono (by omega))
  have hs1 := p1.size
  clear p1
  go_wp2_with fail
  obtain ⟨V, hV, k6, kv6, hbV, hrV, hsV⟩ : ∃ V : World, w1.setCell ⟨b, 0, none⟩ (.slice F1 N1 f1) = V ∧ Six V b (.slice F1 N1 f1) (.slice B m d) kp wy od nw ∧ Six V R (.slice none 0 0) (.slice none 0 0) 0 0 0 0 ∧ Below b w V ∧ Row 53 W.heap.size V (.slice F1 N1 f1) ns ∧ W.heap.size ≤ V.heap.size :=
    ⟨_, rfl, g6.set0 _, gv.off l2 _, hb1.setCell (p := ⟨b, 0, none⟩) (Nat.le_refl _) _, hr2.set_below hbW _, by simpa using hs1⟩
  have eV : w1.heap.size = V.heap.size := by rw [← hV]; simp
  (try rw [hV]); (try rw [eV])
  clear eV
  clear hV hr2 gv g6 d0 d1 d2 d3 d4 d5 f0 hb1 hs1
  refine (concatK1 V.heap.size B m d is _ (c_new rfl rfl) ((Hk.out.keep fun p h => hbV.cell (by have := HB.out; omega)).below (below_new _ _)) (by omega)).mono ?_
  rintro e w3 ⟨v3, rfl, hk3, hb3⟩
  obtain ⟨F3, N3, f3, rfl⟩ := hk3.shape
  have p3 : Below V.heap.size V w3 := (below_new V _).trans (hb3.mono (by simp))
  have g6 := k6.below p3
  have gv := kv6.below p3
  have hr3 := hrV.next p3
  have hk4 := hk3.lower (base' := W.heap.size) (by simp; omega)
  have hb4 : Below b w w3 := hbV.trans (p3.mono (by omega))
  have f1 := g6.free 1
  obtain ⟨d0, d1, d2, d3, d4, d5⟩ := g6.cells
  have HE := Lib.hid (six_end (w := w) (r := ⟨ns, is, kp, wy, od, nw⟩) (hr3.set_below (p := ⟨b, 1, none⟩) hbW (.slice F3 N3 f3)) (hk4.set_below (p := ⟨b, 1, none⟩) hbW (.slice F3 N3 f3)) hs0 (by have := HB.out; omega) (by have := HB.out; subst this; exact hb4.setCell (p := ⟨_, 1, none⟩) (Nat.le_refl _) _) (by have := HB.out; omega) (gv.off l2 _))
  have e6 := g6.set1 (.slice F3 N3 f3)
  have ev := gv.off (p := ⟨b, 1, none⟩) l2 (.slice F3 N3 f3)
  clear k6 kv6 hbV hrV hsV hk3 hb3 p3 gv hr3 hk4 hb4 g6
  obtain ⟨Z, hZ⟩ : ∃ Z : World, w3.setCell ⟨b, 1, none⟩ (.slice F3 N3 f3) = Z := ⟨_, rfl⟩
  rw [hZ] at HE e6 ev
  obtain ⟨y0, y1, y2, y3, y4, y5⟩ := e6.cells
  obtain ⟨x0, x1, x2, x3, x4, x5⟩ := ev.cells
  obtain ⟨z0, z1, z2, z3, z4, z5⟩ := ev.frees
  clear e6 ev h6 hv6
  go_wp2
  obtain ⟨h1, h2⟩ := HE.out
  ((try simp only [Exit.inBlock, Exit.then]); refine bodyPost_ret (results_six rfl rfl h1) rfl ?_)
  exact h2
end Go.Proofs.YtcegianjpifnbaaGreat
namespace Go.Proofs.YtcegianjpifnbaaGreat
open Go.ChangeShapes Go.WideShapes Go.ChangeAt Go.RowKit
set_option linter.unusedVariables false
set_option linter.unusedSimpArgs false
set_option maxRecDepth 20000

section
variable {F G : Nat → Prop} {w w' : World} {a m i : Nat} {l : List It} {P : Value} {x : It} {n : Int}

theorem made_nil {w Z : World} {R : Nat} (hv : Six Z R (.slice none 0 0) (.slice none 0 0) 0 0 0 0) (hb : Below w.heap.size w Z) (hR : w.heap.size ≤ R) :
    Six (put6 Z R (.slice none 0 0) (.slice none 0 0) 0 0 0 0) R (.slice none 0 0) (.slice none 0 0) 0 0 0 0 ∧ MadeR w Rc.nil (.returned (rcv (.slice none 0 0) (.slice none 0 0) Rc.nil)) (put6 Z R (.slice none 0 0) (.slice none 0 0) 0 0 0 0) :=
  ⟨hv.put, _, _, rfl, Row.nil _ _ _, Row.nil _ _ _, below_put6 hb hR⟩

set_option maxHeartbeats 1000000 in
theorem recLook_no (h : Tb F w a m l P) (hn : n < 1 ∨ (l.length : Int) < n) : Calls Tryz.prog 139 #[ptr a, .int .i64 n] w (MadeR w Rc.nil) := by
  obtain ⟨W, hW, hb, hv⟩ : ∃ W : World, w.alloc (.cells #[.slice none 0 0, .slice none 0 0, .int .i64 0, .int .i64 0, .int .i64 0, .int .i64 0] 186) = W ∧ Below w.heap.size w W ∧ Six W w.heap.size (.slice none 0 0) (.slice none 0 0) 0 0 0 0 := ⟨_, rfl, below_new _ _, Six.new w rfl _ _ _ _ _ _⟩
  obtain ⟨x0, x1, x2, x3, x4, x5⟩ := hv.cells
  obtain ⟨z0, z1, z2, z3, z4, z5⟩ := hv.frees
  have HE := Lib.hid (made_nil hv hb (Nat.le_refl _))
  have hat := recAt_no (h.below hb) hn
  clear hv hb h hn
  generalize hR : w.heap.size = R at *
  go_enter Tryz.func139, Tryz.ntmps139
  go_wp2_with fail
  (try rw [hW])
  refine hat.mono ?_
  rintro e w1 ⟨rfl, rfl⟩
  go_wp2
  obtain ⟨h1, h2⟩ := HE.out
  ((try simp only [Exit.inBlock, Exit.then]); refine bodyPost_ret (results_six rfl rfl h1) rfl ?_)
  exact h2

set_option maxHeartbeats 1000000 in
theorem recLook_yes (h : Tb F w a m l P) (hi : l[i]? = some x) (hn : n = (i : Int) + 1) (hl : l.length ≤ 100000) : Calls Tryz.prog 139 #[ptr a, .int .i64 n] w (MadeR w x.rc) := by
  obtain ⟨W, hW, hb, hv⟩ : ∃ W : World, w.alloc (.cells #[.slice none 0 0, .slice none 0 0, .int .i64 0, .int .i64 0, .int .i64 0, .int .i64 0] 186) = W ∧ Below w.heap.size w W ∧ Six W w.heap.size (.slice none 0 0) (.slice none 0 0) 0 0 0 0 := ⟨_, rfl, below_new _ _, Six.new w rfl _ _ _ _ _ _⟩
  have hT := h.below hb
  have hm := hT.its.mem x (List.mem_of_getElem? hi)
  obtain ⟨g, c, rfl, -, -, -, -, -, c0, c1, c2, c3, c4, c5, -, -, -⟩ := hT.its.cells hi
  obtain ⟨g', c', e, hat⟩ := recAt_yes hT (List.getElem?_eq_some_iff.1 hi).1 hn hl
  injection e with e1 e2 e3
  injection e1 with e1
  injection e1 with e1
  subst e1
  obtain ⟨⟨ns, is, kp, wy, od, nw⟩, st, all, nv, iv⟩ := x
  obtain ⟨hm1, hm2, -, hf1, hf2⟩ := hm
  simp only at hm1 hm2 hf1 hf2 c0 c1 c2 c3 c4 c5 ⊢
  obtain ⟨A1, n1, d1, rfl⟩ := hm1.shape
  obtain ⟨A2, n2, d2, rfl⟩ := hm2.shape
  have hsz : w.heap.size < W.heap.size := by rw [← hW]; simp
  have hsm := Lib.hid (recSame_walk A1 A2 n1 d1 n2 d2 ⟨ns, is, kp, wy, od, nw⟩ W hm1.sl hm2.sl (by simp only; omega) (by simp only; omega))
  clear h hn hl hT hi hm1 hm2 e2 e3 hf1 hf2
  generalize hR : w.heap.size = R at *
  have HR := Lib.hid hR
  have HB := Lib.hid hb
  have HV := Lib.hid hv
  clear hb hv hR
  go_enter Tryz.func139, Tryz.ntmps139
  go_wp2_with fail
  (try rw [hW]); (try rw [HR.out])
  refine hat.mono ?_
  rintro e w1 ⟨rfl, rfl⟩
  go_wp2_with fail
  refine hsm.out.mono ?_
  rintro e X ⟨u, v, rfl, hr, hk, hbX⟩
  obtain ⟨A3, n3, d3, rfl⟩ := hr.shape
  obtain ⟨A4, n4, d4, rfl⟩ := hk.shape
  have hvX := HV.out.below hbX
  obtain ⟨x0, x1, x2, x3, x4, x5⟩ := hvX.cells
  obtain ⟨z0, z1, z2, z3, z4, z5⟩ := hvX.frees
  have HE := Lib.hid (six_end (w := w) hr hk hsz (by have := HR.out; omega) (by have := HR.out; subst this; exact HB.out.trans (hbX.mono (by omega))) (by have := HR.out; omega) hvX)
  clear hr hk hbX hvX c0 c1 c2 c3 c4 c5
  go_wp2
  obtain ⟨h1, h2⟩ := HE.out
  ((try simp only [Exit.inBlock, Exit.then]); refine bodyPost_ret (results_six rfl rfl h1) rfl ?_)
  exact h2
end

end Go.Proofs.YtcegianjpifnbaaGreat
namespace Go.Proofs.YtcegianjpifnbaaGreat
open Go.ChangeShapes Go.WideShapes Go.ChangeAt Go.RowKit
set_option linter.unusedVariables false
set_option linter.unusedSimpArgs false
set_option maxRecDepth 20000

/-- What the program says of a slice type sl of items of kind t. -/
structure ItemT (sl t : TypeId) : Prop where
  under : Tryz.prog.underlying sl = some (.slice t)
  info : ∃ z by_, by_ ≤ 200 ∧ z.cells.size = 8 ∧ (Tryz.prog.info? t).map (fun i => (i.zero, i.size, i.bytes)) = some (some z, 8, by_)
  ne : t ≠ 53 ∧ t ≠ 2
theorem itemT : ItemT 80 itT := ⟨Tryz.underlying80, ⟨.agg #[.slice none 0 0, .slice none 0 0, .int .i64 0, .int .i64 0, .int .i64 0, .int .i64 0, .int .u8 0, .bool false], 88, by omega, rfl, by kernel_rfl⟩, itT_ne.1, itT_ne.2.1⟩
theorem cells_blk {W : World} {s : Nat} {t : TypeId} {cs : Array Value} (h : W.heap[s]? = some (.cells cs t (0, 0))) : ∀ (j : Nat) (u : Value), cs.toList[j]? = some u → W.cell? ⟨s, j, none⟩ = some u := by
  intro j u hj
  rw [cell_of_row W s j cs t (0, 0) h]
  simpa using hj

section
variable {F G : Nat → Prop} {w w' : World} {a m i : Nat} {l : List It} {P : Value} {x : It} {n : Int} {sl t : TypeId}
theorem cellsJt_one (h : ItM w F x) : ∀ u ∈ cellsJt x, u.oneCell' = true := by
  obtain ⟨A, n, c, e1⟩ := h.ns.shape
  obtain ⟨B, m, d, e2⟩ := h.is.shape
  intro u hu
  simp only [cellsJt, List.mem_cons, List.not_mem_nil, or_false] at hu
  rcases hu with rfl | rfl | rfl | rfl | rfl | rfl | rfl | rfl
  · rw [e1]; rfl
  · rw [e2]; rfl
  all_goals rfl

/-- The run of 'append(items, item)'. -/
theorem Its.run (R : ItemT sl t) (h : Its t F w P l) (ty : TypeId) (s : Nat) (hs : ∀ (j : Nat) (u : Value), (cellsJt x)[j]? = some u → w.cell? ⟨s, j, none⟩ = some u) (hl : l.length ≤ 70000) (hx : ItM w G x) (hGF : ∀ b, F b → G b) (hG : ∀ b, G b → b < w.heap.size) :
    ∃ P' w', (Builtin.append_ #[sl, sl] ty #[P, .slice (some ⟨s, 0, none⟩) 1 1]).run Tryz.prog w = .ok P' w' ∧ (∃ A c, P' = .slice A (l.length + 1) c) ∧ Its t (fun b => G b ∨ P'.ownBlock = some b) w' P' (l ++ [x]) ∧ w.grownBy w' P.ownBlock ∧ (∀ b, P'.ownBlock = some b → P.ownBlock = some b ∨ w.heap.size ≤ b) := by
  obtain ⟨z, by_, hby, hzc, hinf⟩ := R.info
  obtain ⟨i0, hi0, hz0, hz1, hz2⟩ := info_parts hinf
  obtain ⟨P', w', hr, ho, hg, hb⟩ := run_push (w := w) sl ty t i0 z 8 by_ R.under hi0 hz0 hz1 hz2 hzc (by omega) P l.length (rowJt l) h.row ⟨s, 0, none⟩ 1 1 (cellsJt x) (by rw [cellsJt_length])
    (fun j u hj => by rw [add_lit0, Nat.zero_add]; exact hs j u hj) (cellsJt_one hx) (by unfold maxLen; omega) (by have : (l.length + 1) * by_ ≤ 70001 * 200 := Nat.mul_le_mul (by omega) hby; omega)
  refine ⟨P', w', hr, ?_, h.push hx hGF hG R.ne.1 R.ne.2 ho hg hb, hg, hb⟩
  rcases ho.2 with ⟨_, h0⟩ | ⟨g, cap, cur, rfl, _⟩
  · omega
  · exact ⟨_, cap, rfl⟩

/-- A store into a block of another kind. -/
theorem Its.set (h : Its t F w P l) {p : Addr} {t' : TypeId} (hp : Ty w p.block t') (h1 : t' ≠ t) (h2 : t' ≠ 53) (h3 : t' ≠ 2) (u : Value) : Its t F (w.setCell p u) P l :=
  ⟨fun b e => by simpa using h.lt b e, own_set h.row hp h1 u, h.frow, fun x hx => ⟨own_set (h.mem x hx).ns hp h2 u, own_set (h.mem x hx).is hp h3 u, (h.mem x hx).own, (h.mem x hx).few⟩⟩

theorem tbT_ne : 82 ≠ itT ∧ 82 ≠ 53 ∧ 82 ≠ 2 := by decide
/-- Behind the store of the longer row. -/
theorem Tb.pushed {X : World} (h : Tb F w a m l P) (hb : Below w.heap.size w X) (hn : Row 53 w.heap.size X x.nv x.rc.ns) (hi : Row 2 w.heap.size X x.iv x.rc.is) (hf : x.rc.ns.length ≤ 20 ∧ x.rc.is.length ≤ 20) (hl : l.length ≤ 70000)
    (s : Nat) (hs : ∀ (j : Nat) (u : Value), (cellsJt x)[j]? = some u → X.cell? ⟨s, j, none⟩ = some u) :
    ∃ P2 w2 F', (∀ ty, (Builtin.append_ #[80, 80] ty #[P, .slice (some ⟨s, 0, none⟩) 1 1]).run Tryz.prog X = .ok P2 w2) ∧ (∃ A c, P2 = .slice A (l.length + 1) c) ∧ w2.cell? ⟨a, 1, none⟩ = some P ∧ w2.frozen? ⟨a, 1, none⟩ = false ∧
      Tb F' (w2.setCell ⟨a, 1, none⟩ P2) a m (l ++ [x]) P2 ∧ Only F w (w2.setCell ⟨a, 1, none⟩ P2) ∧ (∀ b, F' b → F b ∨ w.heap.size ≤ b) ∧ (∀ (p : Addr) (v : Value), X.cell? p = some v → ¬ F p.block → w2.cell? p = some v) := by
  have hX := h.below hb
  have hx : ItM X (fun b => F b ∨ x.nv.ownBlock = some b ∨ x.iv.ownBlock = some b) x := ⟨hn.lower (Nat.zero_le _), hi.lower (Nat.zero_le _), fun b e => .inr e, hf⟩
  have hG : ∀ b, (F b ∨ x.nv.ownBlock = some b ∨ x.iv.ownBlock = some b) → b < X.heap.size := by
    rintro b (e | e | e)
    · exact hX.its.lt b e
    · exact (World.ownsRow.lt hn b e).2
    · exact (World.ownsRow.lt hi b e).2
  obtain ⟨P2, w2, hr, hP2, hits, hg, hbl⟩ := hX.its.run itemT 0 s hs hl hx (fun b e => .inl e) hG
  have ha : w2.heap[a]? = X.heap[a]? := hg.block a hX.lta (fun e => itT_ne.2.2 ((own_ty hX.its.row e.symm).one ⟨_, hX.head⟩))
  have hhead := ha.trans hX.head
  have hTy : Ty w2 a 82 := ⟨_, hhead⟩
  refine ⟨P2, w2, _, fun ty => hr, hP2, ?_, frozen_of_row w2 a 1 _ _ hhead, ⟨hits.set (p := ⟨a, 1, none⟩) hTy tbT_ne.1 tbT_ne.2.1 tbT_ne.2.2 P2, ?_, .inl (.inl h.fa)⟩, ?_, ?_, fun p v hp hF => (World.cell?_of_block (hg.block p.block (World.block_lt_of_cell? X p hp) (fun e => hF (h.its.frow _ e.symm)))).trans hp⟩
  · rw [cell_of_row w2 a _ _ _ (0, 0) hhead]; rfl
  · exact heap_setCell_same w2 a 1 _ _ P2 hhead
  · exact ((Only.of_below F hb).then (Only.grown F hg fun b e => h.its.frow b e)).then (Only.set F w2 (p := ⟨a, 1, none⟩) h.fa P2)
  · rintro b ((e | e | e) | e)
    · exact .inl e
    · exact .inr (World.ownsRow.lt hn b e).1
    · exact .inr (World.ownsRow.lt hi b e).1
    · rcases hbl b e with e | e
      · exact .inl (h.its.frow b e)
      · exact .inr (Nat.le_trans hb.size e)
end

section
variable {F G : Nat → Prop} {w w' : World} {a mo i : Nat} {l : List It} {P : Value}
set_option maxHeartbeats 2000000 in
theorem recMake_no (h : Tb F w a mo l P) (A B : Option Addr) (n c m d : Nat) (r : Rc) (hno : n ≠ m ∨ r.kp < 0 ∨ mo ≤ l.length) :
    Calls Tryz.prog 118 #[ptr a, rcv (.slice A n c) (.slice B m d) r] w fun e w' => e = .returned (.tuple #[.int .i64 0, .bool false]) ∧ Below w.heap.size w w' := by
  obtain ⟨ns, is, kp, wy, od, nw⟩ := r
  simp only at hno
  obtain ⟨W, hW, hb, h6⟩ : ∃ W : World, w.alloc (.cells #[.slice A n c, .slice B m d, .int .i64 kp, .int .i64 wy, .int .i64 od, .int .i64 nw] 186) = W ∧ Below w.heap.size w W ∧ Six W w.heap.size (.slice A n c) (.slice B m d) kp wy od nw := ⟨_, rfl, below_new _ _, Six.new w rfl _ _ _ _ _ _⟩
  obtain ⟨c0, c1, -⟩ := (h.below hb).cells
  obtain ⟨A', c', rfl, -, -⟩ := h.its.form
  obtain ⟨d0, d1, d2, d3, d4, d5⟩ := h6.cells
  have HB := Lib.hid hb
  clear hb h h6
  generalize l.length = L at *
  generalize hR : w.heap.size = R at *
  by_cases h1 : n = m
  · subst h1
    by_cases h2 : kp < 0
    · clear hno
      go_enter Tryz.func118, Tryz.ntmps118
      go_wp2
      (try rw [hW])
      go_quiet (fail)
      go_wp2
      go_ret2
      exact ⟨rfl, by first | exact below_drewN HB.out _ | exact HB.out.drew⟩
    · have h3 : (mo : Int) ≤ (L : Int) := by omega
      clear hno
      go_enter Tryz.func118, Tryz.ntmps118
      go_wp2
      (try rw [hW])
      go_quiet (fail)
      go_wp2
      go_ret2
      exact ⟨rfl, by first | exact below_drewN HB.out _ | exact HB.out.drew⟩
  · clear hno
    have h2 : ((n : Int) != (m : Int)) = true := by simp; omega
    have h3 : ¬ ((n : Int) = (m : Int)) := by omega
    go_enter Tryz.func118, Tryz.ntmps118
    go_wp2
    (try rw [hW])
    go_quiet (fail)
    go_wp2
    go_ret2
    exact ⟨rfl, by first | exact below_drewN HB.out _ | exact HB.out.drew⟩
end
end Go.Proofs.YtcegianjpifnbaaGreat
namespace Go.Proofs.YtcegianjpifnbaaGreat
open Go.ChangeShapes Go.WideShapes Go.ChangeAt Go.RowKit
set_option linter.unusedVariables false
set_option linter.unusedSimpArgs false
set_option maxRecDepth 20000

section
variable {F G : Nat → Prop} {w w' : World} {a mo i : Nat} {l : List It} {P : Value}
/-- Behind a call that makes a record: the table, and nothing else has changed. -/
def MadeT (F : Nat → Prop) (w : World) (a mo : Nat) (l : List It) (r : Rc) (w' : World) : Prop :=
  ∃ F' P' u v, Tb F' w' a mo (l ++ [⟨r, 1, false, u, v⟩]) P' ∧ Only F w w' ∧ ∀ b, F' b → F b ∨ w.heap.size ≤ b

set_option maxHeartbeats 4000000 in
theorem recMake_yes (h : Tb F w a mo l P) (A B : Option Addr) (n c d : Nat) (r : Rc) (hr : Sl w A n c r.ns) (hk : Sl w B n d r.is) (hkp : 0 ≤ r.kp) (hroom : l.length < mo) (hmo : mo ≤ 65536) (hn : n ≤ 20) :
    Calls Tryz.prog 118 #[ptr a, rcv (.slice A n c) (.slice B n d) r] w fun e w' => e = .returned (.tuple #[.int .i64 ((l.length : Int) + 1), .bool true]) ∧ MadeT F w a mo l r w' := by
  obtain ⟨ns, is, kp, wy, od, nw⟩ := r
  simp only at hr hk hkp
  obtain ⟨W, hW, hb, h6⟩ : ∃ W : World, w.alloc (.cells #[.slice A n c, .slice B n d, .int .i64 kp, .int .i64 wy, .int .i64 od, .int .i64 nw] 186) = W ∧ Below w.heap.size w W ∧ Six W w.heap.size (.slice A n c) (.slice B n d) kp wy od nw := ⟨_, rfl, below_new _ _, Six.new w rfl _ _ _ _ _ _⟩
  have HLN := Lib.hid hr.len
  have HLK := Lib.hid hk.len
  have HT := Lib.hid (h.below hb)
  obtain ⟨c0, c1, -⟩ := (h.below hb).cells
  obtain ⟨A', c', rfl, -, -⟩ := h.its.form
  obtain ⟨d0, d1, d2, d3, d4, d5⟩ := h6.cells
  have Hr := Lib.hid (hr.below hb)
  have Hk := Lib.hid (hk.below hb)
  have HB := Lib.hid hb
  have HNF : Hid (¬ F w.heap.size) := fun e => Nat.lt_irrefl _ (h.its.lt _ e)
  clear hb h h6 hr hk
  generalize hL : l.length = L at *
  have HL := Lib.hid hL
  generalize hR : w.heap.size = R at *
  have HR := Lib.hid hR
  have h2 : ¬ (kp < 0) := by omega
  have h3 : ¬ ((mo : Int) ≤ (L : Int)) := by omega
  clear hL
  have HC : Hid (∀ w', Below W.heap.size W w' → (w'.cell? ⟨a, 1, none⟩ = some (.slice A' L c') ∧ w'.cell? ⟨R, 0, none⟩ = some (.slice A n c) ∧ w'.cell? ⟨R, 1, none⟩ = some (.slice B n d) ∧ w'.cell? ⟨R, 2, none⟩ = some (.int .i64 kp) ∧ w'.cell? ⟨R, 3, none⟩ = some (.int .i64 wy) ∧ w'.cell? ⟨R, 4, none⟩ = some (.int .i64 od) ∧ w'.cell? ⟨R, 5, none⟩ = some (.int .i64 nw))) := fun w' h => ⟨below_read h c1, below_read h d0, below_read h d1, below_read h d2, below_read h d3, below_read h d4, below_read h d5⟩
  go_enter Tryz.func118, Tryz.ntmps118
  go_wp2
  (try rw [hW])
  go_quiet (fail)
  go_wp2_with fail
  clear hW hR
  refine region_T (fun j => j == 12) (fun w' => w'.cell? ⟨a, 1, none⟩ = some (.slice A' L c') ∧ w'.cell? ⟨R, 0, none⟩ = some (.slice A n c) ∧ w'.cell? ⟨R, 1, none⟩ = some (.slice B n d) ∧ w'.cell? ⟨R, 2, none⟩ = some (.int .i64 kp) ∧ w'.cell? ⟨R, 3, none⟩ = some (.int .i64 wy) ∧ w'.cell? ⟨R, 4, none⟩ = some (.int .i64 od) ∧ w'.cell? ⟨R, 5, none⟩ = some (.int .i64 nw)) (by kernel_rfl) ?_
  obtain ⟨X0, hX0, hbX0⟩ : ∃ X0 : World, (W.drewN nq).drew = X0 ∧ Below W.heap.size W X0 := ⟨_, rfl, (below_drewN (Below.refl _ W) _).drew⟩
  rw [hX0]
  clear hX0
  have hC := HC.out X0 hbX0
  refine takeT (i := 0) (v := ?_) rfl (by kernel_rfl) (by kernel_rfl) (by kernel_rfl) (by kernel_rfl) (fun _ _ _ h => h) hC (by rfl) ?_ ?_
  rotate_left
  · intro w hSw; (try dsimp only at hSw); go_simp; try (with_reducible rfl)
  try simp only [Act.put, List.setIfInBounds_toArray, List.set_cons_zero, List.set_cons_succ]
  refine takeT (i := 1) (v := ?_) rfl (by kernel_rfl) (by kernel_rfl) (by kernel_rfl) (by kernel_rfl) (fun _ _ _ h => h) hC (by rfl) ?_ ?_
  rotate_left
  · intro w hSw; (try dsimp only at hSw); go_simp; try (with_reducible rfl)
  try simp only [Act.put, List.setIfInBounds_toArray, List.set_cons_zero, List.set_cons_succ]
  refine takeT (i := 2) (v := ?_) rfl (by kernel_rfl) (by kernel_rfl) (by kernel_rfl) (by kernel_rfl) (fun _ _ _ h => h) hC (by rfl) ?_ ?_
  rotate_left
  · intro w hSw; (try dsimp only at hSw); go_simp; try (with_reducible rfl)
  try simp only [Act.put, List.setIfInBounds_toArray, List.set_cons_zero, List.set_cons_succ]
  refine takeT (i := 3) (v := ?_) rfl (by kernel_rfl) (by kernel_rfl) (by kernel_rfl) (by kernel_rfl) (fun _ _ _ h => h) hC (by rfl) ?_ ?_
  rotate_left
  · intro w hSw; (try dsimp only at hSw); go_simp; try (with_reducible rfl)
  try simp only [Act.put, List.setIfInBounds_toArray, List.set_cons_zero, List.set_cons_succ]
  refine takeT (i := 4) (v := ?_) rfl (by kernel_rfl) (by kernel_rfl) (by kernel_rfl) (by kernel_rfl) (fun _ _ _ h => h) hC (by rfl) ?_ ?_
  rotate_left
  · intro w hSw; (try dsimp only at hSw); go_simp; try (with_reducible rfl)
  try simp only [Act.put, List.setIfInBounds_toArray, List.set_cons_zero, List.set_cons_succ]
  refine takeT (i := 5) (v := ?_) rfl (by kernel_rfl) (by kernel_rfl) (by kernel_rfl) (by kernel_rfl) (fun _ _ _ h => h) hC (by rfl) ?_ ?_
  rotate_left
  · intro w hSw; (try dsimp only at hSw); go_simp; try (with_reducible rfl)
  try simp only [Act.put, List.setIfInBounds_toArray, List.set_cons_zero, List.set_cons_succ]
  refine oneT (i := 6) (by kernel_rfl) rfl (by rfl) (fun K hK => ?_)
  go_simp
  refine (recSame_walk A B n c n d ⟨ns, is, kp, wy, od, nw⟩ X0 (Hr.out.below hbX0) (Hk.out.below hbX0) (by simp only; have := HLN.out; omega) (by simp only; have := HLK.out; omega)).mono ?_
  rintro e X1 ⟨u, v, rfl, r1, k1, hst⟩
  obtain ⟨A3, n3, d3', rfl⟩ := r1.shape
  obtain ⟨A4, n4, d4', rfl⟩ := k1.shape
  have hbX1 := hbX0.trans (hst.mono hbX0.size)
  replace r1 := r1.lower (base' := W.heap.size) hbX0.size
  replace k1 := k1.lower (base' := W.heap.size) hbX0.size
  refine hK.out _ _ (fun _ => HC.out X1 hbX1) ?_
  clear hK K hst hC
  try simp only [Act.put, List.setIfInBounds_toArray, List.set_cons_zero, List.set_cons_succ]
  have hC := HC.out X1 hbX1
  refine takeT (i := 7) (v := ?_) rfl (by kernel_rfl) (by kernel_rfl) (by kernel_rfl) (by kernel_rfl) (fun _ _ _ h => h) hC (by rfl) ?_ ?_
  rotate_left
  · intro w hSw; (try dsimp only at hSw); go_simp; try (with_reducible rfl)
  try simp only [Act.put, List.setIfInBounds_toArray, List.set_cons_zero, List.set_cons_succ]
  refine oneT (i := 8) (by kernel_rfl) rfl (by rfl) (fun K hK => ?_)
  go_simp
  obtain ⟨X2, s, hX, hs, hst, hblk⟩ : ∃ (X2 : World) (s : Nat), X1.alloc (.cells #[.slice A3 n3 d3', .slice A4 n4 d4', .int .i64 kp, .int .i64 wy, .int .i64 od, .int .i64 nw, .int .u8 1, .bool false] itT) = X2 ∧ X1.heap.size = s ∧ Below X1.heap.size X1 X2 ∧ X2.heap[s]? = some (.cells #[.slice A3 n3 d3', .slice A4 n4 d4', .int .i64 kp, .int .i64 wy, .int .i64 od, .int .i64 nw, .int .u8 1, .bool false] itT (0, 0)) := ⟨_, _, rfl, rfl, below_new _ _, h_new rfl⟩
  (try rw [hX]); (try rw [hs])
  clear hX hs
  have hbX2 := hbX1.trans (hst.mono hbX1.size)
  replace r1 := r1.next hst
  replace k1 := k1.next hst
  refine hK.out _ _ (fun _ => HC.out X2 hbX2) ?_
  clear hK K hst hC
  try simp only [Act.put, List.setIfInBounds_toArray, List.set_cons_zero, List.set_cons_succ]
  have hC := HC.out X2 hbX2
  obtain ⟨P2, Y, F', hrun, ⟨A5, c5, rfl⟩, y1, z1, hT2, hO2, hF2, hkp2⟩ := HT.out.pushed (x := ⟨⟨ns, is, kp, wy, od, nw⟩, 1, false, .slice A3 n3 d3', .slice A4 n4 d4'⟩) hbX2 r1 k1 ⟨by simp only; have := HLN.out; omega, by simp only; have := HLK.out; omega⟩ (by have := HL.out; omega) s (cells_blk hblk)
  have HT2 : Hid (MadeT F w a mo l ⟨ns, is, kp, wy, od, nw⟩ (Y.setCell ⟨a, 1, none⟩ (.slice A5 (l.length + 1) c5))) := ⟨F', _, _, _, hT2, (Only.of_below F (by have := HR.out; subst this; exact HB.out)).then hO2, fun b e => (hF2 b e).imp id fun e => by have h1 := HB.out.size; have h2 := HR.out; omega⟩
  have q1 : (Y.setCell ⟨a, 1, none⟩ (.slice A5 (l.length + 1) c5)).cell? ⟨a, 1, none⟩ = some (.slice A5 (l.length + 1) c5) := hT2.cells.2.1
  rw [HL.out] at HT2 hrun q1
  clear hT2 hO2 hF2
  refine oneT (i := 9) (by kernel_rfl) rfl (by rfl) (fun K hK => ?_)
  refine Lib.wp_append_run _ (.tmp 38) (.tmp 42) _ _ rfl _ _ rfl rfl _ _ (hrun _) ?_
  obtain ⟨-, g0, g1, g2, g3, g4, g5⟩ := hC
  have hCY : Y.cell? ⟨a, 1, none⟩ = some (.slice A' L c') ∧ Y.cell? ⟨R, 0, none⟩ = some (.slice A n c) ∧ Y.cell? ⟨R, 1, none⟩ = some (.slice B n d) ∧ Y.cell? ⟨R, 2, none⟩ = some (.int .i64 kp) ∧ Y.cell? ⟨R, 3, none⟩ = some (.int .i64 wy) ∧ Y.cell? ⟨R, 4, none⟩ = some (.int .i64 od) ∧ Y.cell? ⟨R, 5, none⟩ = some (.int .i64 nw) := ⟨y1, hkp2 _ _ g0 HNF.out, hkp2 _ _ g1 HNF.out, hkp2 _ _ g2 HNF.out, hkp2 _ _ g3 HNF.out, hkp2 _ _ g4 HNF.out, hkp2 _ _ g5 HNF.out⟩
  clear g0 g1 g2 g3 g4 g5 hkp2
  refine hK.out _ _ (fun _ => hCY) ?_
  clear hK K
  try simp only [Act.put, List.setIfInBounds_toArray, List.set_cons_zero, List.set_cons_succ]
  refine oneT (i := 10) (by kernel_rfl) rfl (by rfl) (fun K hK => ?_)
  go_simp
  refine hK.out _ _ (fun _ => hCY) ?_
  clear hK K
  try simp only [Act.put, List.setIfInBounds_toArray, List.set_cons_zero, List.set_cons_succ]
  refine oneT (i := 11) (by kernel_rfl) rfl (by rfl) (fun K hK => ?_)
  go_simp
  refine hK.out _ _ (fun _ => hCY) ?_
  clear hK K
  try simp only [Act.put, List.setIfInBounds_toArray, List.set_cons_zero, List.set_cons_succ]
  clear hCY
  refine oneT (i := 12) (by kernel_rfl) rfl (by rfl) (fun K hK => ?_)
  go_simp
  refine hK.out _ _ (fun h => absurd h (by decide)) ?_
  clear hK K
  refine doneT (by kernel_rfl) ?_
  generalize hZ : Y.setCell ⟨a, 1, none⟩ (.slice A5 (L + 1) c5) = Z at *
  clear hZ y1 z1 c0 c1 d0 d1 d2 d3 d4 d5 hrun r1 k1 hbX0 hbX1 hbX2 hblk HC Hr Hk HT HB
  go_wp2
  go_ret2
  exact ⟨by first | rfl | (simp), HT2.out⟩
end
end Go.Proofs.YtcegianjpifnbaaGreat
