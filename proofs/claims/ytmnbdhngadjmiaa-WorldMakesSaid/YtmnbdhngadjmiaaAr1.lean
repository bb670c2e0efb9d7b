/-
  Words for the memory of layer 4: an arena (the program's, and the document's beside it) as blocks that it alone holds; what is read in them; what else may change without touching them.
-/
import Derived.Test.YtmnbdhngadjmiaaSame8
import Derived.Deep.AppendSrc
namespace Go.Proofs.Ytmnbdhngadjmiaa
open Go.RowKit
set_option linter.unusedVariables false
set_option maxRecDepth 20000

section
variable {F G : Nat → Prop} {w w' w2 : World}
end

section
variable {w w' : World} {base : Nat} {e : TypeId} {size : Nat} {v : Value} {n : Nat} {xs : List Value}
end

/-- A node as plain data. -/
structure Nd where
  inn : Bool
  tag : Bool
  ps : List (Int × Int)
  ks : List Int
  zs : List Int
def Nd.nil : Nd := ⟨false, false, [], [], []⟩
def Nd.small (d : Nd) : Prop := d.ps.length ≤ 100 ∧ d.ks.length ≤ 100 ∧ d.zs.length ≤ 100
/-- A place as plain data. -/
structure Pa where
  used : Bool
  cnt : Nat
  nd : Nd
  ws : List Int
  info : Int
  mark : Bool
/-- The slices that a place holds. -/
structure Vs where
  pv : Value
  kv : Value
  zv : Value
  wv : Value
def Vs.nil : Vs := ⟨.slice none 0 0, .slice none 0 0, .slice none 0 0, .slice none 0 0⟩
def Vs.at (v : Vs) (b : Nat) : Prop := v.pv.ownBlock = some b ∨ v.kv.ownBlock = some b ∨ v.zv.ownBlock = some b ∨ v.wv.ownBlock = some b

/-- A place's cells: the program's (false), the document's (true). -/
def cellsOf : Bool → Pa × Vs → List Value
  | false, (p, v) => [.bool p.used, .int .u32 p.cnt, .bool p.nd.inn, .bool p.nd.tag, v.pv, v.kv, v.zv, v.wv, .int .i64 p.info, .bool p.mark]
  | true, (p, v) => [.int .i64 p.cnt, .bool p.used, .bool p.nd.inn, .bool p.nd.tag, v.pv, v.kv, v.zv, v.wv, .int .i64 p.info, .bool p.mark]
theorem cellsOf_length (d : Bool) (x : Pa × Vs) : (cellsOf d x).length = 10 := by cases d <;> rfl
def rowOf (d : Bool) : List (Pa × Vs) → List Value
  | [] => []
  | x :: l => cellsOf d x ++ rowOf d l
theorem rowOf_length (d : Bool) (l : List (Pa × Vs)) : (rowOf d l).length = l.length * 10 := by
  induction l with
  | nil => rfl
  | cons x l ih => simp [rowOf, cellsOf_length, ih]; omega
theorem rowOf_append (d : Bool) (a b : List (Pa × Vs)) : rowOf d (a ++ b) = rowOf d a ++ rowOf d b := by
  induction a with
  | nil => rfl
  | cons x l ih => simp [rowOf, ih]
theorem rowOf_at (d : Bool) {l : List (Pa × Vs)} {i : Nat} {x : Pa × Vs} (h : l[i]? = some x) {j : Nat} (hj : j < 10) : (rowOf d l)[i * 10 + j]? = (cellsOf d x)[j]? := by
  induction l generalizing i with
  | nil => simp at h
  | cons q l ih =>
    cases i with
    | zero => simp at h; subst h; rw [rowOf, Nat.zero_mul, Nat.zero_add, List.getElem?_append_left (by rw [cellsOf_length]; exact hj)]
    | succ i =>
      rw [rowOf, List.getElem?_append_right (by rw [cellsOf_length]; omega), cellsOf_length]
      simp at h
      rw [← ih h]
      congr 1; omega
/-- The row with one cell written. -/
theorem rowOf_set1 (d : Bool) {l : List (Pa × Vs)} {i : Nat} {x y : Pa × Vs} (h : l[i]? = some x) {j : Nat} (hj : j < 10) (u : Value) (hy : cellsOf d y = (cellsOf d x).set j u) : (rowOf d l).set (i * 10 + j) u = rowOf d (l.set i y) := by
  induction l generalizing i with
  | nil => simp at h
  | cons q l ih =>
    cases i with
    | zero => simp at h; subst h; rw [rowOf, Nat.zero_mul, Nat.zero_add, List.set_append_left _ _ (by rw [cellsOf_length]; exact hj), List.set_cons_zero, rowOf, hy]
    | succ i =>
      rw [rowOf, List.set_append_right _ _ (by rw [cellsOf_length]; omega), cellsOf_length, List.set_cons_succ, rowOf]
      simp at h
      rw [← ih h]
      congr 2; omega
theorem rowOf_one (d : Bool) (l : List (Pa × Vs)) (hl : ∀ x ∈ l, ∀ u ∈ cellsOf d x, u.oneCell' = true) : ∀ u ∈ rowOf d l, u.oneCell' = true := by
  induction l with
  | nil => simp [rowOf]
  | cons x l ih =>
    intro u hu
    simp only [rowOf, List.mem_append] at hu
    rcases hu with hu | hu
    · exact hl x (List.mem_cons_self ..) u hu
    · exact ih (fun y hy => hl y (List.mem_cons_of_mem _ hy)) u hu

/-- The memory of a place: rows of its own. -/
structure PaM (w : World) (F : Nat → Prop) (x : Pa × Vs) : Prop where
  ps : Prs 0 w x.2.pv x.1.nd.ps
  ks : Row 2 0 w x.2.kv x.1.nd.ks
  zs : Row 30 0 w x.2.zv x.1.nd.zs
  ws : Row 30 0 w x.2.wv x.1.ws
  own : ∀ b, x.2.at b → F b
  small : x.1.nd.small
  few : x.1.ws.length ≤ 100
theorem PaM.keep {w w' : World} {F : Nat → Prop} {x : Pa × Vs} (h : PaM w F x) (hb : ∀ b, x.2.at b → w'.heap[b]? = w.heap[b]?) : PaM w' F x :=
  ⟨own_at h.ps fun b e => hb b (.inl e), own_at h.ks fun b e => hb b (.inr (.inl e)), own_at h.zs fun b e => hb b (.inr (.inr (.inl e))), own_at h.ws fun b e => hb b (.inr (.inr (.inr e))), h.own, h.small, h.few⟩
theorem PaM.mono {w : World} {F G : Nat → Prop} {x : Pa × Vs} (h : PaM w F x) (hs : ∀ b, F b → G b) : PaM w G x := ⟨h.ps, h.ks, h.zs, h.ws, fun b e => hs b (h.own b e), h.small, h.few⟩
/-- Blocks of other kinds aren't its. -/
theorem PaM.not {w : World} {F : Nat → Prop} {x : Pa × Vs} (h : PaM w F x) {b : Nat} {t : TypeId} (ht : Ty w b t) (h1 : t ≠ 119) (h2 : t ≠ 2) (h3 : t ≠ 30) : ¬ x.2.at b := by
  rintro (e | e | e | e)
  · exact h1 (ht.one (own_ty h.ps e))
  · exact h2 (ht.one (own_ty h.ks e))
  · exact h3 (ht.one (own_ty h.zs e))
  · exact h3 (ht.one (own_ty h.ws e))

/-- The queue of the places that were freed. -/
def Qn (w : World) (v : Value) (fr : List Nat) : Prop :=
  (v = .slice none 0 0 ∧ fr = []) ∨ ∃ g off c cur, v = .slice (some ⟨g, off, none⟩) fr.length c ∧ w.heap[g]? = some (.cells cur 3 (0, 0)) ∧ fr.length ≤ c ∧ off + c ≤ cur.size ∧ ∀ (i z : Nat), fr[i]? = some z → cur[off + i]? = some (.int .i64 (z : Int))
theorem Qn.nil (w : World) : Qn w (.slice none 0 0) [] := .inl ⟨rfl, rfl⟩
theorem Qn.at_ {w w' : World} {v : Value} {fr : List Nat} (h : Qn w v fr) (hb : ∀ b, v.ownBlock = some b → w'.heap[b]? = w.heap[b]?) : Qn w' v fr := by
  rcases h with h | ⟨g, off, c, cur, rfl, h1, r⟩
  · exact .inl h
  · exact .inr ⟨g, off, c, cur, rfl, (hb g rfl).trans h1, r⟩
theorem Qn.ty {w : World} {v : Value} {fr : List Nat} (h : Qn w v fr) {b : Nat} (hb : v.ownBlock = some b) : Ty w b 3 := by
  rcases h with ⟨rfl, _⟩ | ⟨g, off, c, cur, rfl, h1, _⟩
  · cases hb
  · injection hb with hb; subst hb; exact ⟨cur, h1⟩
theorem Qn.form {w : World} {v : Value} {fr : List Nat} (h : Qn w v fr) : ∃ A n c, v = .slice A n c ∧ n = fr.length ∧ Sl w A n c (fr.map Int.ofNat) := by
  rcases h with ⟨rfl, rfl⟩ | ⟨g, off, c, cur, rfl, h1, h2, h3, h4⟩
  · exact ⟨none, 0, 0, rfl, rfl, Sl.nil _⟩
  · refine ⟨_, _, c, rfl, rfl, by simp, h2, (fun e => by cases e), .inr ⟨g, off, rfl, fun i z hz => ?_⟩⟩
    rw [List.getElem?_map] at hz
    obtain ⟨y, hy, rfl⟩ : ∃ y, fr[i]? = some y ∧ Int.ofNat y = z := by
      cases e : fr[i]? with
      | none => rw [e] at hz; cases hz
      | some y => rw [e] at hz; exact ⟨y, rfl, by simpa using hz⟩
    rw [cell_of_row w g (off + i) cur _ (0, 0) h1, h4 i y hy]
    rfl

/-- What an arena is: places, those freed, how many there may be, faults. -/
structure As where
  most : Nat
  pls : List Pa
  fr : List Nat
  flt : Nat
def plT : Bool → TypeId
  | false => 84
  | true => 84
def hdT : Bool → TypeId
  | false => 90
  | true => 90
def hdOf : Bool → Nat → Value → Value → Nat → Array Value
  | false, m, P, Q, f => #[.int .i64 (m : Int), P, Q, .int .i64 (f : Int)]
  | true, m, P, Q, f => #[P, Q, .int .i64 (m : Int), .int .i64 (f : Int)]

/-- An arena at block a: F are its blocks. -/
structure Ar (d : Bool) (F : Nat → Prop) (w : World) (a : Nat) (S : As) (l : List (Pa × Vs)) (P Q : Value) : Prop where
  lt : ∀ b, F b → b < w.heap.size
  head : w.heap[a]? = some (.cells (hdOf d S.most P Q S.flt) (hdT d) (0, 0))
  fa : F a
  pls : S.pls = l.map Prod.fst
  row : w.ownsRow 0 (plT d) 10 P l.length (rowOf d l)
  frow : ∀ b, P.ownBlock = some b → F b
  que : Qn w Q S.fr
  fque : ∀ b, Q.ownBlock = some b → F b
  mem : ∀ x ∈ l, PaM w F x
  sep : ∀ (i j : Nat) (x y : Pa × Vs) (g : Nat), l[i]? = some x → l[j]? = some y → x.2.wv.ownBlock = some g → y.2.zv.ownBlock ≠ some g ∧ (i ≠ j → y.2.wv.ownBlock ≠ some g)
section
variable {d : Bool} {F G : Nat → Prop} {w w' : World} {a : Nat} {S : As} {l : List (Pa × Vs)} {P Q : Value}
theorem Ar.keep (h : Ar d F w a S l P Q) (hb : ∀ b, F b → w'.heap[b]? = w.heap[b]?) (hs : w.heap.size ≤ w'.heap.size) : Ar d F w' a S l P Q :=
  ⟨fun b hF => Nat.lt_of_lt_of_le (h.lt b hF) hs, (hb a h.fa).trans h.head, h.fa, h.pls, own_at h.row fun b e => hb b (h.frow b e), h.frow, h.que.at_ fun b e => hb b (h.fque b e), h.fque, fun x hx => (h.mem x hx).keep fun b e => hb b ((h.mem x hx).own b e), h.sep⟩
theorem Ar.below (h : Ar d F w a S l P Q) (hb : Below w.heap.size w w') : Ar d F w' a S l P Q := h.keep (fun b hF => hb.block b (h.lt b hF)) hb.size
theorem Ar.only (h : Ar d F w a S l P Q) (hb : Only G w w') (hd : ∀ b, F b → ¬ G b) : Ar d F w' a S l P Q := h.keep (fun b hF => hb.block b (h.lt b hF) (hd b hF)) hb.size
theorem Ar.tyA (h : Ar d F w a S l P Q) : Ty w a (hdT d) := ⟨_, h.head⟩
theorem Ar.free (h : Ar d F w a S l P Q) (j : Nat) : w.frozen? ⟨a, j, none⟩ = false := frozen_of_row w a j _ _ h.head
theorem Ar.lta (h : Ar d F w a S l P Q) : a < w.heap.size := h.lt a h.fa
theorem hdT_ne (d : Bool) : hdT d ≠ plT d ∧ hdT d ≠ 3 ∧ hdT d ≠ 119 ∧ hdT d ≠ 2 ∧ hdT d ≠ 30 := by cases d <;> decide
theorem plT_ne (d : Bool) : plT d ≠ hdT d ∧ plT d ≠ 3 ∧ plT d ≠ 119 ∧ plT d ≠ 2 ∧ plT d ≠ 30 := by cases d <;> decide
/-- A store into the head; what is stored fits. -/
theorem Ar.setHead (h : Ar d F w a S l P Q) (j : Nat) (u : Value) {m f : Nat} {P' Q' : Value} {fr : List Nat} (hh : (hdOf d S.most P Q S.flt).setIfInBounds j u = hdOf d m P' Q' f)
    (hP : P' = P) (hQ : Qn w Q' fr) (hQF : ∀ b, Q'.ownBlock = some b → F b) : Ar d F (w.setCell ⟨a, j, none⟩ u) a { S with most := m, flt := f, fr := fr } l P' Q' := by
  obtain ⟨n1, n2, n3, n4, n5⟩ := hdT_ne d
  subst hP
  have ho : ∀ b t, Ty w b t → hdT d ≠ t → (w.setCell ⟨a, j, none⟩ u).heap[b]? = w.heap[b]? := fun b t ht hne => heap_setCell_other w ⟨a, j, none⟩ b u (fun e => hne (h.tyA.one (by subst e; exact ht)))
  refine ⟨fun b hF => by simpa using h.lt b hF, ?_, h.fa, h.pls, own_set h.row (p := ⟨a, j, none⟩) h.tyA n1 u, h.frow, hQ.at_ fun b e => ho b _ (hQ.ty e) n2, hQF, fun x hx => (h.mem x hx).keep fun b e => heap_setCell_other w _ b u fun eb => ?_, h.sep⟩
  · rw [heap_setCell_same w a j _ _ u h.head, hh]
  · subst eb
    exact (h.mem x hx).not h.tyA n3 n4 n5 e
/-- A store of a place's row that was appended to. -/
theorem Ar.lenP (h : Ar d F w a S l P Q) : S.pls.length = l.length := by rw [h.pls, List.length_map]
theorem Ar.formP (h : Ar d F w a S l P Q) {i : Nat} {x : Pa × Vs} (hi : l[i]? = some x) : ∃ g c, P = .slice (some ⟨g, 0, none⟩) l.length c ∧ g < w.heap.size ∧ F g ∧ Ty w g (plT d) ∧ l.length ≤ c ∧ c ≤ maxLen ∧ (∀ j, j < 10 → w.cell? ⟨g, i * 10 + j, none⟩ = (cellsOf d x)[j]?) ∧ ∀ j, w.frozen? ⟨g, j, none⟩ = false := by
  have hr := h.row
  have hl : i < l.length := (List.getElem?_eq_some_iff.1 hi).1
  rcases h.row.2 with ⟨_, h0⟩ | ⟨g, cap, cur, rfl, _, hg, h1, h2, _⟩
  · omega
  · refine ⟨g, cap, rfl, (Array.getElem?_eq_some_iff.1 hg).1, h.frow g rfl, ⟨cur, hg⟩, h1, h2, fun j hj => ?_, fun j => frozen_of_row w g j _ _ hg⟩
    rw [World.ownsRow.cellAt hr _ (by omega), rowOf_at d hi hj]
end
end Go.Proofs.Ytmnbdhngadjmiaa
