/-
  Words for the memory of layer 2: a slice of pairs that reads as a list of pairs of numbers ('Lf'), and how it is kept while the world grows. No program in sight.
-/
import Derived.Test.YtmnbdhngadjmiaaBase8
import Derived.WalkKit
import Derived.Below
import Derived.Laws.OwnMore
import Derived.Lib.Hide
import Derived.Deep.Draws
namespace Go.Proofs.Ytmnbdhngadjmiaa
open Go.RowKit

/-- The cells of pairs: key, value, key, value .. -/
def cellsP : List (Int × Int) → List Value
  | [] => []
  | p :: l => .int .i64 p.1 :: .int .i64 p.2 :: cellsP l

theorem cellsP_length (l : List (Int × Int)) : (cellsP l).length = l.length * 2 := by
  induction l with
  | nil => rfl
  | cons p l ih => simp [cellsP, ih]; omega

theorem cellsP_append (a b : List (Int × Int)) : cellsP (a ++ b) = cellsP a ++ cellsP b := by
  induction a with
  | nil => rfl
  | cons p l ih => simp [cellsP, ih]

theorem cellsP_oneCell (l : List (Int × Int)) : ∀ u ∈ cellsP l, u.oneCell' = true := by
  induction l with
  | nil => simp [cellsP]
  | cons p l ih =>
    intro u hu
    simp only [cellsP, List.mem_cons] at hu
    rcases hu with rfl | rfl | hu
    · rfl
    · rfl
    · exact ih u hu

theorem cellsP_key {l : List (Int × Int)} {i : Nat} {p : Int × Int} (h : l[i]? = some p) : (cellsP l)[i * 2]? = some (.int .i64 p.1) := by
  induction l generalizing i with
  | nil => simp at h
  | cons q l ih =>
    cases i with
    | zero => simp at h; subst h; rfl
    | succ i => rw [Nat.succ_mul]; simp at h; simpa [cellsP] using ih h

theorem cellsP_value {l : List (Int × Int)} {i : Nat} {p : Int × Int} (h : l[i]? = some p) : (cellsP l)[i * 2 + 1]? = some (.int .i64 p.2) := by
  induction l generalizing i with
  | nil => simp at h
  | cons q l ih =>
    cases i with
    | zero => simp at h; subst h; rfl
    | succ i => rw [Nat.succ_mul]; simp at h; simpa [cellsP] using ih h

/-- A slice of n pairs at A reads as the list l. -/
def Lf (w : World) (A : Option Addr) (n : Nat) (l : List (Int × Int)) : Prop :=
  n = l.length ∧ (l = [] ∨ ∃ b off, A = some ⟨b, off, none⟩ ∧ ∀ j u, (cellsP l)[j]? = some u → w.cell? ⟨b, off + j, none⟩ = some u)

section
variable {w w' : World} {A : Option Addr} {n : Nat} {l : List (Int × Int)}

theorem Lf.nil (w : World) (A : Option Addr) : Lf w A 0 [] := ⟨rfl, .inl rfl⟩

theorem Lf.len (h : Lf w A n l) : n = l.length := h.1

/-- The cells of the element at a place. -/
theorem Lf.at_ (h : Lf w A n l) {k : Nat} (hk : k < l.length) :
    ∃ b off, A = some ⟨b, off, none⟩ ∧ b < w.heap.size ∧ w.cell? ⟨b, off + k * 2, none⟩ = some (.int .i64 l[k].1) ∧ w.cell? ⟨b, off + k * 2 + 1, none⟩ = some (.int .i64 l[k].2) := by
  rcases h.2 with rfl | ⟨b, off, rfl, hc⟩
  · simp at hk
  · have e : l[k]? = some l[k] := List.getElem?_eq_getElem hk
    have c1 := hc _ _ (cellsP_key e)
    have c2 := hc _ _ (cellsP_value e)
    rw [← Nat.add_assoc] at c2
    exact ⟨b, off, rfl, World.block_lt_of_cell? w _ c1, c1, c2⟩

theorem Lf.keep (h : Lf w A n l) (hk : ∀ p : Addr, p.block < w.heap.size → w'.cell? p = w.cell? p) : Lf w' A n l := by
  refine ⟨h.1, ?_⟩
  rcases h.2 with hn | ⟨b, off, rfl, hc⟩
  · exact .inl hn
  · refine .inr ⟨b, off, rfl, fun j u hu => ?_⟩
    have := hc j u hu
    rw [hk _ (World.block_lt_of_cell? w _ this)]
    exact this

theorem Lf.below (h : Lf w A n l) (hb : Below w.heap.size w w') : Lf w' A n l := h.keep fun _ hp => hb.cell hp
theorem Lf.drewN (h : Lf w A n l) (k : Nat) : Lf (w.drewN k) A n l := h
theorem Lf.drew (h : Lf w A n l) : Lf w.drew A n l := h
theorem Lf.alloc (h : Lf w A n l) (o : Obj) : Lf (w.alloc o) A n l := h.keep fun p hp => World.cell?_alloc_lt w o p hp

/-- What a call has made of its own reads as pairs. -/
theorem Lf.of_own {base : Nat} {e : TypeId} {c : Nat} (h : w.ownsRow base e 2 (.slice A n c) n (cellsP l)) : Lf w A n l := by
  have hl : n = l.length := by have := h.1; rw [cellsP_length] at this; omega
  refine ⟨hl, ?_⟩
  rcases h.2 with ⟨_, h0⟩ | ⟨g, cap, cur, hv, _⟩
  · exact .inl (List.eq_nil_of_length_eq_zero (by omega))
  · injection hv with hA
    subst hA
    refine .inr ⟨g, 0, rfl, fun j u hu => ?_⟩
    have hj : j < (cellsP l).length := (List.getElem?_eq_some_iff.1 hu).1
    rw [Nat.zero_add, ← hu]
    exact h.cellAt j (by rw [cellsP_length] at hj; omega)

/-- A cut from a place on. -/
theorem Lf.from_ (h : Lf w A n l) {k c : Nat} (hk : k ≤ n) (hc : n ≤ c) : Lf w (if c = k then A else A.map (·.add (k * 2))) (n - k) (l.drop k) := by
  refine ⟨by rw [List.length_drop, h.1], ?_⟩
  by_cases h0 : k = n
  · exact .inl (List.drop_eq_nil_of_le (by have := h.1; omega))
  · rw [if_neg (by omega)]
    rcases h.2 with rfl | ⟨b, off, rfl, hcell⟩
    · exact .inl (by simp)
    · refine .inr ⟨b, off + k * 2, ?_, fun j u hu => ?_⟩
      · simp only [Option.map_some, Addr.add]
        split
        · rename_i e; rw [e]; rfl
        · rfl
      · have e : cellsP l = cellsP (l.take k) ++ cellsP (l.drop k) := by rw [← cellsP_append, List.take_append_drop]
        have hl : (cellsP (l.take k)).length = k * 2 := by rw [cellsP_length, List.length_take]; have := h.1; omega
        have := hcell (k * 2 + j) u (by rw [e, List.getElem?_append_right (by omega), hl, Nat.add_sub_cancel_left]; exact hu)
        rw [← Nat.add_assoc] at this
        exact this

/-- A cut up to a place. -/
theorem Lf.upto (h : Lf w A n l) {k : Nat} (hk : k ≤ n) : Lf w A k (l.take k) := by
  refine ⟨by rw [List.length_take]; have := h.1; omega, ?_⟩
  rcases h.2 with rfl | ⟨b, off, rfl, hcell⟩
  · exact .inl (by simp)
  · refine .inr ⟨b, off, rfl, fun j u hu => hcell j u ?_⟩
    have e : cellsP l = cellsP (l.take k) ++ cellsP (l.drop k) := by rw [← cellsP_append, List.take_append_drop]
    rw [e, List.getElem?_append_left (List.getElem?_eq_some_iff.1 hu).1]
    exact hu
end

/-- The cells below are read as they were. -/
theorem bcell {W w1 : World} (hb : Below W.heap.size W w1) : (∀ b o, b < W.heap.size → w1.cell? ⟨b, o, none⟩ = W.cell? ⟨b, o, none⟩) ∧ (∀ b o, b < W.heap.size → w1.frozen? ⟨b, o, none⟩ = W.frozen? ⟨b, o, none⟩) :=
  ⟨fun b o h => hb.cell (p := ⟨b, o, none⟩) h, fun b o h => hb.frozen (p := ⟨b, o, none⟩) h⟩
end Go.Proofs.Ytmnbdhngadjmiaa
