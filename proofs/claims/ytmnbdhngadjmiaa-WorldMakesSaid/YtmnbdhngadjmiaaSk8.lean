/-
  Slices of small numbers that a law is handed.
-/
import Derived.Test.YtmnbdhngadjmiaaLawE
namespace Go.Proofs.Ytmnbdhngadjmiaa
open Go.RowKit
set_option linter.unusedVariables false
set_option maxRecDepth 20000
/-- A slice of n numbers of a kind, between lo and hi, reads as zs. -/
structure Sk (k : IntKind) (lo hi : Int) (w : World) (A : Option Addr) (n : Nat) (zs : List Int) : Prop where
  len : n = zs.length
  max : n ≤ maxLen
  rng : ∀ z ∈ zs, lo ≤ z ∧ z ≤ hi
  cells : zs = [] ∨ ∃ b off, A = some ⟨b, off, none⟩ ∧ ∀ (i : Nat) (z : Int), zs[i]? = some z → w.cell? ⟨b, off + i, none⟩ = some (.int k z)
section
variable {k : IntKind} {lo hi : Int} {w w' : World} {A : Option Addr} {n : Nat} {zs : List Int}
theorem Sk.keep (h : Sk k lo hi w A n zs) (hk : ∀ p : Addr, p.block < w.heap.size → w'.cell? p = w.cell? p) : Sk k lo hi w' A n zs := by
  refine ⟨h.len, h.max, h.rng, ?_⟩
  rcases h.cells with hn | ⟨b, off, rfl, hc⟩
  · exact .inl hn
  · refine .inr ⟨b, off, rfl, fun j u hu => ?_⟩
    have := hc j u hu
    rw [hk _ (World.block_lt_of_cell? w _ this)]
    exact this
theorem Sk.below (h : Sk k lo hi w A n zs) (hb : Below w.heap.size w w') : Sk k lo hi w' A n zs := h.keep fun _ hp => hb.cell hp
theorem Sk.at_ (h : Sk k lo hi w A n zs) {j : Nat} (hj : j < n) : ∃ b off z, A = some ⟨b, off, none⟩ ∧ b < w.heap.size ∧ zs[j]? = some z ∧ lo ≤ z ∧ z ≤ hi ∧ w.cell? ⟨b, off + j, none⟩ = some (.int k z) := by
  have hl : j < zs.length := by rw [← h.len]; exact hj
  rcases h.cells with rfl | ⟨b, off, rfl, hc⟩
  · simp at hl
  · have hz := List.getElem?_eq_getElem hl
    have := hc j _ hz
    exact ⟨b, off, _, rfl, World.block_lt_of_cell? w _ this, hz, (h.rng _ (List.getElem_mem hl)).1, (h.rng _ (List.getElem_mem hl)).2, this⟩
end
/-- Its cells in a world in which all that was handed is as it was. -/
theorem Sk.in_ {k : IntKind} {lo hi : Int} {w w' : World} {A : Option Addr} {n : Nat} {zs : List Int} (h : Sk k lo hi w A n zs) (hb : Below w.heap.size w w') {j : Nat} (hj : j < n) : ∃ b off z, A = some ⟨b, off, none⟩ ∧ zs[j]? = some z ∧ lo ≤ z ∧ z ≤ hi ∧ w'.cell? ⟨b, off + j, none⟩ = some (.int k z) := by
  obtain ⟨b, off, z, e, hl, hz, h1, h2, hc⟩ := h.at_ hj
  exact ⟨b, off, z, e, hz, h1, h2, (hb.cell hl).trans hc⟩
theorem allB_snoc (now : Int) (S : List Tq) (r j : Nat) : allB now S (r + 1) j = (allB now S r j && !(decide (saidOf S (j + r) ≠ now ∧ saidOf S (j + r) ≠ -1))) ∧ allN now S (r + 1) j = allN now S r j + (if allB now S r j then 1 else 0) := by
  induction r generalizing j with
  | zero =>
    simp only [allB, allN, Nat.add_zero]
    by_cases h : saidOf S j ≠ now ∧ saidOf S j ≠ -1
    · simp [h]
    · rw [if_neg h, if_neg h]; simp [h]
  | succ r ih =>
    obtain ⟨i1, i2⟩ := ih (j + 1)
    rw [show j + 1 + r = j + (r + 1) from by omega] at i1
    by_cases h : saidOf S j ≠ now ∧ saidOf S j ≠ -1
    · simp only [allB, allN, if_pos h]
      simp
    · have e1 : allB now S (r + 1) j = allB now S r (j + 1) := by simp only [allB]; rw [if_neg h]
      have e2 : allN now S (r + 1) j = allN now S r (j + 1) + 1 := by simp only [allN]; rw [if_neg h]
      have e3 : allB now S (r + 1 + 1) j = allB now S (r + 1) (j + 1) := by rw [allB, if_neg h]
      have e4 : allN now S (r + 1 + 1) j = allN now S (r + 1) (j + 1) + 1 := by rw [allN, if_neg h]
      rw [e1, e2, e3, e4, i1, i2]
      refine ⟨rfl, by omega⟩
theorem allN_le (now : Int) (S : List Tq) (r j : Nat) : allN now S r j ≤ r := by
  induction r generalizing j with
  | zero => exact Nat.le_refl _
  | succ r ih =>
    simp only [allN]
    split
    · omega
    · have := ih (j + 1); omega
/-- The first k of l announced. -/
def annS (l : List Int) (k : Nat) : List Tq := (l.take k).map (fun z => (z, [])) ++ List.replicate (l.length - k) (-1, [])
theorem annS_len (l : List Int) (k : Nat) (h : k ≤ l.length) : (annS l k).length = l.length := by simp [annS]; omega
theorem annS_set (l : List Int) (k : Nat) (z : Int) (h : l[k]? = some z) : setSaid (annS l k) k z = annS l (k + 1) := by
  have hk : k < l.length := (List.getElem?_eq_some_iff.1 h).1
  have hz : l[k] = z := (List.getElem?_eq_some_iff.1 h).2
  apply List.ext_getElem?
  intro j
  rw [said_at]
  unfold annS
  have lt : ((l.take k).map (fun z => ((z, []) : Tq))).length = k := by simp; omega
  have lt2 : ((l.take (k + 1)).map (fun z => ((z, []) : Tq))).length = k + 1 := by simp; omega
  by_cases hj : k = j
  · subst hj
    rw [if_pos rfl, List.getElem?_append_right (by omega), List.getElem?_append_left (by omega)]
    rw [lt]
    simp only [Nat.sub_self, List.getElem?_replicate, List.getElem?_map, List.getElem?_take]
    rw [if_pos (by omega), if_pos (by omega), h]
    rfl
  · rw [if_neg hj]
    by_cases h1 : j < k
    · rw [List.getElem?_append_left (by omega), List.getElem?_append_left (by omega)]
      simp only [List.getElem?_map, List.getElem?_take]
      rw [if_pos h1, if_pos (by omega)]
    · rw [List.getElem?_append_right (by omega), List.getElem?_append_right (by omega), lt, lt2]
      simp only [List.getElem?_replicate]
      by_cases h2 : j < l.length
      · rw [if_pos (by omega), if_pos (by omega)]
      · rw [if_neg (by omega), if_neg (by omega)]
theorem annS_end (l : List Int) : annS l l.length = l.map fun z => (z, []) := by simp [annS]
theorem annS_zero (l : List Int) : annS l 0 = List.replicate l.length (-1, []) := by simp [annS]
theorem said_ann (l : List Int) (j : Nat) (z : Int) (h : l[j]? = some z) : saidOf (l.map fun z => ((z, []) : Tq)) j = z := by
  unfold saidOf
  rw [List.getElem?_map, h]
  rfl
end Go.Proofs.Ytmnbdhngadjmiaa
