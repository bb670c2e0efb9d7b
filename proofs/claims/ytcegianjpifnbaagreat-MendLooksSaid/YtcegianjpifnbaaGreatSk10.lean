/-
  Slices of small numbers that a law is handed.
-/
import Derived.Test.YtcegianjpifnbaaGreatPa
namespace Go.Proofs.YtcegianjpifnbaaGreat
open Go.RowKit
set_option linter.unusedVariables false
set_option maxRecDepth 20000
/-- A slice of n numbers of a kind, between lo and hi, reads as zs. -/
structure Sk (k : IntKind) (lo hi : Int) (w : World) (A : Option Addr) (n : Nat) (zs : List Int) : Prop where
  len : n = zs.length
  max : n ≤ maxLen
  rng : ∀ z ∈ zs, lo ≤ z ∧ z ≤ hi
  cells : zs = [] ∨ ∃ b off, A = some ⟨b, off, none⟩ ∧ ∀ (i : Nat) (z : Int), zs[i]? = some z → w.cell? ⟨b, off + i, none⟩ = some (.int k z)
section
variable {k : IntKind} {lo hi : Int} {w w' : World} {A : Option Addr} {n : Nat} {zs : List Int}
theorem Sk.keep (h : Sk k lo hi w A n zs) (hk : ∀ p : Addr, p.block < w.heap.size → w'.cell? p = w.cell? p) : Sk k lo hi w' A n zs := by
  refine ⟨h.len, h.max, h.rng, ?_⟩
  rcases h.cells with hn | ⟨b, off, rfl, hc⟩
  · exact .inl hn
  · refine .inr ⟨b, off, rfl, fun j u hu => ?_⟩
    have := hc j u hu
    rw [hk _ (World.block_lt_of_cell? w _ this)]
    exact this
theorem Sk.below (h : Sk k lo hi w A n zs) (hb : Below w.heap.size w w') : Sk k lo hi w' A n zs := h.keep fun _ hp => hb.cell hp
theorem Sk.at_ (h : Sk k lo hi w A n zs) {j : Nat} (hj : j < n) : ∃ b off z, A = some ⟨b, off, none⟩ ∧ b < w.heap.size ∧ zs[j]? = some z ∧ lo ≤ z ∧ z ≤ hi ∧ w.cell? ⟨b, off + j, none⟩ = some (.int k z) := by
  have hl : j < zs.length := by rw [← h.len]; exact hj
  rcases h.cells with rfl | ⟨b, off, rfl, hc⟩
  · simp at hl
  · have hz := List.getElem?_eq_getElem hl
    have := hc j _ hz
    exact ⟨b, off, _, rfl, World.block_lt_of_cell? w _ this, hz, (h.rng _ (List.getElem_mem hl)).1, (h.rng _ (List.getElem_mem hl)).2, this⟩
end
/-- Its cells in a world in which all that was handed is as it was. -/
theorem Sk.in_ {k : IntKind} {lo hi : Int} {w w' : World} {A : Option Addr} {n : Nat} {zs : List Int} (h : Sk k lo hi w A n zs) (hb : Below w.heap.size w w') {j : Nat} (hj : j < n) : ∃ b off z, A = some ⟨b, off, none⟩ ∧ zs[j]? = some z ∧ lo ≤ z ∧ z ≤ hi ∧ w'.cell? ⟨b, off + j, none⟩ = some (.int k z) := by
  obtain ⟨b, off, z, e, hl, hz, h1, h2, hc⟩ := h.at_ hj
  exact ⟨b, off, z, e, hz, h1, h2, (hb.cell hl).trans hc⟩
end Go.Proofs.YtcegianjpifnbaaGreat
