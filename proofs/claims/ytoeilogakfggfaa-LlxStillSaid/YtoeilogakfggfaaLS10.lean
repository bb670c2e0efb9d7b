/-
  Law LlxStores: nodes that nobody is at, loaded and stored alone, and again.
-/
import Derived.Test.YtoeilogakfggfaaCh10
import Derived.Lib.MinMax
namespace Go.Proofs.Ytoeilogakfggfaa
open Go.ChangeShapes Go.WideShapes Go.ChangeAt Go.RowKit
set_option linter.unusedVariables false
set_option linter.unusedSimpArgs false
set_option maxRecDepth 20000

/-- The nodes behind a Store: all have its record, those from kept on are marked, the first one's way is another one. -/
def fS (kept : Nat) (nw : Int) : Nat → Ns := fun i => ⟨1, decide (kept ≤ i), 200 + 10 * (i : Int), if i = 0 then nw else 201 + 10 * (i : Int)⟩
def rcS (k kept : Nat) (od nw : Int) (n : Int) : Rc := ⟨refN k, List.replicate k n, (kept : Int), 1, od, nw⟩
def sS (k kept : Nat) : Sig := sN 1 k (fS kept 66) [⟨rcS k kept 201 66 0, 2, true⟩]
def nS (k kept : Nat) : Nat := 7 * k + 1 + k + 1 + (k - kept) + 2
abbrev tS (k kept : Nat) (od nw : Int) : Tr (List Int) := tChange 40 (ndsN k) (kept : Int) 1 od nw
theorem ev_S {k kept : Nat} (hk : 1 ≤ k ∧ k ≤ 5) (hq : kept ≤ 6) : ev (tS k kept 201 66) (sN 1 k ns0 []) = ([1], sS k kept, nS k kept) := by
  have h1 : k = 1 ∨ k = 2 ∨ k = 3 ∨ k = 4 ∨ k = 5 := by omega
  have h2 : kept = 0 ∨ kept = 1 ∨ kept = 2 ∨ kept = 3 ∨ kept = 4 ∨ kept = 5 ∨ kept = 6 := by omega
  rcases h1 with rfl | rfl | rfl | rfl | rfl <;> rcases h2 with rfl | rfl | rfl | rfl | rfl | rfl | rfl <;> rfl
/-- A second time. -/
def sS2 (k kept : Nat) : Sig := (ev (tS k kept 66 67) (sS k kept)).2.1
theorem ev_S2 {k kept : Nat} (hk : 1 ≤ k ∧ k ≤ 5) (hq : kept ≤ 6) : (ev (tS k kept 66 67) (sS k kept)).1 = [if kept < k then -1 else 1] ∧ (ev (tS k kept 66 67) (sS k kept)).2.2 ≤ 60 ∧ ∃ p, (sS2 k kept).ar.hit (rfN 0) = some (2, p) ∧ wayAt p 1 = if kept < k then 66 else 67 := by
  have h1 : k = 1 ∨ k = 2 ∨ k = 3 ∨ k = 4 ∨ k = 5 := by omega
  have h2 : kept = 0 ∨ kept = 1 ∨ kept = 2 ∨ kept = 3 ∨ kept = 4 ∨ kept = 5 ∨ kept = 6 := by omega
  rcases h1 with rfl | rfl | rfl | rfl | rfl <;> rcases h2 with rfl | rfl | rfl | rfl | rfl | rfl | rfl <;> exact ⟨rfl, Nat.le_of_ble_eq_true rfl, _, rfl, rfl⟩
theorem stt_S0 {k : Nat} (hk : k ≤ 5) : Stt (ndsN k) 40 (sN 1 k ns0 []) := stt_sN (by omega) (fun j hj => ⟨in64_small (z := 200 + 10 * (j : Int)) (by omega), in64_small (z := 201 + 10 * (j : Int)) (by omega)⟩) (fun x hx => (by cases hx)) (by simp)
theorem stt_S {k kept : Nat} (hk : k ≤ 5) : Stt (ndsN k) 40 (sS k kept) := stt_sN (by omega) (fun j hj => ⟨in64_small (z := 200 + 10 * (j : Int)) (by omega), by
  show in64 (if j = 0 then 66 else 201 + 10 * (j : Int))
  exact in64_small (by split <;> omega)⟩) (fun x hx => by
  obtain rfl : x = ⟨rcS k kept 201 66 0, 2, true⟩ := by simpa using hx
  exact ⟨⟨by show (0 : Int) ≤ (kept : Int); omega, by show (refN k).length = (List.replicate k (0 : Int)).length; rw [refN_len, List.length_replicate], by show (refN k).length ≤ 20; rw [refN_len]; omega⟩, in64_small (z := 66) (by decide)⟩) (by simp)
theorem inv_S {k kept B : Nat} (hk : k ≤ 5) (hB : B ≤ 900) : Inv 1 B (sS k kept) := inv_sN (by omega) (by omega) hB (fun j hj => in01.2.1) (by simp)
theorem ndsN_fst (k : Nat) : (ndsN k).map Prod.fst = refN k := by simp [ndsN, refN]
theorem ndsN_len (k : Nat) : (ndsN k).length = k := by simp [ndsN]
theorem ndsN_all {k : Nat} : ∀ x ∈ ndsN k, x ∈ ndsN k ∧ x.2.small := fun x hx => ⟨hx, by obtain ⟨i, hi, rfl⟩ := List.mem_map.1 hx; exact nodeNd_small i⟩
end Go.Proofs.Ytoeilogakfggfaa
