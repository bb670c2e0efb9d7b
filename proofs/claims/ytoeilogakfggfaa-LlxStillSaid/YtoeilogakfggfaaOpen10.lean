/-
  How the laws' arguments read: slices of small numbers, opened to what the walks ask.
-/
import Derived.Test.YtoeilogakfggfaaSk10
import Derived.Deep.Slices
import Derived.Deep.Fields
import Derived.ChangeSame
import Derived.ChangeSlices
import Derived.ProofKit
import Derived.OpenShut
namespace Go.Proofs.Ytoeilogakfggfaa
open Go.ChangeShapes Go.WideShapes Go.ChangeAt Go.RowKit Go.Deep
set_option linter.unusedVariables false
set_option maxRecDepth 20000

theorem addr_add (a : Addr) (i j : Nat) : (a.add i).add j = a.add (i + j) := by
  unfold Addr.add
  by_cases hi : i = 0 <;> by_cases hj : j = 0 <;> simp [hi, hj, Nat.add_assoc]
theorem addr_plain {w : World} {a : Addr} {i : Nat} {v : Value} (h : w.cell? (a.add i) = some v) : a.add i = ⟨a.block, a.off + i, none⟩ := by
  unfold Addr.add at *
  split
  · rename_i h0
    subst h0
    rw [if_pos rfl] at h
    unfold World.cell? at h
    rcases a with ⟨b, off, sp⟩
    cases sp with
    | none => rfl
    | some k => simp at h; split at h <;> simp at h
  · rfl
theorem list_of {α : Type} {R : Nat → α → Prop} : ∀ (n : Nat), (∀ i, i < n → ∃ p, R i p) → ∃ l : List α, l.length = n ∧ ∀ i p, l[i]? = some p → R i p
  | 0, _ => ⟨[], rfl, fun i p h => by simp at h⟩
  | n + 1, h => by
    obtain ⟨l, hl, hr⟩ := list_of n fun i hi => h i (by omega)
    obtain ⟨p, hp⟩ := h n (by omega)
    refine ⟨l ++ [p], by simp [hl], fun i q hq => ?_⟩
    rw [List.getElem?_append] at hq
    split at hq
    · exact hr i q hq
    · rename_i hi
      have hii : i = n := by
        have := (List.getElem?_eq_some_iff.1 hq).1
        simp at this
        omega
      subst hii
      rw [hl] at hq
      simp at hq
      subst hq
      exact hp

section
variable {H : Type} {enc : TypeId × Value → H} {W : World} {b0 base : Nat} {spare : Nat → Bool} {held : Bool} {r : Reach}

theorem open_sk {t e : TypeId} {k : IntKind} {lo hi : Int} (ht : Try.prog.underlying t = some (.slice e)) (he : Try.prog.underlying e = some (.int k)) (hc : Try.prog.cellsOf e = 1) (hk : ∀ n : Int, (Lit.int k n).wf = true → lo ≤ n ∧ n ≤ hi) {fuel : Nat} {cs : List Value} {x : DataW H × List MemPlace} (h : DataW.trod enc Try.prog W base spare held fuel t cs = some x) :
    ∃ A n c zs, cs = [.slice A n c] ∧ Sk k lo hi W A n zs ∧ n ≤ c := by
  rcases open_ints ht he hc h with ⟨hcs, _⟩ | ⟨y, l, c, zs, hcs, _, hl, hm, hz, _, hcell, hwz⟩
  · exact ⟨none, 0, 0, [], hcs, ⟨rfl, Nat.zero_le _, (fun z hz => by cases hz), .inl rfl⟩, Nat.le_refl _⟩
  · have hlz : l ≤ zs.length := by
      have hz' := hz
      split at hz' <;> omega
    refine ⟨some y, l, c, zs.take l, hcs, ⟨by rw [List.length_take]; omega, Nat.le_trans hl hm, fun z hzz => hk z (hwz z (List.mem_of_mem_take hzz)), ?_⟩, hl⟩
    by_cases h0 : l = 0
    · exact .inl (by simp [h0])
    · have e0 := addr_plain (hcell 0 (by omega))
      have hx : y = ⟨y.block, y.off, none⟩ := by simpa [Addr.add] using e0
      refine .inr ⟨y.block, y.off, by rw [← hx], fun i z hi => ?_⟩
      have hil : i < l := by
        have := (List.getElem?_eq_some_iff.1 hi).1
        rw [List.length_take] at this
        omega
      have hcl := hcell i (by omega)
      rw [addr_plain hcl] at hcl
      rw [hcl]
      rw [List.getElem?_take, if_pos hil] at hi
      simp [List.getD, hi]
theorem open_bytes {v : Value} {d : DataW H} {p : List MemPlace} (hv : Value.okWide Try.prog W r b0 61 v) (h : DataW.Trod enc Try.prog W base spare held 61 v d p) :
    ∃ A n c zs, v = .slice A n c ∧ Sk .u8 (0) 255 W A n zs ∧ n ≤ c := by
  obtain ⟨a0, len, cap, rfl⟩ := okWide_slice Try.underlying61 hv
  obtain ⟨fuel, hf⟩ := h
  obtain ⟨A, n, c, zs, e, hs, hc⟩ := open_sk Try.underlying61 Try.underlying5 (by kernel_rfl) (fun n h => bounds_u8 h) hf
  simp [Value.cells] at e
  obtain ⟨rfl, rfl, rfl⟩ := e
  exact ⟨_, _, _, zs, rfl, hs, hc⟩
theorem open_i8s {v : Value} {d : DataW H} {p : List MemPlace} (hv : Value.okWide Try.prog W r b0 22 v) (h : DataW.Trod enc Try.prog W base spare held 22 v d p) :
    ∃ A n c zs, v = .slice A n c ∧ Sk .i8 (-128) 127 W A n zs ∧ n ≤ c := by
  obtain ⟨a0, len, cap, rfl⟩ := okWide_slice Try.underlying22 hv
  obtain ⟨fuel, hf⟩ := h
  obtain ⟨A, n, c, zs, e, hs, hc⟩ := open_sk Try.underlying22 Try.underlying30 (by kernel_rfl) (fun n h => bounds_i8 h) hf
  simp [Value.cells] at e
  obtain ⟨rfl, rfl, rfl⟩ := e
  exact ⟨_, _, _, zs, rfl, hs, hc⟩
end
end Go.Proofs.Ytoeilogakfggfaa
