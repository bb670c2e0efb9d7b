/-
  How the laws' arguments read: numbers, and an Inner: each opened to what the walks ask.
-/
import Derived.Test.YtpbbkfpapmomhaaInner1
import Derived.Deep.Slices
import Derived.Deep.Fields
import Derived.ChangeSame
import Derived.ProofKit
import Derived.OpenShut
namespace Go.Proofs.Ytpbbkfpapmomhaa
open Go.ChangeShapes Go.WideShapes Go.ChangeAt Go.RowKit Go.Deep
set_option linter.unusedVariables false

theorem addr_plain {w : World} {a : Addr} {i : Nat} {v : Value} (h : w.cell? (a.add i) = some v) : a.add i = ⟨a.block, a.off + i, none⟩ := by
  unfold Addr.add at *
  split
  · rename_i h0
    subst h0
    rw [if_pos rfl] at h
    unfold World.cell? at h
    rcases a with ⟨b, off, sp⟩
    cases sp with
    | none => rfl
    | some k => simp at h; split at h <;> simp at h
  · rfl

section
variable {H : Type} {enc : TypeId × Value → H} {W : World} {b0 base : Nat} {spare : Nat → Bool} {held : Bool} {r : Reach}

theorem open_sl {P : Program} {t e : TypeId} (ht : P.underlying t = some (.slice e)) (he : P.underlying e = some (.int .i64)) (hc : P.cellsOf e = 1) {fuel : Nat} {cs : List Value} {x : DataW H × List MemPlace} (h : DataW.trod enc P W base spare held fuel t cs = some x) :
    ∃ A n c zs, cs = [.slice A n c] ∧ Sl W A n c zs := by
  rcases open_ints ht he hc h with ⟨hcs, _⟩ | ⟨y, l, c, zs, hcs, _, hl, hm, hz, _, hcell, hwz⟩
  · exact ⟨none, 0, 0, [], hcs, Sl.nil _⟩
  · have hlz : l ≤ zs.length := by
      have hz' := hz
      split at hz' <;> omega
    refine ⟨some y, l, c, zs.take l, hcs, by rw [List.length_take]; omega, hl, fun e => (by cases e), ?_⟩
    by_cases h0 : l = 0
    · exact .inl (by simp [h0])
    · have e0 := addr_plain (hcell 0 (by omega))
      have hx : y = ⟨y.block, y.off, none⟩ := by simpa [Addr.add] using e0
      refine .inr ⟨y.block, y.off, by rw [← hx], fun i z hi => ?_⟩
      have hil : i < l := by
        have := (List.getElem?_eq_some_iff.1 hi).1
        rw [List.length_take] at this
        omega
      have hcl := hcell i (by omega)
      rw [addr_plain hcl] at hcl
      rw [hcl]
      rw [List.getElem?_take, if_pos hil] at hi
      simp [List.getD, hi]

theorem open_nums {v : Value} {d : DataW H} {p : List MemPlace} (hv : Value.okWide Try.prog W r b0 22 v) (h : DataW.Trod enc Try.prog W base spare held 22 v d p) :
    ∃ A n c zs, v = .slice A n c ∧ Sl W A n c zs := by
  obtain ⟨a0, len, cap, rfl⟩ := okWide_slice Try.underlying22 hv
  obtain ⟨fuel, hf⟩ := h
  obtain ⟨A, n, c, zs, e, hs⟩ := open_sl Try.underlying22 Try.underlying2 (by kernel_rfl) hf
  simp [Value.cells] at e
  obtain ⟨rfl, rfl, rfl⟩ := e
  exact ⟨_, _, _, zs, rfl, hs⟩

theorem open_inn {v : Value} {d : DataW H} {p : List MemPlace} (hv : Value.okWide Try.prog W r b0 26 v) (h : DataW.Trod enc Try.prog W base spare held 26 v d p) :
    ∃ A n c B m e ks ws, v = inn A n c B m e ∧ Sl W A n c ks ∧ Sl W B m e ws := by
  obtain ⟨cs, rfl, hsz⟩ := okWide_struct Try.underlying26 hv
  obtain ⟨fuel, hf⟩ := h
  obtain ⟨xs, n, _, _, hcl, hxl, hfld⟩ := DataW.trod_struct Try.underlying26 hf
  have h2 : cs.toList.length = 2 := by
    have e : Try.prog.cellsOf 26 = 2 := by kernel_rfl
    rw [← e]; exact hcl
  have f0 := hfld 0 _ rfl
  have f1 := hfld 1 _ rfl
  have hx2 : xs.length = 2 := hxl
  have e1 : Try.prog.cellsOf 22 = 1 := by kernel_rfl
  have e2 : Try.prog.cellsOf 24 = 1 := by kernel_rfl
  obtain ⟨l⟩ := cs
  match l, h2 with
  | [c0, c1], _ =>
    have f0' : DataW.trod enc Try.prog W base spare held n 22 [c0] = xs[0]? := by rw [← f0]; simp [Value.cells, e1]
    have f1' : DataW.trod enc Try.prog W base spare held n 24 [c1] = xs[1]? := by rw [← f1]; simp [Value.cells, e2]
    rw [List.getElem?_eq_getElem (by omega)] at f0' f1'
    obtain ⟨A, n1, k1, ks, g1, s1⟩ := open_sl Try.underlying22 Try.underlying2 (by kernel_rfl) f0'
    obtain ⟨B, n2, k2, ws, g2, s2⟩ := open_sl Try.underlying24 Try.underlying35 (by kernel_rfl) f1'
    simp at g1 g2
    subst g1 g2
    exact ⟨A, n1, k1, B, n2, k2, ks, ws, rfl, s1, s2⟩
end
end Go.Proofs.Ytpbbkfpapmomhaa
