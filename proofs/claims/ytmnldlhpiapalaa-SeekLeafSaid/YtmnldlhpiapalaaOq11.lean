/-
  How a plan reads, opened to what the walks ask.
-/
import Derived.Test.YtmnldlhpiapalaaOp11
import Derived.Test.YtmnldlhpiapalaaPh
namespace Go.Proofs.Ytmnldlhpiapalaa
open Go.ChangeShapes Go.WideShapes Go.ChangeAt Go.RowKit Go.Deep
set_option linter.unusedVariables false
set_option linter.unusedSimpArgs false
set_option maxRecDepth 20000
section
variable {H : Type} {enc : TypeId × Value → H} {W : World} {b0 base : Nat} {spare : Nat → Bool} {held : Bool} {r : Reach}
theorem open_plan {v : Value} {d : DataW H} {p : List MemPlace} (hv : Value.okWide Try.prog W r b0 90 v) (h : DataW.Trod enc Try.prog W base spare held 90 v d p) : ∃ n0 n1 n2 n3 n4, PlanR W v n0 n1 n2 n3 n4 := by
  obtain ⟨cs, rfl, hsz⟩ := okWide_struct Try.underlying90 hv
  obtain ⟨fuel, hf⟩ := h
  obtain ⟨l⟩ := cs
  have hf : DataW.trod enc Try.prog W base spare held fuel 90 l = some (d, p) := by simpa [Value.cells] using hf
  obtain ⟨xs, n, _, _, hcl, hxl, hfld⟩ := DataW.trod_struct Try.underlying90 hf
  have h6 : l.length = 5 := by
    have e : Try.prog.cellsOf 90 = 5 := by kernel_rfl
    rw [← e]; exact hcl
  have f0 := hfld 0 _ rfl
  have f1 := hfld 1 _ rfl
  have f2 := hfld 2 _ rfl
  have f3 := hfld 3 _ rfl
  have f4 := hfld 4 _ rfl
  have hx2 : xs.length = 5 := hxl
  have e0 : Try.prog.cellsOf 29 = 1 := by kernel_rfl
  have e1 : Try.prog.cellsOf 61 = 1 := by kernel_rfl
  match l, h6 with
  | [c0, c1, c2, c3, c4], _ =>
    have f0' : DataW.trod enc Try.prog W base spare held n 29 [c0] = xs[0]? := by rw [← f0]; simp [e0]
    have f1' : DataW.trod enc Try.prog W base spare held n 61 [c1] = xs[1]? := by rw [← f1]; simp [e0, e1]
    have f2' : DataW.trod enc Try.prog W base spare held n 61 [c2] = xs[2]? := by rw [← f2]; simp [e0, e1]
    have f3' : DataW.trod enc Try.prog W base spare held n 61 [c3] = xs[3]? := by rw [← f3]; simp [e0, e1]
    have f4' : DataW.trod enc Try.prog W base spare held n 61 [c4] = xs[4]? := by rw [← f4]; simp [e0, e1]
    rw [List.getElem?_eq_getElem (by omega)] at f0' f1' f2' f3' f4'
    obtain ⟨A0, n0, k0, ks, g0, s0, _⟩ := open_sl Try.underlying29 Try.underlying2 (by kernel_rfl) f0'
    obtain ⟨A1, n1, k1, l1, g1, s1, _⟩ := open_sk Try.underlying61 Try.underlying5 (by kernel_rfl) (fun n h => bounds_u8 h) f1'
    obtain ⟨A2, n2, k2, l2, g2, s2, _⟩ := open_sk Try.underlying61 Try.underlying5 (by kernel_rfl) (fun n h => bounds_u8 h) f2'
    obtain ⟨A3, n3, k3, l3, g3, s3, _⟩ := open_sk Try.underlying61 Try.underlying5 (by kernel_rfl) (fun n h => bounds_u8 h) f3'
    obtain ⟨A4, n4, k4, l4, g4, s4, _⟩ := open_sk Try.underlying61 Try.underlying5 (by kernel_rfl) (fun n h => bounds_u8 h) f4'
    simp at g0 g1 g2 g3 g4
    subst g0 g1 g2 g3 g4
    exact ⟨n0, n1, n2, n3, n4, ⟨A0, k0, ks, A1, k1, l1, A2, k2, l2, A3, k3, l3, A4, k4, l4, rfl, s0, s1, s2, s3, s4⟩⟩
end
end Go.Proofs.Ytmnldlhpiapalaa
