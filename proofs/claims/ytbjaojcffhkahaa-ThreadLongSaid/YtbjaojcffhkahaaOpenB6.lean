/-
  How flags read, opened to what the walks ask.
-/
import Derived.Test.YtbjaojcffhkahaaOpen6
import Derived.Test.YtbjaojcffhkahaaLong6
namespace Go.Proofs.Ytbjaojcffhkahaa
open Go.ChangeShapes Go.WideShapes Go.ChangeAt Go.RowKit Go.Deep
set_option linter.unusedVariables false
set_option maxRecDepth 20000

/-- One cell reads as a flag. -/
def BoC (w : World) (cs : List Value) (x : Bool) : Prop := cs = [.bool x]
section
variable {H : Type} {enc : TypeId × Value → H} {W : World} {b0 base : Nat} {spare : Nat → Bool} {held : Bool} {r : Reach}
theorem open_boc {fuel : Nat} {cs : List Value} {x : DataW H × List MemPlace} (h : DataW.trod enc Try.prog W base spare held fuel 4 cs = some x) : ∃ t, BoC W cs t := by
  obtain ⟨b, e, _⟩ := DataW.trod_bool Try.underlying4 h
  exact ⟨b, e⟩
theorem bl_of {A : Option Addr} {n : Nat} {l : List Bool} (h : Sts BoC 1 W A n l) : Bl W.heap.size W A n l := by
  obtain ⟨h1, _, h2⟩ := h
  refine ⟨h1, ?_⟩
  rcases h2 with e | ⟨b, off, e, hc⟩
  · exact .inl e
  · by_cases h0 : l = []
    · exact .inl h0
    · have hall : ∀ i t, l[i]? = some t → W.cell? ⟨b, off + i, none⟩ = some (.bool t) := fun i t hi => by
        obtain ⟨cs, hl, hcc, rfl⟩ := hc i t hi
        have := hcc 0 _ rfl
        simpa using this
      have hpos : 0 < l.length := List.length_pos_iff.2 h0
      exact .inr ⟨b, off, e, World.block_lt_of_cell? W _ (hall 0 _ (List.getElem?_eq_getElem hpos)), hall⟩
theorem open_bools {v : Value} {d : DataW H} {p : List MemPlace} (hv : Value.okWide Try.prog W r b0 52 v) (h : DataW.Trod enc Try.prog W base spare held 52 v d p) :
    ∃ A n c l, v = .slice A n c ∧ Bl W.heap.size W A n l ∧ n ≤ c := by
  obtain ⟨A, n, c, l, e, hs, hc⟩ := open_sts (sz := 1) Try.underlying52 (by kernel_rfl) (by omega) (fun fuel cs x h => open_boc h) hv h
  exact ⟨A, n, c, l, e, bl_of hs, hc⟩
end
end Go.Proofs.Ytbjaojcffhkahaa
