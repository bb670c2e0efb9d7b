/-
  How a slice of Wants reads.
-/
import Derived.Test.YtoeilogakfggfaaHp10
import Derived.Test.YtoeilogakfggfaaHq10
import Derived.Test.YtoeilogakfggfaaOpen10
namespace Go.Proofs.Ytoeilogakfggfaa
open Go.ChangeShapes Go.WideShapes Go.ChangeAt Go.RowKit Go.Deep
set_option linter.unusedVariables false
set_option maxRecDepth 20000

/-- Two cells read as a Want. -/
def WaC (w : World) (cs : List Value) (t : Nat × Int) : Prop := (t.1 < 256 ∧ -128 ≤ t.2 ∧ t.2 ≤ 127) ∧ cs = [.int .u8 (t.1 : Int), .int .i8 t.2]
section
variable {H : Type} {enc : TypeId × Value → H} {W : World} {b0 base : Nat} {spare : Nat → Bool} {held : Bool} {r : Reach}
/-- A slice of n structs of sz cells at A: each reads as told. -/
def Sts {α : Type} (R : World → List Value → α → Prop) (sz : Nat) (w : World) (A : Option Addr) (n : Nat) (l : List α) : Prop :=
  n = l.length ∧ n ≤ maxLen ∧ (l = [] ∨ ∃ b off, A = some ⟨b, off, none⟩ ∧ ∀ i s, l[i]? = some s → ∃ cs : List Value, cs.length = sz ∧ (∀ (j : Nat) (u : Value), cs[j]? = some u → w.cell? ⟨b, off + i * sz + j, none⟩ = some u) ∧ R w cs s)

theorem open_sts {α : Type} {R : World → List Value → α → Prop} {t e : TypeId} {sz : Nat} (ht : Try.prog.underlying t = some (.slice e)) (hC : Try.prog.cellsOf e = sz) (hsz : 0 < sz)
    (hR : ∀ (fuel : Nat) (cs : List Value) (x : DataW H × List MemPlace), DataW.trod enc Try.prog W base spare held fuel e cs = some x → ∃ s, R W cs s)
    {v : Value} {d : DataW H} {p : List MemPlace} (hv : Value.okWide Try.prog W r b0 t v) (h : DataW.Trod enc Try.prog W base spare held t v d p) :
    ∃ A n c l, v = .slice A n c ∧ Sts R sz W A n l ∧ n ≤ c := by
  obtain ⟨a0, len, cap, rfl⟩ := okWide_slice ht hv
  obtain ⟨fuel, hf⟩ := h
  rcases open_slice ht hf with ⟨h0, _⟩ | ⟨a, len', cap', m, q, D, Pl, hcs, hb, hl, hm, hmm, hx, hi⟩
  · simp [Value.cells] at h0
    obtain ⟨rfl, rfl, rfl⟩ := h0
    exact ⟨none, 0, 0, [], rfl, ⟨rfl, Nat.zero_le _, .inl rfl⟩, Nat.le_refl _⟩
  · simp [Value.cells] at hcs
    obtain ⟨rfl, rfl, rfl⟩ := hcs
    obtain ⟨l, hll, hr⟩ := list_of (R := fun i (s : α) => ∃ cs : List Value, cs.length = sz ∧ (∀ j, j < sz → W.cell? (a.add (i * sz + j)) = cs[j]?) ∧ R W cs s) len fun i hin => by
      have him : i < m := by rw [hmm]; split <;> omega
      obtain ⟨cs, hc, ht'⟩ := hi i him
      rw [hC] at hc
      obtain ⟨_, hcl, hat⟩ := World.cells?_some hc
      obtain ⟨s, hs⟩ := hR _ _ _ ht'
      exact ⟨s, cs, hcl, fun j hj => by rw [← addr_add]; exact hat j hj, hs⟩
    refine ⟨_, _, _, l, rfl, ⟨hll.symm, Nat.le_trans hl hm, ?_⟩, hl⟩
    by_cases h0 : l = []
    · exact .inl h0
    · right
      have hpos : 0 < l.length := List.length_pos_iff.2 h0
      obtain ⟨cs0, hl0, hc0, _⟩ := hr 0 _ (List.getElem?_eq_getElem hpos)
      have hc00 := hc0 0 hsz
      rw [List.getElem?_eq_getElem (by omega)] at hc00
      have e0 := addr_plain hc00
      have hx' : a = ⟨a.block, a.off, none⟩ := by simpa [Addr.add] using e0
      refine ⟨a.block, a.off, by rw [← hx'], fun i s hs => ?_⟩
      obtain ⟨cs, hl1, hc1, hR1⟩ := hr i s hs
      refine ⟨cs, hl1, fun j u hu => ?_, hR1⟩
      have hj : j < sz := by have := (List.getElem?_eq_some_iff.1 hu).1; omega
      have := hc1 j hj
      rw [hu] at this
      rw [addr_plain this, ← Nat.add_assoc] at this
      exact this

theorem open_wac {fuel : Nat} {cs : List Value} {x : DataW H × List MemPlace} (h : DataW.trod enc Try.prog W base spare held fuel 42 cs = some x) : ∃ t, WaC W cs t := by
  obtain ⟨xs, n, _, _, hcl, hxl, hfld⟩ := DataW.trod_struct Try.underlying42 h
  have h2 : cs.length = 2 := by
    have e : Try.prog.cellsOf 42 = 2 := by kernel_rfl
    rw [← e]; exact hcl
  have f0 := hfld 0 _ rfl
  have f1 := hfld 1 _ rfl
  have hx2 : xs.length = 2 := hxl
  have e0 : Try.prog.cellsOf 5 = 1 := by kernel_rfl
  have e1 : Try.prog.cellsOf 30 = 1 := by kernel_rfl
  match cs, h2 with
  | [c0, c1], _ =>
    have f0' : DataW.trod enc Try.prog W base spare held n 5 [c0] = xs[0]? := by rw [← f0]; simp [e0]
    have f1' : DataW.trod enc Try.prog W base spare held n 30 [c1] = xs[1]? := by rw [← f1]; simp [e1]
    rw [List.getElem?_eq_getElem (by omega)] at f0' f1'
    obtain ⟨k0, g0, _, b0⟩ := DataW.trod_int Try.underlying5 f0'
    obtain ⟨k1, g1, _, b1⟩ := DataW.trod_int Try.underlying30 f1'
    simp at g0 g1
    subst g0 g1
    obtain ⟨d, rfl⟩ := Int.eq_ofNat_of_zero_le (bounds_u8 b0).1
    exact ⟨(d, k1), ⟨by have := (bounds_u8 b0).2; simp only at this ⊢; omega, bounds_i8 b1⟩, rfl⟩

theorem wns_of {A : Option Addr} {n : Nat} {l : List (Nat × Int)} (h : Sts WaC 2 W A n l) : Wns W A n l := by
  obtain ⟨h1, _, h2⟩ := h
  refine ⟨h1, ?_, ?_⟩
  · intro t ht
    rcases h2 with e | ⟨b, off, _, hc⟩
    · subst e; cases ht
    · obtain ⟨i, hi, rfl⟩ := List.mem_iff_getElem.1 ht
      obtain ⟨cs, _, _, hw, _⟩ := hc i _ (List.getElem?_eq_getElem hi)
      exact hw
  · rcases h2 with e | ⟨b, off, e, hc⟩
    · exact .inl e
    · by_cases h0 : l = []
      · exact .inl h0
      · have hall : ∀ i t, l[i]? = some t → W.cell? ⟨b, off + i * 2, none⟩ = some (.int .u8 (t.1 : Int)) ∧ W.cell? ⟨b, off + i * 2 + 1, none⟩ = some (.int .i8 t.2) := fun i t hi => by
          obtain ⟨cs, hl, hcc, hw, rfl⟩ := hc i t hi
          exact ⟨hcc 0 _ rfl, hcc 1 _ rfl⟩
        have hpos : 0 < l.length := List.length_pos_iff.2 h0
        exact .inr ⟨b, off, e, World.block_lt_of_cell? W _ (hall 0 _ (List.getElem?_eq_getElem hpos)).1, hall⟩
theorem open_wants {v : Value} {d : DataW H} {p : List MemPlace} (hv : Value.okWide Try.prog W r b0 23 v) (h : DataW.Trod enc Try.prog W base spare held 23 v d p) :
    ∃ A n c l, v = .slice A n c ∧ Wns W A n l ∧ n ≤ c := by
  obtain ⟨A, n, c, l, e, hs, hc⟩ := open_sts (sz := 2) Try.underlying23 (by kernel_rfl) (by omega) (fun fuel cs x h => open_wac h) hv h
  exact ⟨A, n, c, l, e, wns_of hs, hc⟩
end
end Go.Proofs.Ytoeilogakfggfaa
