/-
  How programs and bytes read, opened to what the walks ask.
-/
import Derived.Test.YtbjaojcffhkahaaOpen6
import Derived.Test.YtbjaojcffhkahaaLawM
namespace Go.Proofs.Ytbjaojcffhkahaa
open Go.ChangeShapes Go.WideShapes Go.ChangeAt Go.RowKit Go.Deep
set_option linter.unusedVariables false
set_option maxRecDepth 20000

/-- One cell reads as a program, as a byte. -/
def PsC (w : World) (cs : List Value) (p : Ps) : Prop := cs = [.slice p.A p.n p.cp] ∧ Pg w.heap.size w p.A p.n p.pr
def ByC (w : World) (cs : List Value) (x : Nat) : Prop := cs = [.int .u8 (x : Int)] ∧ x < 256
section
variable {H : Type} {enc : TypeId × Value → H} {W : World} {b0 base : Nat} {spare : Nat → Bool} {held : Bool} {r : Reach}
theorem open_sts0 {α : Type} {R : World → List Value → α → Prop} {t e : TypeId} {sz : Nat} (ht : Try.prog.underlying t = some (.slice e)) (hC : Try.prog.cellsOf e = sz) (hsz : 0 < sz)
    (hR : ∀ (fuel : Nat) (cs : List Value) (x : DataW H × List MemPlace), DataW.trod enc Try.prog W base spare held fuel e cs = some x → ∃ s, R W cs s)
    {fuel : Nat} {cs : List Value} {x : DataW H × List MemPlace} (hf : DataW.trod enc Try.prog W base spare held fuel t cs = some x) :
    ∃ A n c l, cs = [.slice A n c] ∧ Sts R sz W A n l ∧ n ≤ c := by
  rcases open_slice ht hf with ⟨h0, _⟩ | ⟨a, len', cap', m, q, D, Pl, hcs, hb, hl, hm, hmm, hx, hi⟩
  · exact ⟨none, 0, 0, [], h0, ⟨rfl, Nat.zero_le _, .inl rfl⟩, Nat.le_refl _⟩
  · obtain ⟨l, hll, hr⟩ := list_of (R := fun i (s : α) => ∃ cs : List Value, cs.length = sz ∧ (∀ j, j < sz → W.cell? (a.add (i * sz + j)) = cs[j]?) ∧ R W cs s) len' fun i hin => by
      have him : i < m := by rw [hmm]; split <;> omega
      obtain ⟨cs, hc, ht'⟩ := hi i him
      rw [hC] at hc
      obtain ⟨_, hcl, hat⟩ := World.cells?_some hc
      obtain ⟨s, hs⟩ := hR _ _ _ ht'
      exact ⟨s, cs, hcl, fun j hj => by rw [← addr_add]; exact hat j hj, hs⟩
    refine ⟨_, _, _, l, hcs, ⟨hll.symm, Nat.le_trans hl hm, ?_⟩, hl⟩
    by_cases h0 : l = []
    · exact .inl h0
    · right
      have hpos : 0 < l.length := List.length_pos_iff.2 h0
      obtain ⟨cs0, hl0, hc0, _⟩ := hr 0 _ (List.getElem?_eq_getElem hpos)
      have hc00 := hc0 0 hsz
      rw [List.getElem?_eq_getElem (by omega)] at hc00
      have e0 := addr_plain hc00
      have hx' : a = ⟨a.block, a.off, none⟩ := by simpa [Addr.add] using e0
      refine ⟨a.block, a.off, by rw [← hx'], fun i s hs => ?_⟩
      obtain ⟨cs, hl1, hc1, hR1⟩ := hr i s hs
      refine ⟨cs, hl1, fun j u hu => ?_, hR1⟩
      have hj : j < sz := by have := (List.getElem?_eq_some_iff.1 hu).1; omega
      have := hc1 j hj
      rw [hu] at this
      rw [addr_plain this, ← Nat.add_assoc] at this
      exact this
theorem open_psc {fuel : Nat} {cs : List Value} {x : DataW H × List MemPlace} (h : DataW.trod enc Try.prog W base spare held fuel 22 cs = some x) : ∃ p, PsC W cs p := by
  obtain ⟨A, n, c, l, e, hs, _⟩ := open_sts0 (sz := 2) Try.underlying22 (by kernel_rfl) (by omega) (fun fuel cs x h => open_tcc h) h
  exact ⟨⟨A, n, c, l⟩, e, pg_of hs⟩
theorem open_byc {fuel : Nat} {cs : List Value} {x : DataW H × List MemPlace} (h : DataW.trod enc Try.prog W base spare held fuel 5 cs = some x) : ∃ p, ByC W cs p := by
  obtain ⟨k0, g0, _, b0⟩ := DataW.trod_int Try.underlying5 h
  obtain ⟨d, rfl⟩ := Int.eq_ofNat_of_zero_le (bounds_u8 b0).1
  exact ⟨d, g0, by have := (bounds_u8 b0).2; omega⟩
theorem open_progs {v : Value} {d : DataW H} {p : List MemPlace} (hv : Value.okWide Try.prog W r b0 39 v) (h : DataW.Trod enc Try.prog W base spare held 39 v d p) :
    ∃ A n c l, v = .slice A n c ∧ Pl W.heap.size W A n l ∧ n ≤ c := by
  obtain ⟨A, n, c, l, e, ⟨h1, _, h2⟩, hc⟩ := open_sts (sz := 1) (R := PsC) Try.underlying39 (by kernel_rfl) (by omega) (fun fuel cs x h => open_psc h) hv h
  refine ⟨A, n, c, l, e, ⟨h1, ?_, ?_⟩, hc⟩
  · intro t ht
    rcases h2 with e | ⟨b, off, _, hcc⟩
    · subst e; cases ht
    · obtain ⟨i, hi, rfl⟩ := List.mem_iff_getElem.1 ht
      obtain ⟨cs, _, _, _, hw⟩ := hcc i _ (List.getElem?_eq_getElem hi)
      exact hw
  · rcases h2 with e | ⟨b, off, e, hcc⟩
    · exact .inl e
    · by_cases h0 : l = []
      · exact .inl h0
      · have hall : ∀ i p, l[i]? = some p → W.cell? ⟨b, off + i, none⟩ = some (.slice p.A p.n p.cp) := fun i t hi => by
          obtain ⟨cs, hl, hk, rfl, _⟩ := hcc i t hi
          have := hk 0 _ rfl
          simpa using this
        have hpos : 0 < l.length := List.length_pos_iff.2 h0
        exact .inr ⟨b, off, e, World.block_lt_of_cell? W _ (hall 0 _ (List.getElem?_eq_getElem hpos)), hall⟩
theorem open_bytes {v : Value} {d : DataW H} {p : List MemPlace} (hv : Value.okWide Try.prog W r b0 40 v) (h : DataW.Trod enc Try.prog W base spare held 40 v d p) :
    ∃ A n c l, v = .slice A n c ∧ Bt W.heap.size W A n l ∧ n ≤ c := by
  obtain ⟨A, n, c, l, e, ⟨h1, _, h2⟩, hc⟩ := open_sts (sz := 1) (R := ByC) Try.underlying40 (by kernel_rfl) (by omega) (fun fuel cs x h => open_byc h) hv h
  refine ⟨A, n, c, l, e, ⟨h1, ?_, ?_⟩, hc⟩
  · intro t ht
    rcases h2 with e | ⟨b, off, _, hcc⟩
    · subst e; cases ht
    · obtain ⟨i, hi, rfl⟩ := List.mem_iff_getElem.1 ht
      obtain ⟨cs, _, _, _, hw⟩ := hcc i _ (List.getElem?_eq_getElem hi)
      exact hw
  · rcases h2 with e | ⟨b, off, e, hcc⟩
    · exact .inl e
    · by_cases h0 : l = []
      · exact .inl h0
      · have hall : ∀ (i x : Nat), l[i]? = some x → W.cell? ⟨b, off + i, none⟩ = some (.int .u8 (x : Int)) := fun i t hi => by
          obtain ⟨cs, hl, hk, rfl, _⟩ := hcc i t hi
          have := hk 0 _ rfl
          simpa using this
        have hpos : 0 < l.length := List.length_pos_iff.2 h0
        exact .inr ⟨b, off, e, World.block_lt_of_cell? W _ (hall 0 _ (List.getElem?_eq_getElem hpos)), hall⟩
end
end Go.Proofs.Ytbjaojcffhkahaa
