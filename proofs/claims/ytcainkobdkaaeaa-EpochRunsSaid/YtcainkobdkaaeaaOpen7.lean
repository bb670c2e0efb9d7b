/-
  How the laws' arguments read: numbers, bytes, calls: each opened to what the walks ask.
-/
import Derived.Test.YtcainkobdkaaeaaSts7
import Derived.Deep.Slices
import Derived.Deep.Fields
import Derived.ChangeSame
import Derived.ChangeSlices
import Derived.ProofKit
import Derived.OpenShut
namespace Go.Proofs.Ytcainkobdkaaeaa
open Go.ChangeShapes Go.WideShapes Go.ChangeAt Go.RowKit Go.Deep
set_option linter.unusedVariables false
set_option maxRecDepth 20000

theorem addr_add (a : Addr) (i j : Nat) : (a.add i).add j = a.add (i + j) := by
  unfold Addr.add
  by_cases hi : i = 0 <;> by_cases hj : j = 0 <;> simp [hi, hj, Nat.add_assoc]
theorem addr_plain {w : World} {a : Addr} {i : Nat} {v : Value} (h : w.cell? (a.add i) = some v) : a.add i = ⟨a.block, a.off + i, none⟩ := by
  unfold Addr.add at *
  split
  · rename_i h0
    subst h0
    rw [if_pos rfl] at h
    unfold World.cell? at h
    rcases a with ⟨b, off, sp⟩
    cases sp with
    | none => rfl
    | some k => simp at h; split at h <;> simp at h
  · rfl
theorem list_of {α : Type} {R : Nat → α → Prop} : ∀ (n : Nat), (∀ i, i < n → ∃ p, R i p) → ∃ l : List α, l.length = n ∧ ∀ i p, l[i]? = some p → R i p
  | 0, _ => ⟨[], rfl, fun i p h => by simp at h⟩
  | n + 1, h => by
    obtain ⟨l, hl, hr⟩ := list_of n fun i hi => h i (by omega)
    obtain ⟨p, hp⟩ := h n (by omega)
    refine ⟨l ++ [p], by simp [hl], fun i q hq => ?_⟩
    rw [List.getElem?_append] at hq
    split at hq
    · exact hr i q hq
    · rename_i hi
      have hii : i = n := by
        have := (List.getElem?_eq_some_iff.1 hq).1
        simp at this
        omega
      subst hii
      rw [hl] at hq
      simp at hq
      subst hq
      exact hp

section
variable {H : Type} {enc : TypeId × Value → H} {W : World} {b0 base : Nat} {spare : Nat → Bool} {held : Bool} {r : Reach}

theorem open_sl {t e : TypeId} (ht : Try.prog.underlying t = some (.slice e)) (he : Try.prog.underlying e = some (.int .i64)) (hc : Try.prog.cellsOf e = 1) {fuel : Nat} {cs : List Value} {x : DataW H × List MemPlace} (h : DataW.trod enc Try.prog W base spare held fuel t cs = some x) :
    ∃ A n c zs, cs = [.slice A n c] ∧ Sl W A n c zs ∧ n ≤ maxLen := by
  rcases open_ints ht he hc h with ⟨hcs, _⟩ | ⟨y, l, c, zs, hcs, _, hl, hm, hz, _, hcell, hwz⟩
  · exact ⟨none, 0, 0, [], hcs, Sl.nil _, Nat.zero_le _⟩
  · have hlz : l ≤ zs.length := by
      have hz' := hz
      split at hz' <;> omega
    refine ⟨some y, l, c, zs.take l, hcs, ⟨by rw [List.length_take]; omega, hl, fun e => (by cases e), ?_⟩, Nat.le_trans hl hm⟩
    by_cases h0 : l = 0
    · exact .inl (by simp [h0])
    · have e0 := addr_plain (hcell 0 (by omega))
      have hx : y = ⟨y.block, y.off, none⟩ := by simpa [Addr.add] using e0
      refine .inr ⟨y.block, y.off, by rw [← hx], fun i z hi => ?_⟩
      have hil : i < l := by
        have := (List.getElem?_eq_some_iff.1 hi).1
        rw [List.length_take] at this
        omega
      have hcl := hcell i (by omega)
      rw [addr_plain hcl] at hcl
      rw [hcl]
      rw [List.getElem?_take, if_pos hil] at hi
      simp [List.getD, hi]

theorem open_nums {v : Value} {d : DataW H} {p : List MemPlace} (hv : Value.okWide Try.prog W r b0 31 v) (h : DataW.Trod enc Try.prog W base spare held 31 v d p) :
    ∃ A n c zs, v = .slice A n c ∧ Sl W A n c zs ∧ n ≤ maxLen := by
  obtain ⟨a0, len, cap, rfl⟩ := okWide_slice Try.underlying31 hv
  obtain ⟨fuel, hf⟩ := h
  obtain ⟨A, n, c, zs, e, hs, hc⟩ := open_sl Try.underlying31 Try.underlying2 (by kernel_rfl) hf
  simp [Value.cells] at e
  obtain ⟨rfl, rfl, rfl⟩ := e
  exact ⟨_, _, _, zs, rfl, hs, hc⟩

theorem open_sts {α : Type} {R : World → List Value → α → Prop} {t e : TypeId} {sz : Nat} (ht : Try.prog.underlying t = some (.slice e)) (hC : Try.prog.cellsOf e = sz) (hsz : 0 < sz)
    (hR : ∀ (fuel : Nat) (cs : List Value) (x : DataW H × List MemPlace), DataW.trod enc Try.prog W base spare held fuel e cs = some x → ∃ s, R W cs s)
    {v : Value} {d : DataW H} {p : List MemPlace} (hv : Value.okWide Try.prog W r b0 t v) (h : DataW.Trod enc Try.prog W base spare held t v d p) :
    ∃ A n c l, v = .slice A n c ∧ Sts R sz W A n l ∧ n ≤ c := by
  obtain ⟨a0, len, cap, rfl⟩ := okWide_slice ht hv
  obtain ⟨fuel, hf⟩ := h
  rcases open_slice ht hf with ⟨h0, _⟩ | ⟨a, len', cap', m, q, D, Pl, hcs, hb, hl, hm, hmm, hx, hi⟩
  · simp [Value.cells] at h0
    obtain ⟨rfl, rfl, rfl⟩ := h0
    exact ⟨none, 0, 0, [], rfl, ⟨rfl, Nat.zero_le _, .inl rfl⟩, Nat.le_refl _⟩
  · simp [Value.cells] at hcs
    obtain ⟨rfl, rfl, rfl⟩ := hcs
    obtain ⟨l, hll, hr⟩ := list_of (R := fun i (s : α) => ∃ cs : List Value, cs.length = sz ∧ (∀ j, j < sz → W.cell? (a.add (i * sz + j)) = cs[j]?) ∧ R W cs s) len fun i hin => by
      have him : i < m := by rw [hmm]; split <;> omega
      obtain ⟨cs, hc, ht'⟩ := hi i him
      rw [hC] at hc
      obtain ⟨_, hcl, hat⟩ := World.cells?_some hc
      obtain ⟨s, hs⟩ := hR _ _ _ ht'
      exact ⟨s, cs, hcl, fun j hj => by rw [← addr_add]; exact hat j hj, hs⟩
    refine ⟨_, _, _, l, rfl, ⟨hll.symm, Nat.le_trans hl hm, ?_⟩, hl⟩
    by_cases h0 : l = []
    · exact .inl h0
    · right
      have hpos : 0 < l.length := List.length_pos_iff.2 h0
      obtain ⟨cs0, hl0, hc0, _⟩ := hr 0 _ (List.getElem?_eq_getElem hpos)
      have hc00 := hc0 0 hsz
      rw [List.getElem?_eq_getElem (by omega)] at hc00
      have e0 := addr_plain hc00
      have hx' : a = ⟨a.block, a.off, none⟩ := by simpa [Addr.add] using e0
      refine ⟨a.block, a.off, by rw [← hx'], fun i s hs => ?_⟩
      obtain ⟨cs, hl1, hc1, hR1⟩ := hr i s hs
      refine ⟨cs, hl1, fun j u hu => ?_, hR1⟩
      have hj : j < sz := by have := (List.getElem?_eq_some_iff.1 hu).1; omega
      have := hc1 j hj
      rw [hu] at this
      rw [addr_plain this, ← Nat.add_assoc] at this
      exact this

theorem open_byc {fuel : Nat} {cs : List Value} {x : DataW H × List MemPlace} (h : DataW.trod enc Try.prog W base spare held fuel 5 cs = some x) : ∃ p, ByC W cs p := by
  obtain ⟨k0, g0, _, b0⟩ := DataW.trod_int Try.underlying5 h
  obtain ⟨d, rfl⟩ := Int.eq_ofNat_of_zero_le (bounds_u8 b0).1
  exact ⟨d, g0, by have := (bounds_u8 b0).2; omega⟩
theorem open_bytes {v : Value} {d : DataW H} {p : List MemPlace} (hv : Value.okWide Try.prog W r b0 50 v) (h : DataW.Trod enc Try.prog W base spare held 50 v d p) :
    ∃ A n c l, v = .slice A n c ∧ Sts ByC 1 W A n l ∧ n ≤ c := open_sts (sz := 1) (R := ByC) Try.underlying50 (by kernel_rfl) (by omega) (fun fuel cs x h => open_byc h) hv h
theorem open_acc {fuel : Nat} {cs : List Value} {x : DataW H × List MemPlace} (h : DataW.trod enc Try.prog W base spare held fuel 30 cs = some x) : ∃ t, AcC W cs t := by
  obtain ⟨xs, n, _, _, hcl, hxl, hfld⟩ := DataW.trod_struct Try.underlying30 h
  have h4 : cs.length = 4 := by
    have e : Try.prog.cellsOf 30 = 4 := by kernel_rfl
    rw [← e]; exact hcl
  have f0 := hfld 0 _ rfl
  have f1 := hfld 1 _ rfl
  have f2 := hfld 2 _ rfl
  have f3 := hfld 3 _ rfl
  have hx4 : xs.length = 4 := hxl
  have e0 : Try.prog.cellsOf 5 = 1 := by kernel_rfl
  have e1 : Try.prog.cellsOf 28 = 1 := by kernel_rfl
  have e2 : Try.prog.cellsOf 2 = 1 := by kernel_rfl
  match cs, h4 with
  | [c0, c1, c2, c3], _ =>
    have f0' : DataW.trod enc Try.prog W base spare held n 5 [c0] = xs[0]? := by rw [← f0]; simp [e0]
    have f1' : DataW.trod enc Try.prog W base spare held n 28 [c1] = xs[1]? := by rw [← f1]; simp [e1]
    have f2' : DataW.trod enc Try.prog W base spare held n 2 [c2] = xs[2]? := by rw [← f2]; simp [e2]
    have f3' : DataW.trod enc Try.prog W base spare held n 2 [c3] = xs[3]? := by rw [← f3]; simp [e2]
    rw [List.getElem?_eq_getElem (by omega)] at f0' f1' f2' f3'
    obtain ⟨k0, g0, _, b0⟩ := DataW.trod_int Try.underlying5 f0'
    obtain ⟨k1, g1, _, b1⟩ := DataW.trod_int Try.underlying28 f1'
    obtain ⟨k2, g2, _, b2⟩ := DataW.trod_int Try.underlying2 f2'
    obtain ⟨k3, g3, _, b3⟩ := DataW.trod_int Try.underlying2 f3'
    simp at g0 g1 g2 g3
    subst g0 g1 g2 g3
    obtain ⟨d, rfl⟩ := Int.eq_ofNat_of_zero_le (bounds_u8 b0).1
    exact ⟨⟨d, k1, k2, k3⟩, ⟨by have := (bounds_u8 b0).2; simp only at this ⊢; omega, bounds_i8 b1, bounds_i64 b2, bounds_i64 b3⟩, rfl⟩
theorem open_acts {v : Value} {d : DataW H} {p : List MemPlace} (hv : Value.okWide Try.prog W r b0 22 v) (h : DataW.Trod enc Try.prog W base spare held 22 v d p) :
    ∃ A n c l, v = .slice A n c ∧ Sts AcC 4 W A n l ∧ n ≤ c := open_sts (sz := 4) Try.underlying22 (by kernel_rfl) (by omega) (fun fuel cs x h => open_acc h) hv h
end
end Go.Proofs.Ytcainkobdkaaeaa
