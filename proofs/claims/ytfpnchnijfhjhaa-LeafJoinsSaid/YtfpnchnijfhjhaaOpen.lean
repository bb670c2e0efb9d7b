/-
  How the laws' arguments read: numbers, pairs, changes: each opened to what the walks ask.
-/
import Derived.Test.YtfpnchnijfhjhaaLawFns2
import Derived.Deep.Slices
import Derived.Deep.Fields
import Derived.ChangeSame
import Derived.ProofKit
import Derived.OpenShut
namespace Go.Proofs.Ytfpnchnijfhjhaa
open Go.ChangeShapes Go.WideShapes Go.ChangeAt Go.RowKit Go.Deep
set_option linter.unusedVariables false

theorem addr_add (a : Addr) (i j : Nat) : (a.add i).add j = a.add (i + j) := by
  unfold Addr.add
  by_cases hi : i = 0 <;> by_cases hj : j = 0 <;> simp [hi, hj, Nat.add_assoc]

theorem addr_plain {w : World} {a : Addr} {i : Nat} {v : Value} (h : w.cell? (a.add i) = some v) : a.add i = ⟨a.block, a.off + i, none⟩ := by
  unfold Addr.add at *
  split
  · rename_i h0
    subst h0
    rw [if_pos rfl] at h
    unfold World.cell? at h
    rcases a with ⟨b, off, sp⟩
    cases sp with
    | none => rfl
    | some k => simp at h; split at h <;> simp at h
  · rfl

section
variable {H : Type} {enc : TypeId × Value → H} {W : World} {b0 base : Nat} {spare : Nat → Bool} {held : Bool} {r : Reach}

theorem open_nums {v : Value} {d : DataW H} {p : List MemPlace} (hv : Value.okWide Try.prog W r b0 22 v) (h : DataW.Trod enc Try.prog W base spare held 22 v d p) :
    ∃ A n c zs, v = .slice A n c ∧ n ≤ c ∧ n ≤ maxLen ∧ Nums W A n zs := by
  obtain ⟨a0, len, cap, rfl⟩ := okWide_slice Try.underlying22 hv
  obtain ⟨fuel, hf⟩ := h
  rcases open_ints Try.underlying22 Try.underlying2 (by kernel_rfl) hf with ⟨hcs, _⟩ | ⟨x, l, c, zs, hcs, _, hl, hm, hz, _, hcell, hwz⟩
  · simp [Value.cells] at hcs
    obtain ⟨rfl, rfl, rfl⟩ := hcs
    exact ⟨none, 0, 0, [], rfl, Nat.le_refl _, Nat.zero_le _, rfl, .inl rfl⟩
  · simp [Value.cells] at hcs
    obtain ⟨rfl, rfl, rfl⟩ := hcs
    refine ⟨_, _, _, zs.take len, rfl, hl, by omega, ?_, ?_⟩
    · rw [List.length_take]
      have : len ≤ zs.length := by
        have hz' := hz
        split at hz' <;> omega
      omega
    · by_cases h0 : len = 0
      · exact .inl (by simp [h0])
      · have hlz : len ≤ zs.length := by
          have hz' := hz
          split at hz' <;> omega
        have e0 := addr_plain (hcell 0 (by omega))
        have hx : x = ⟨x.block, x.off, none⟩ := by simpa [Addr.add] using e0
        refine .inr ⟨x.block, x.off, by rw [← hx], fun i hi => ?_⟩
        rw [List.length_take] at hi
        have hc := hcell i (by omega)
        rw [addr_plain hc] at hc
        rw [hc]
        simp [List.getD, show i < len by omega]

/-- A slice of structs whose fields are of one cell each: every element's cells, and that each reads as its field's type. -/
theorem open_structs {P : Program} {t e : TypeId} {fs : Array Field} {fuel n c : Nat} {A : Option Addr} {x : DataW H × List MemPlace} (ht : P.underlying t = some (.slice e)) (he : P.underlying e = some (.struct fs))
    (hone : oneCellFields P fs = true) (hC : P.cellsOf e = fs.size) (h : DataW.trod enc P W base spare held fuel t [.slice A n c] = some x) :
    (A = none ∧ n = 0 ∧ c = 0) ∨ ∃ a, A = some a ∧ n ≤ c ∧ c ≤ maxLen ∧ ∀ i, i < n → ∃ (cs : List Value) (q : Nat), cs.length = fs.size ∧ (∀ j, j < fs.size → W.cell? (a.add (i * fs.size + j)) = cs[j]?) ∧
      ∀ (j : Nat) (f : Field) (u : Value), fs[j]? = some f → cs[j]? = some u → ∃ y, DataW.trod enc P W base spare held q f.type [u] = some y := by
  rcases open_slice ht h with ⟨h0, _⟩ | ⟨a, len, cap, m, q, D, Pl, hcs, hb, hl, hm, hmm, hx, hi⟩
  · left
    simp at h0
    exact h0
  · right
    simp at hcs
    obtain ⟨rfl, rfl, rfl⟩ := hcs
    refine ⟨a, rfl, hl, hm, fun i hin => ?_⟩
    have him : i < m := by rw [hmm]; split <;> omega
    obtain ⟨cs, hc, ht'⟩ := hi i him
    rw [hC] at hc
    obtain ⟨ys, q', _, hy, hlen, hyl, hf⟩ := DataW.trod_struct he ht'
    obtain ⟨_, hcl, hat⟩ := World.cells?_some hc
    refine ⟨cs, q', hcl, fun j hj => ?_, fun j f u hj hu => ?_⟩
    · rw [← addr_add]; exact hat j hj
    · obtain ⟨ho, hk⟩ := hone_of hone j f hj
      have hjl : j < cs.length := (List.getElem?_eq_some_iff.1 hu).1
      have h1 := hf j f hj
      rw [ho, hk, List.drop_eq_getElem_cons hjl] at h1
      have e1 : cs[j] = u := (List.getElem?_eq_some_iff.1 hu).2
      rw [e1] at h1
      have hjf : j < ys.length := by rw [hyl]; exact (Array.getElem?_eq_some_iff.1 hj).1
      exact ⟨ys[j], by rw [List.getElem?_eq_getElem hjf] at h1; simpa using h1⟩

theorem list_of {α : Type} {R : Nat → α → Prop} : ∀ (n : Nat), (∀ i, i < n → ∃ p, R i p) → ∃ l : List α, l.length = n ∧ ∀ i p, l[i]? = some p → R i p
  | 0, _ => ⟨[], rfl, fun i p h => by simp at h⟩
  | n + 1, h => by
    obtain ⟨l, hl, hr⟩ := list_of n fun i hi => h i (by omega)
    obtain ⟨p, hp⟩ := h n (by omega)
    refine ⟨l ++ [p], by simp [hl], fun i q hq => ?_⟩
    rw [List.getElem?_append] at hq
    split at hq
    · exact hr i q hq
    · rename_i hi
      have hii : i = n := by
        have := (List.getElem?_eq_some_iff.1 hq).1
        simp at this
        omega
      subst hii
      rw [hl] at hq
      simp at hq
      subst hq
      exact hp

theorem cellsP_at {l : List (Int × Int)} {j : Nat} {u : Value} (h : (cellsP l)[j]? = some u) : ∃ p, l[j / 2]? = some p ∧ u = if j % 2 = 0 then .int .i64 p.1 else .int .i64 p.2 := by
  induction l generalizing j with
  | nil => simp [cellsP] at h
  | cons p l ih =>
    match j, h with
    | 0, h => simp [cellsP] at h; exact ⟨p, by simp, by simp [h]⟩
    | 1, h => simp [cellsP] at h; exact ⟨p, by simp, by simp [h]⟩
    | j + 2, h =>
      simp [cellsP] at h
      obtain ⟨q, h1, h2⟩ := ih h
      refine ⟨q, ?_, ?_⟩
      · rw [show (j + 2) / 2 = j / 2 + 1 by omega]; simpa using h1
      · rw [show (j + 2) % 2 = j % 2 by omega]; exact h2

theorem open_leaf {v : Value} {d : DataW H} {p : List MemPlace} (hv : Value.okWide Try.prog W r b0 25 v) (h : DataW.Trod enc Try.prog W base spare held 25 v d p) :
    ∃ A n c l, v = .slice A n c ∧ n ≤ c ∧ n ≤ maxLen ∧ Lf W A n l := by
  obtain ⟨a0, len, cap, rfl⟩ := okWide_slice Try.underlying25 hv
  obtain ⟨fuel, hf⟩ := h
  rcases open_structs Try.underlying25 Try.underlying31 (by kernel_rfl) (by kernel_rfl) hf with ⟨rfl, rfl, rfl⟩ | ⟨a, rfl, h1, h2, h3⟩
  · exact ⟨none, 0, 0, [], rfl, Nat.le_refl _, Nat.zero_le _, Lf.nil _ _⟩
  · obtain ⟨l, hl, hr⟩ := list_of (R := fun i (q : Int × Int) => W.cell? (a.add (i * 2)) = some (.int .i64 q.1) ∧ W.cell? (a.add (i * 2 + 1)) = some (.int .i64 q.2)) len fun i hi => by
      obtain ⟨cs, q, hlen, hcell, hread⟩ := h3 i hi
      match cs, hlen with
      | [u0, u1], _ =>
        obtain ⟨y0, hy0⟩ := hread 0 _ u0 rfl rfl
        obtain ⟨y1, hy1⟩ := hread 1 _ u1 rfl rfl
        obtain ⟨k0, e0, _, _⟩ := DataW.trod_int Try.underlying2 hy0
        obtain ⟨k1, e1, _, _⟩ := DataW.trod_int Try.underlying2 hy1
        simp at e0 e1
        subst e0 e1
        exact ⟨(k0, k1), hcell 0 (by decide), hcell 1 (by decide)⟩
    refine ⟨_, _, _, l, rfl, h1, by omega, hl.symm, ?_⟩
    by_cases h0 : l = []
    · exact .inl h0
    · right
      have hpos : 0 < l.length := List.length_pos_iff.2 h0
      have e0 := addr_plain (hr 0 _ (List.getElem?_eq_getElem hpos)).1
      have hx : a = ⟨a.block, a.off, none⟩ := by simpa [Addr.add] using e0
      refine ⟨a.block, a.off, by rw [← hx], fun j u hu => ?_⟩
      obtain ⟨q, hq, rfl⟩ := cellsP_at hu
      have hc := hr _ _ hq
      by_cases hj : j % 2 = 0
      · rw [if_pos hj]
        have := hc.1
        rw [addr_plain this, show j / 2 * 2 = j by omega] at this
        exact this
      · rw [if_neg hj]
        have := hc.2
        rw [addr_plain this, show j / 2 * 2 + 1 = j by omega] at this
        exact this

/-- A slice of n changes at A: each says whether a key goes, the key, the value. -/
def Chs (w : World) (A : Option Addr) (n : Nat) (l : List (Bool × Int × Int)) : Prop :=
  n = l.length ∧ (l = [] ∨ ∃ b off, A = some ⟨b, off, none⟩ ∧ ∀ i q, l[i]? = some q → w.cell? ⟨b, off + i * 3, none⟩ = some (.bool q.1) ∧ w.cell? ⟨b, off + i * 3 + 1, none⟩ = some (.int .i64 q.2.1) ∧ w.cell? ⟨b, off + i * 3 + 2, none⟩ = some (.int .i64 q.2.2))

theorem open_changes {v : Value} {d : DataW H} {p : List MemPlace} (hv : Value.okWide Try.prog W r b0 47 v) (h : DataW.Trod enc Try.prog W base spare held 47 v d p) :
    ∃ A n c l, v = .slice A n c ∧ n ≤ c ∧ n ≤ maxLen ∧ Chs W A n l := by
  obtain ⟨a0, len, cap, rfl⟩ := okWide_slice Try.underlying47 hv
  obtain ⟨fuel, hf⟩ := h
  rcases open_structs Try.underlying47 Try.underlying49 (by kernel_rfl) (by kernel_rfl) hf with ⟨rfl, rfl, rfl⟩ | ⟨a, rfl, h1, h2, h3⟩
  · exact ⟨none, 0, 0, [], rfl, Nat.le_refl _, Nat.zero_le _, rfl, .inl rfl⟩
  · obtain ⟨l, hl, hr⟩ := list_of (R := fun i (q : Bool × Int × Int) => W.cell? (a.add (i * 3)) = some (.bool q.1) ∧ W.cell? (a.add (i * 3 + 1)) = some (.int .i64 q.2.1) ∧ W.cell? (a.add (i * 3 + 2)) = some (.int .i64 q.2.2)) len fun i hi => by
      obtain ⟨cs, q, hlen, hcell, hread⟩ := h3 i hi
      match cs, hlen with
      | [u0, u1, u2], _ =>
        obtain ⟨y0, hy0⟩ := hread 0 _ u0 rfl rfl
        obtain ⟨y1, hy1⟩ := hread 1 _ u1 rfl rfl
        obtain ⟨y2, hy2⟩ := hread 2 _ u2 rfl rfl
        obtain ⟨k0, e0, _⟩ := DataW.trod_bool Try.underlying4 hy0
        obtain ⟨k1, e1, _, _⟩ := DataW.trod_int Try.underlying2 hy1
        obtain ⟨k2, e2, _, _⟩ := DataW.trod_int Try.underlying2 hy2
        simp at e0 e1 e2
        subst e0 e1 e2
        exact ⟨(k0, k1, k2), hcell 0 (by decide), hcell 1 (by decide), hcell 2 (by decide)⟩
    refine ⟨_, _, _, l, rfl, h1, by omega, hl.symm, ?_⟩
    by_cases h0 : l = []
    · exact .inl h0
    · right
      have hpos : 0 < l.length := List.length_pos_iff.2 h0
      have e0 := addr_plain (hr 0 _ (List.getElem?_eq_getElem hpos)).1
      have hx : a = ⟨a.block, a.off, none⟩ := by simpa [Addr.add] using e0
      refine ⟨a.block, a.off, by rw [← hx], fun i q hq => ?_⟩
      have hc := hr _ _ hq
      have e1 := hc.1
      have e2 := hc.2.1
      have e3 := hc.2.2
      rw [addr_plain e1] at e1
      rw [addr_plain e2] at e2
      rw [addr_plain e3] at e3
      exact ⟨e1, e2, e3⟩
end
end Go.Proofs.Ytfpnchnijfhjhaa
