/-
  How the laws' arguments read: records, numbers, acts: each opened to what the walks ask.
-/
import Derived.Test.YtokheagoddmmiaaIt5
import Derived.Deep.Slices
import Derived.Deep.Fields
import Derived.ChangeSame
import Derived.ChangeSlices
import Derived.ProofKit
import Derived.OpenShut
namespace Go.Proofs.Ytokheagoddmmiaa
open Go.ChangeShapes Go.WideShapes Go.ChangeAt Go.RowKit Go.Deep
set_option linter.unusedVariables false
set_option maxRecDepth 20000

theorem addr_add (a : Addr) (i j : Nat) : (a.add i).add j = a.add (i + j) := by
  unfold Addr.add
  by_cases hi : i = 0 <;> by_cases hj : j = 0 <;> simp [hi, hj, Nat.add_assoc]
theorem addr_plain {w : World} {a : Addr} {i : Nat} {v : Value} (h : w.cell? (a.add i) = some v) : a.add i = ⟨a.block, a.off + i, none⟩ := by
  unfold Addr.add at *
  split
  · rename_i h0
    subst h0
    rw [if_pos rfl] at h
    unfold World.cell? at h
    rcases a with ⟨b, off, sp⟩
    cases sp with
    | none => rfl
    | some k => simp at h; split at h <;> simp at h
  · rfl
theorem list_of {α : Type} {R : Nat → α → Prop} : ∀ (n : Nat), (∀ i, i < n → ∃ p, R i p) → ∃ l : List α, l.length = n ∧ ∀ i p, l[i]? = some p → R i p
  | 0, _ => ⟨[], rfl, fun i p h => by simp at h⟩
  | n + 1, h => by
    obtain ⟨l, hl, hr⟩ := list_of n fun i hi => h i (by omega)
    obtain ⟨p, hp⟩ := h n (by omega)
    refine ⟨l ++ [p], by simp [hl], fun i q hq => ?_⟩
    rw [List.getElem?_append] at hq
    split at hq
    · exact hr i q hq
    · rename_i hi
      have hii : i = n := by
        have := (List.getElem?_eq_some_iff.1 hq).1
        simp at this
        omega
      subst hii
      rw [hl] at hq
      simp at hq
      subst hq
      exact hp

/-- Six cells read as a record. -/
def RcC (w : World) (cs : List Value) (r : Rc) : Prop := ∃ A n c B m d, cs = [.slice A n c, .slice B m d, .int .i64 r.kp, .int .i64 r.wy, .int .i64 r.od, .int .i64 r.nw] ∧ Sl w A n c r.ns ∧ Sl w B m d r.is

section
variable {H : Type} {enc : TypeId × Value → H} {W : World} {b0 base : Nat} {spare : Nat → Bool} {held : Bool} {r : Reach}

theorem open_sl {t e : TypeId} (ht : Try.prog.underlying t = some (.slice e)) (he : Try.prog.underlying e = some (.int .i64)) (hc : Try.prog.cellsOf e = 1) {fuel : Nat} {cs : List Value} {x : DataW H × List MemPlace} (h : DataW.trod enc Try.prog W base spare held fuel t cs = some x) :
    ∃ A n c zs, cs = [.slice A n c] ∧ Sl W A n c zs ∧ n ≤ maxLen := by
  rcases open_ints ht he hc h with ⟨hcs, _⟩ | ⟨y, l, c, zs, hcs, _, hl, hm, hz, _, hcell, hwz⟩
  · exact ⟨none, 0, 0, [], hcs, Sl.nil _, Nat.zero_le _⟩
  · have hlz : l ≤ zs.length := by
      have hz' := hz
      split at hz' <;> omega
    refine ⟨some y, l, c, zs.take l, hcs, ⟨by rw [List.length_take]; omega, hl, fun e => (by cases e), ?_⟩, Nat.le_trans hl hm⟩
    by_cases h0 : l = 0
    · exact .inl (by simp [h0])
    · have e0 := addr_plain (hcell 0 (by omega))
      have hx : y = ⟨y.block, y.off, none⟩ := by simpa [Addr.add] using e0
      refine .inr ⟨y.block, y.off, by rw [← hx], fun i z hi => ?_⟩
      have hil : i < l := by
        have := (List.getElem?_eq_some_iff.1 hi).1
        rw [List.length_take] at this
        omega
      have hcl := hcell i (by omega)
      rw [addr_plain hcl] at hcl
      rw [hcl]
      rw [List.getElem?_take, if_pos hil] at hi
      simp [List.getD, hi]

theorem open_rcc {fuel : Nat} {cs : List Value} {x : DataW H × List MemPlace} (h : DataW.trod enc Try.prog W base spare held fuel 32 cs = some x) : ∃ s, RcC W cs s := by
  obtain ⟨xs, n, _, _, hcl, hxl, hfld⟩ := DataW.trod_struct Try.underlying32 h
  have h6 : cs.length = 6 := by
    have e : Try.prog.cellsOf 32 = 6 := by kernel_rfl
    rw [← e]; exact hcl
  have f0 := hfld 0 _ rfl
  have f1 := hfld 1 _ rfl
  have f2 := hfld 2 _ rfl
  have f3 := hfld 3 _ rfl
  have f4 := hfld 4 _ rfl
  have f5 := hfld 5 _ rfl
  have hx2 : xs.length = 6 := hxl
  have e0 : Try.prog.cellsOf 28 = 1 := by kernel_rfl
  have e1 : Try.prog.cellsOf 29 = 1 := by kernel_rfl
  have e2 : Try.prog.cellsOf 3 = 1 := by kernel_rfl
  have e3 : Try.prog.cellsOf 30 = 1 := by kernel_rfl
  match cs, h6 with
  | [c0, c1, c2, c3, c4, c5], _ =>
    have f0' : DataW.trod enc Try.prog W base spare held n 28 [c0] = xs[0]? := by rw [← f0]; simp [e0]
    have f1' : DataW.trod enc Try.prog W base spare held n 29 [c1] = xs[1]? := by rw [← f1]; simp [e1]
    have f2' : DataW.trod enc Try.prog W base spare held n 3 [c2] = xs[2]? := by rw [← f2]; simp [e2]
    have f3' : DataW.trod enc Try.prog W base spare held n 3 [c3] = xs[3]? := by rw [← f3]; simp [e2]
    have f4' : DataW.trod enc Try.prog W base spare held n 30 [c4] = xs[4]? := by rw [← f4]; simp [e3]
    have f5' : DataW.trod enc Try.prog W base spare held n 30 [c5] = xs[5]? := by rw [← f5]; simp [e3]
    rw [List.getElem?_eq_getElem (by omega)] at f0' f1' f2' f3' f4' f5'
    obtain ⟨A, n1, k1, ks, g0, s1, _⟩ := open_sl Try.underlying28 Try.underlying30 (by kernel_rfl) f0'
    obtain ⟨B, n2, k2, ws, g1, s2, _⟩ := open_sl Try.underlying29 Try.underlying2 (by kernel_rfl) f1'
    obtain ⟨x2, g2, _, _⟩ := DataW.trod_int Try.underlying3 f2'
    obtain ⟨x3, g3, _, _⟩ := DataW.trod_int Try.underlying3 f3'
    obtain ⟨x4, g4, _, _⟩ := DataW.trod_int Try.underlying30 f4'
    obtain ⟨x5, g5, _, _⟩ := DataW.trod_int Try.underlying30 f5'
    simp at g0 g1 g2 g3 g4 g5
    subst g0 g1 g2 g3 g4 g5
    exact ⟨⟨ks, ws, x2, x3, x4, x5⟩, A, n1, k1, B, n2, k2, rfl, s1, s2⟩

theorem open_rec {v : Value} {d : DataW H} {p : List MemPlace} (hv : Value.okWide Try.prog W r b0 32 v) (h : DataW.Trod enc Try.prog W base spare held 32 v d p) :
    ∃ (s : Rc) (A : Option Addr) (n c : Nat) (B : Option Addr) (m e : Nat), v = rcv (.slice A n c) (.slice B m e) s ∧ Sl W A n c s.ns ∧ Sl W B m e s.is := by
  obtain ⟨cs, rfl, hsz⟩ := okWide_struct Try.underlying32 hv
  obtain ⟨fuel, hf⟩ := h
  obtain ⟨s, A, n, c, B, m, e, he, h1, h2⟩ := open_rcc hf
  obtain ⟨l⟩ := cs
  simp [Value.cells] at he
  subst he
  exact ⟨s, A, n, c, B, m, e, rfl, h1, h2⟩

theorem open_nums {v : Value} {d : DataW H} {p : List MemPlace} (hv : Value.okWide Try.prog W r b0 29 v) (h : DataW.Trod enc Try.prog W base spare held 29 v d p) :
    ∃ A n c zs, v = .slice A n c ∧ Sl W A n c zs ∧ n ≤ maxLen := by
  obtain ⟨a0, len, cap, rfl⟩ := okWide_slice Try.underlying29 hv
  obtain ⟨fuel, hf⟩ := h
  obtain ⟨A, n, c, zs, e, hs, hc⟩ := open_sl Try.underlying29 Try.underlying2 (by kernel_rfl) hf
  simp [Value.cells] at e
  obtain ⟨rfl, rfl, rfl⟩ := e
  exact ⟨_, _, _, zs, rfl, hs, hc⟩

/-- A slice of n structs of sz cells at A: each reads as told. -/
def Sts {α : Type} (R : World → List Value → α → Prop) (sz : Nat) (w : World) (A : Option Addr) (n : Nat) (l : List α) : Prop :=
  n = l.length ∧ n ≤ maxLen ∧ (l = [] ∨ ∃ b off, A = some ⟨b, off, none⟩ ∧ ∀ i s, l[i]? = some s → ∃ cs : List Value, cs.length = sz ∧ (∀ (j : Nat) (u : Value), cs[j]? = some u → w.cell? ⟨b, off + i * sz + j, none⟩ = some u) ∧ R w cs s)

theorem open_sts {α : Type} {R : World → List Value → α → Prop} {t e : TypeId} {sz : Nat} (ht : Try.prog.underlying t = some (.slice e)) (hC : Try.prog.cellsOf e = sz) (hsz : 0 < sz)
    (hR : ∀ (fuel : Nat) (cs : List Value) (x : DataW H × List MemPlace), DataW.trod enc Try.prog W base spare held fuel e cs = some x → ∃ s, R W cs s)
    {v : Value} {d : DataW H} {p : List MemPlace} (hv : Value.okWide Try.prog W r b0 t v) (h : DataW.Trod enc Try.prog W base spare held t v d p) :
    ∃ A n c l, v = .slice A n c ∧ Sts R sz W A n l ∧ n ≤ c := by
  obtain ⟨a0, len, cap, rfl⟩ := okWide_slice ht hv
  obtain ⟨fuel, hf⟩ := h
  rcases open_slice ht hf with ⟨h0, _⟩ | ⟨a, len', cap', m, q, D, Pl, hcs, hb, hl, hm, hmm, hx, hi⟩
  · simp [Value.cells] at h0
    obtain ⟨rfl, rfl, rfl⟩ := h0
    exact ⟨none, 0, 0, [], rfl, ⟨rfl, Nat.zero_le _, .inl rfl⟩, Nat.le_refl _⟩
  · simp [Value.cells] at hcs
    obtain ⟨rfl, rfl, rfl⟩ := hcs
    obtain ⟨l, hll, hr⟩ := list_of (R := fun i (s : α) => ∃ cs : List Value, cs.length = sz ∧ (∀ j, j < sz → W.cell? (a.add (i * sz + j)) = cs[j]?) ∧ R W cs s) len fun i hin => by
      have him : i < m := by rw [hmm]; split <;> omega
      obtain ⟨cs, hc, ht'⟩ := hi i him
      rw [hC] at hc
      obtain ⟨_, hcl, hat⟩ := World.cells?_some hc
      obtain ⟨s, hs⟩ := hR _ _ _ ht'
      exact ⟨s, cs, hcl, fun j hj => by rw [← addr_add]; exact hat j hj, hs⟩
    refine ⟨_, _, _, l, rfl, ⟨hll.symm, Nat.le_trans hl hm, ?_⟩, hl⟩
    by_cases h0 : l = []
    · exact .inl h0
    · right
      have hpos : 0 < l.length := List.length_pos_iff.2 h0
      obtain ⟨cs0, hl0, hc0, _⟩ := hr 0 _ (List.getElem?_eq_getElem hpos)
      have hc00 := hc0 0 hsz
      rw [List.getElem?_eq_getElem (by omega)] at hc00
      have e0 := addr_plain hc00
      have hx' : a = ⟨a.block, a.off, none⟩ := by simpa [Addr.add] using e0
      refine ⟨a.block, a.off, by rw [← hx'], fun i s hs => ?_⟩
      obtain ⟨cs, hl1, hc1, hR1⟩ := hr i s hs
      refine ⟨cs, hl1, fun j u hu => ?_, hR1⟩
      have hj : j < sz := by have := (List.getElem?_eq_some_iff.1 hu).1; omega
      have := hc1 j hj
      rw [hu] at this
      rw [addr_plain this, ← Nat.add_assoc] at this
      exact this

/-- An act as plain data. -/
structure Ac where
  do_ : Int
  on : Int
  raw : Int
  st : Int
  rc : Rc
structure Ac.wf (a : Ac) : Prop where
  do_ : 0 ≤ a.do_ ∧ a.do_ ≤ 255
  on : -128 ≤ a.on ∧ a.on ≤ 127
  raw : -9223372036854775808 ≤ a.raw ∧ a.raw ≤ 9223372036854775807
  st : 0 ≤ a.st ∧ a.st ≤ 255
def AcC (w : World) (cs : List Value) (a : Ac) : Prop := a.wf ∧ ∃ A n c B m d, cs = [.int .u8 a.do_, .int .i8 a.on, .int .i64 a.raw, .int .u8 a.st, .slice A n c, .slice B m d, .int .i64 a.rc.kp, .int .i64 a.rc.wy, .int .i64 a.rc.od, .int .i64 a.rc.nw] ∧ Sl w A n c a.rc.ns ∧ Sl w B m d a.rc.is

theorem open_acc {fuel : Nat} {cs : List Value} {x : DataW H × List MemPlace} (h : DataW.trod enc Try.prog W base spare held fuel 34 cs = some x) : ∃ a, AcC W cs a := by
  obtain ⟨xs, n, _, _, hcl, hxl, hfld⟩ := DataW.trod_struct Try.underlying34 h
  have h10 : cs.length = 10 := by
    have e : Try.prog.cellsOf 34 = 10 := by kernel_rfl
    rw [← e]; exact hcl
  have f0 := hfld 0 _ rfl
  have f1 := hfld 1 _ rfl
  have f2 := hfld 2 _ rfl
  have f3 := hfld 3 _ rfl
  have f4 := hfld 4 _ rfl
  have hx5 : xs.length = 5 := hxl
  have e0 : Try.prog.cellsOf 5 = 1 := by kernel_rfl
  have e1 : Try.prog.cellsOf 2 = 1 := by kernel_rfl
  have e2 : Try.prog.cellsOf 27 = 1 := by kernel_rfl
  have e3 : Try.prog.cellsOf 32 = 6 := by kernel_rfl
  match cs, h10 with
  | [c0, c1, c2, c3, c4, c5, c6, c7, c8, c9], _ =>
    have f0' : DataW.trod enc Try.prog W base spare held n 5 [c0] = xs[0]? := by rw [← f0]; simp [e0]
    have f1' : DataW.trod enc Try.prog W base spare held n 27 [c1] = xs[1]? := by rw [← f1]; simp [e2]
    have f2' : DataW.trod enc Try.prog W base spare held n 2 [c2] = xs[2]? := by rw [← f2]; simp [e1]
    have f3' : DataW.trod enc Try.prog W base spare held n 5 [c3] = xs[3]? := by rw [← f3]; simp [e0]
    have f4' : DataW.trod enc Try.prog W base spare held n 32 [c4, c5, c6, c7, c8, c9] = xs[4]? := by rw [← f4]; simp [e3]
    rw [List.getElem?_eq_getElem (by omega)] at f0' f1' f2' f3' f4'
    obtain ⟨k0, g0, _, b0⟩ := DataW.trod_int Try.underlying5 f0'
    obtain ⟨k1, g1, _, b1⟩ := DataW.trod_int Try.underlying27 f1'
    obtain ⟨k2, g2, _, b2⟩ := DataW.trod_int Try.underlying2 f2'
    obtain ⟨k3, g3, _, b3⟩ := DataW.trod_int Try.underlying5 f3'
    obtain ⟨s, A, n1, c1, B, m1, d1, g4, s1, s2⟩ := open_rcc f4'
    simp at g0 g1 g2 g3 g4
    obtain ⟨g4, g5, g6, g7, g8, g9⟩ := g4
    subst g0 g1 g2 g3 g4 g5 g6 g7 g8 g9
    exact ⟨⟨k0, k1, k2, k3, s⟩, ⟨bounds_u8 b0, bounds_i8 b1, bounds_i64 b2, bounds_u8 b3⟩, A, n1, c1, B, m1, d1, rfl, s1, s2⟩

theorem open_acts {v : Value} {d : DataW H} {p : List MemPlace} (hv : Value.okWide Try.prog W r b0 22 v) (h : DataW.Trod enc Try.prog W base spare held 22 v d p) :
    ∃ A n c l, v = .slice A n c ∧ Sts AcC 10 W A n l ∧ n ≤ c :=
  open_sts Try.underlying22 (by kernel_rfl) (by omega) (fun fuel cs x h => open_acc h) hv h
end
end Go.Proofs.Ytokheagoddmmiaa
