/-
  How the laws' arguments read: slices of small numbers, opened to what the walks ask.
-/
import Derived.Test.YtcegianjpifnbaaGreatSk10
import Derived.Deep.Slices
import Derived.Deep.Fields
import Derived.ChangeSame
import Derived.ChangeSlices
import Derived.ProofKit
import Derived.OpenShut
namespace Go.Proofs.YtcegianjpifnbaaGreat
open Go.ChangeShapes Go.WideShapes Go.ChangeAt Go.RowKit Go.Deep
set_option linter.unusedVariables false
set_option maxRecDepth 20000

theorem addr_add (a : Addr) (i j : Nat) : (a.add i).add j = a.add (i + j) := by
  unfold Addr.add
  by_cases hi : i = 0 <;> by_cases hj : j = 0 <;> simp [hi, hj, Nat.add_assoc]
theorem addr_plain {w : World} {a : Addr} {i : Nat} {v : Value} (h : w.cell? (a.add i) = some v) : a.add i = ⟨a.block, a.off + i, none⟩ := by
  unfold Addr.add at *
  split
  · rename_i h0
    subst h0
    rw [if_pos rfl] at h
    unfold World.cell? at h
    rcases a with ⟨b, off, sp⟩
    cases sp with
    | none => rfl
    | some k => simp at h; split at h <;> simp at h
  · rfl
theorem list_of {α : Type} {R : Nat → α → Prop} : ∀ (n : Nat), (∀ i, i < n → ∃ p, R i p) → ∃ l : List α, l.length = n ∧ ∀ i p, l[i]? = some p → R i p
  | 0, _ => ⟨[], rfl, fun i p h => by simp at h⟩
  | n + 1, h => by
    obtain ⟨l, hl, hr⟩ := list_of n fun i hi => h i (by omega)
    obtain ⟨p, hp⟩ := h n (by omega)
    refine ⟨l ++ [p], by simp [hl], fun i q hq => ?_⟩
    rw [List.getElem?_append] at hq
    split at hq
    · exact hr i q hq
    · rename_i hi
      have hii : i = n := by
        have := (List.getElem?_eq_some_iff.1 hq).1
        simp at this
        omega
      subst hii
      rw [hl] at hq
      simp at hq
      subst hq
      exact hp

section
variable {H : Type} {enc : TypeId × Value → H} {W : World} {b0 base : Nat} {spare : Nat → Bool} {held : Bool} {r : Reach}

theorem open_sk {t e : TypeId} {k : IntKind} {lo hi : Int} (ht : Tryz.prog.underlying t = some (.slice e)) (he : Tryz.prog.underlying e = some (.int k)) (hc : Tryz.prog.cellsOf e = 1) (hk : ∀ n : Int, (Lit.int k n).wf = true → lo ≤ n ∧ n ≤ hi) {fuel : Nat} {cs : List Value} {x : DataW H × List MemPlace} (h : DataW.trod enc Tryz.prog W base spare held fuel t cs = some x) :
    ∃ A n c zs, cs = [.slice A n c] ∧ Sk k lo hi W A n zs ∧ n ≤ c := by
  rcases open_ints ht he hc h with ⟨hcs, _⟩ | ⟨y, l, c, zs, hcs, _, hl, hm, hz, _, hcell, hwz⟩
  · exact ⟨none, 0, 0, [], hcs, ⟨rfl, Nat.zero_le _, (fun z hz => by cases hz), .inl rfl⟩, Nat.le_refl _⟩
  · have hlz : l ≤ zs.length := by
      have hz' := hz
      split at hz' <;> omega
    refine ⟨some y, l, c, zs.take l, hcs, ⟨by rw [List.length_take]; omega, Nat.le_trans hl hm, fun z hzz => hk z (hwz z (List.mem_of_mem_take hzz)), ?_⟩, hl⟩
    by_cases h0 : l = 0
    · exact .inl (by simp [h0])
    · have e0 := addr_plain (hcell 0 (by omega))
      have hx : y = ⟨y.block, y.off, none⟩ := by simpa [Addr.add] using e0
      refine .inr ⟨y.block, y.off, by rw [← hx], fun i z hi => ?_⟩
      have hil : i < l := by
        have := (List.getElem?_eq_some_iff.1 hi).1
        rw [List.length_take] at this
        omega
      have hcl := hcell i (by omega)
      rw [addr_plain hcl] at hcl
      rw [hcl]
      rw [List.getElem?_take, if_pos hil] at hi
      simp [List.getD, hi]
theorem open_sl {t e : TypeId} (ht : Tryz.prog.underlying t = some (.slice e)) (he : Tryz.prog.underlying e = some (.int .i64)) (hc : Tryz.prog.cellsOf e = 1) {fuel : Nat} {cs : List Value} {x : DataW H × List MemPlace} (h : DataW.trod enc Tryz.prog W base spare held fuel t cs = some x) :
    ∃ A n c zs, cs = [.slice A n c] ∧ Sl W A n c zs ∧ n ≤ maxLen := by
  rcases open_ints ht he hc h with ⟨hcs, _⟩ | ⟨y, l, c, zs, hcs, _, hl, hm, hz, _, hcell, hwz⟩
  · exact ⟨none, 0, 0, [], hcs, Sl.nil _, Nat.zero_le _⟩
  · have hlz : l ≤ zs.length := by
      have hz' := hz
      split at hz' <;> omega
    refine ⟨some y, l, c, zs.take l, hcs, ⟨by rw [List.length_take]; omega, hl, fun e => (by cases e), ?_⟩, Nat.le_trans hl hm⟩
    by_cases h0 : l = 0
    · exact .inl (by simp [h0])
    · have e0 := addr_plain (hcell 0 (by omega))
      have hx : y = ⟨y.block, y.off, none⟩ := by simpa [Addr.add] using e0
      refine .inr ⟨y.block, y.off, by rw [← hx], fun i z hi => ?_⟩
      have hil : i < l := by
        have := (List.getElem?_eq_some_iff.1 hi).1
        rw [List.length_take] at this
        omega
      have hcl := hcell i (by omega)
      rw [addr_plain hcl] at hcl
      rw [hcl]
      rw [List.getElem?_take, if_pos hil] at hi
      simp [List.getD, hi]
theorem open_nums {v : Value} {d : DataW H} {p : List MemPlace} (hv : Value.okWide Tryz.prog W r b0 24 v) (h : DataW.Trod enc Tryz.prog W base spare held 24 v d p) :
    ∃ A n c zs, v = .slice A n c ∧ Sl W A n c zs ∧ n ≤ maxLen := by
  obtain ⟨a0, len, cap, rfl⟩ := okWide_slice Tryz.underlying24 hv
  obtain ⟨fuel, hf⟩ := h
  obtain ⟨A, n, c, zs, e, hs, hc⟩ := open_sl Tryz.underlying24 Tryz.underlying2 (by kernel_rfl) hf
  simp [Value.cells] at e
  obtain ⟨rfl, rfl, rfl⟩ := e
  exact ⟨_, _, _, zs, rfl, hs, hc⟩
theorem open_any {t e : TypeId} (ht : Tryz.prog.underlying t = some (.slice e)) {fuel : Nat} {cs : List Value} {x : DataW H × List MemPlace} (h : DataW.trod enc Tryz.prog W base spare held fuel t cs = some x) : ∃ A n c, cs = [.slice A n c] := by
  rcases open_slice ht h with ⟨h0, _⟩ | ⟨a, len', cap', m, q, D, Pl, hcs, _⟩
  · exact ⟨none, 0, 0, h0⟩
  · exact ⟨_, _, _, hcs⟩
theorem open_inc {fuel : Nat} {cs : List Value} {x : DataW H × List MemPlace} (h : DataW.trod enc Tryz.prog W base spare held fuel 27 cs = some x) : ∃ B m c Z k q ks, cs = [.slice B m c, .slice Z k q] ∧ Sl W B m c ks := by
  obtain ⟨xs, n, _, _, hcl, hxl, hfld⟩ := DataW.trod_struct Tryz.underlying27 h
  have h6 : cs.length = 2 := by
    have e : Tryz.prog.cellsOf 27 = 2 := by kernel_rfl
    rw [← e]; exact hcl
  have f0 := hfld 0 _ rfl
  have f1 := hfld 1 _ rfl
  have hx2 : xs.length = 2 := hxl
  have e0 : Tryz.prog.cellsOf 25 = 1 := by kernel_rfl
  have e1 : Tryz.prog.cellsOf 24 = 1 := by kernel_rfl
  match cs, h6 with
  | [c0, c1], _ =>
    have f0' : DataW.trod enc Tryz.prog W base spare held n 24 [c0] = xs[0]? := by rw [← f0]; simp [e1]
    have f1' : DataW.trod enc Tryz.prog W base spare held n 25 [c1] = xs[1]? := by rw [← f1]; simp [e0]
    rw [List.getElem?_eq_getElem (by omega)] at f0' f1'
    obtain ⟨A, n1, k1, ks, g0, s1, _⟩ := open_sl Tryz.underlying24 Tryz.underlying2 (by kernel_rfl) f0'
    obtain ⟨B, n2, k2, g1⟩ := open_any Tryz.underlying25 f1'
    simp at g0 g1
    subst g0 g1
    exact ⟨_, _, _, _, _, _, ks, rfl, s1⟩
theorem open_ndc {fuel : Nat} {cs : List Value} {x : DataW H × List MemPlace} (h : DataW.trod enc Tryz.prog W base spare held fuel 29 cs = some x) : ∃ x y P n1 c1 B m c Z k q ks, cs = [.bool x, .bool y, .slice P n1 c1, .slice B m c, .slice Z k q] ∧ Sl W B m c ks := by
  obtain ⟨xs, n, _, _, hcl, hxl, hfld⟩ := DataW.trod_struct Tryz.underlying29 h
  have h6 : cs.length = 5 := by
    have e : Tryz.prog.cellsOf 29 = 5 := by kernel_rfl
    rw [← e]; exact hcl
  have f0 := hfld 0 _ rfl
  have f1 := hfld 1 _ rfl
  have f2 := hfld 2 _ rfl
  have f3 := hfld 3 _ rfl
  have hx2 : xs.length = 4 := hxl
  have e0 : Tryz.prog.cellsOf 4 = 1 := by kernel_rfl
  have e1 : Tryz.prog.cellsOf 23 = 1 := by kernel_rfl
  have e2 : Tryz.prog.cellsOf 27 = 2 := by kernel_rfl
  match cs, h6 with
  | [c0, c1, c2, c3, c4], _ =>
    have f0' : DataW.trod enc Tryz.prog W base spare held n 4 [c0] = xs[0]? := by rw [← f0]; simp [e0]
    have f1' : DataW.trod enc Tryz.prog W base spare held n 4 [c1] = xs[1]? := by rw [← f1]; simp [e0]
    have f2' : DataW.trod enc Tryz.prog W base spare held n 23 [c2] = xs[2]? := by rw [← f2]; simp [e1]
    have f3' : DataW.trod enc Tryz.prog W base spare held n 27 [c3, c4] = xs[3]? := by rw [← f3]; simp [e2]
    rw [List.getElem?_eq_getElem (by omega)] at f0' f1' f2' f3'
    obtain ⟨x0, g0, _⟩ := DataW.trod_bool Tryz.underlying4 f0'
    obtain ⟨x1, g1, _⟩ := DataW.trod_bool Tryz.underlying4 f1'
    obtain ⟨P, n1, k1, g2⟩ := open_any Tryz.underlying23 f2'
    obtain ⟨B, m, c, Z, k, q, ks, g3, s3⟩ := open_inc f3'
    simp at g0 g1 g2 g3
    obtain ⟨g3, g4⟩ := g3
    subst g0 g1 g2 g3 g4
    exact ⟨_, _, _, _, _, _, _, _, _, _, _, ks, rfl, s3⟩
theorem open_snap {v : Value} {d : DataW H} {p : List MemPlace} (hv : Value.okWide Tryz.prog W r b0 150 v) (h : DataW.Trod enc Tryz.prog W base spare held 150 v d p) :
    ∃ (rf inf : Int) (x y : Bool) (P B C : Option Addr) (n1 c1 m c p q : Nat) (zv : Value) (ks ws : List Int), v = .agg #[.int .i64 rf, .int .i64 inf, .bool x, .bool y, .slice P n1 c1, .slice B m c, zv, .slice C p q] ∧ Sl W B m c ks ∧ Sl W C p q ws := by
  obtain ⟨cs, rfl, hsz⟩ := okWide_struct Tryz.underlying150 hv
  obtain ⟨fuel, hf⟩ := h
  obtain ⟨l⟩ := cs
  have hf : DataW.trod enc Tryz.prog W base spare held fuel 150 l = some (d, p) := by simpa [Value.cells] using hf
  obtain ⟨xs, n, _, _, hcl, hxl, hfld⟩ := DataW.trod_struct Tryz.underlying150 hf
  have h6 : l.length = 8 := by
    have e : Tryz.prog.cellsOf 150 = 8 := by kernel_rfl
    rw [← e]; exact hcl
  have f0 := hfld 0 _ rfl
  have f1 := hfld 1 _ rfl
  have f2 := hfld 2 _ rfl
  have f3 := hfld 3 _ rfl
  have hx2 : xs.length = 4 := hxl
  have e0 : Tryz.prog.cellsOf 53 = 1 := by kernel_rfl
  have e1 : Tryz.prog.cellsOf 2 = 1 := by kernel_rfl
  have e2 : Tryz.prog.cellsOf 29 = 5 := by kernel_rfl
  have e3 : Tryz.prog.cellsOf 25 = 1 := by kernel_rfl
  match l, h6 with
  | [c0, c1, c2, c3, c4, c5, c6, c7], _ =>
    have f0' : DataW.trod enc Tryz.prog W base spare held n 53 [c0] = xs[0]? := by rw [← f0]; simp [e0]
    have f1' : DataW.trod enc Tryz.prog W base spare held n 2 [c1] = xs[1]? := by rw [← f1]; simp [e1]
    have f2' : DataW.trod enc Tryz.prog W base spare held n 29 [c2, c3, c4, c5, c6] = xs[2]? := by rw [← f2]; simp [e2]
    have f3' : DataW.trod enc Tryz.prog W base spare held n 25 [c7] = xs[3]? := by rw [← f3]; simp [e3]
    rw [List.getElem?_eq_getElem (by omega)] at f0' f1' f2' f3'
    obtain ⟨x0, g0, _, _⟩ := DataW.trod_int Tryz.underlying53 f0'
    obtain ⟨x1, g1, _, _⟩ := DataW.trod_int Tryz.underlying2 f1'
    obtain ⟨x, y, P, n1, k1, B, m, c, Z, k, q, ks, g2, s2⟩ := open_ndc f2'
    obtain ⟨C, n7, k7, ws, g7, s7, _⟩ := open_sl Tryz.underlying25 Tryz.underlying53 (by kernel_rfl) f3'
    simp at g0 g1 g2 g7
    obtain ⟨g2, g3, g4, g5, g6⟩ := g2
    subst g0 g1 g2 g3 g4 g5 g6 g7
    exact ⟨_, _, _, _, _, _, _, _, _, _, _, _, _, _, ks, ws, rfl, s2, s7⟩
end
end Go.Proofs.YtcegianjpifnbaaGreat
