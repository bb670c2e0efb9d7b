/-
  HelpAlone: its worlds and lists as plain data.
-/
import Derived.Test.YtoeilogakfggfaaAw9
import Derived.Test.YtoeilogakfggfaaOb10
import Derived.Test.YtoeilogakfggfaaOpen10
import Derived.Deep.Cut
namespace Go.Proofs.Ytoeilogakfggfaa
open Go.ChangeShapes Go.WideShapes Go.ChangeAt Go.RowKit
set_option linter.unusedVariables false
set_option linter.unusedSimpArgs false
set_option maxRecDepth 20000

abbrev inT : TypeId := 3
/-- The first j nodes have records. -/
def fA (l : List Int) (j : Nat) (i : Nat) : Ns := if i < j then { ns0 i with inf := (l.getD i 0).tmod 4 } else ns0 i
theorem fA_zero (l : List Int) : fA l 0 = ns0 := by funext i; unfold fA; rw [if_neg (by omega)]
theorem fA_at (l : List Int) (j : Nat) : fA l j j = ns0 j := by unfold fA; rw [if_neg (by omega)]
theorem fA_step (l : List Int) (j : Nat) : fA l (j + 1) = upd (fA l j) j { fA l j j with inf := (l.getD j 0).tmod 4 } := by
  funext i
  by_cases e : i = j
  · subst e; rw [upd_at, fA_at]; unfold fA; rw [if_pos (by omega)]
  · rw [upd_ne _ _ e]
    unfold fA
    by_cases h : i < j
    · rw [if_pos h, if_pos (by omega)]
    · rw [if_neg h, if_neg (by omega)]
/-- The nodes' records, as cells. -/
def infC (f : Nat → Ns) : Array Value := #[.int .i64 (f 0).inf, .int .i64 (f 1).inf, .int .i64 (f 2).inf, .int .i64 (f 3).inf, .int .i64 (f 4).inf]
def mrkC (f : Nat → Ns) : Array Value := #[.bool (f 0).mark, .bool (f 1).mark, .bool (f 2).mark, .bool (f 3).mark, .bool (f 4).mark]
theorem infC_at (f : Nat → Ns) {i : Nat} (h : i < 5) : (infC f)[i]? = some (.int .i64 (f i).inf) := by
  match i, h with
  | 0, _ => rfl
  | 1, _ => rfl
  | 2, _ => rfl
  | 3, _ => rfl
  | 4, _ => rfl
theorem mrkC_at (f : Nat → Ns) {i : Nat} (h : i < 5) : (mrkC f)[i]? = some (.bool (f i).mark) := by
  match i, h with
  | 0, _ => rfl
  | 1, _ => rfl
  | 2, _ => rfl
  | 3, _ => rfl
  | 4, _ => rfl
theorem infC_set (f : Nat → Ns) {i : Nat} (h : i < 5) (x : Ns) : (infC f).setIfInBounds i (.int .i64 x.inf) = infC (upd f i x) := by
  match i, h with
  | 0, _ => rfl
  | 1, _ => rfl
  | 2, _ => rfl
  | 3, _ => rfl
  | 4, _ => rfl
theorem mrkC_set (f : Nat → Ns) {i : Nat} (h : i < 5) (x : Ns) : (mrkC f).setIfInBounds i (.bool x.mark) = mrkC (upd f i x) := by
  match i, h with
  | 0, _ => rfl
  | 1, _ => rfl
  | 2, _ => rfl
  | 3, _ => rfl
  | 4, _ => rfl
/-- A slice of Wants: a byte, a small number. -/
structure Wns (w : World) (A : Option Addr) (n : Nat) (l : List (Nat × Int)) : Prop where
  len : n = l.length
  rng : ∀ t ∈ l, t.1 < 256 ∧ -128 ≤ t.2 ∧ t.2 ≤ 127
  at_ : l = [] ∨ ∃ b off, A = some ⟨b, off, none⟩ ∧ b < w.heap.size ∧ ∀ i t, l[i]? = some t → w.cell? ⟨b, off + i * 2, none⟩ = some (.int .u8 (t.1 : Int)) ∧ w.cell? ⟨b, off + i * 2 + 1, none⟩ = some (.int .i8 t.2)
theorem Wns.below {w w' : World} {A : Option Addr} {n : Nat} {l : List (Nat × Int)} (h : Wns w A n l) (hb : Below w.heap.size w w') : Wns w' A n l :=
  ⟨h.len, h.rng, h.at_.imp id fun ⟨b, off, e, hl, hc⟩ => ⟨b, off, e, Nat.lt_of_lt_of_le hl hb.size, fun i t q => ⟨below_read hb (hc i t q).1, below_read hb (hc i t q).2⟩⟩⟩
theorem tmod4 {x : Int} (h : -128 ≤ x ∧ x ≤ 127) : -4 < x.tmod 4 ∧ x.tmod 4 < 4 := by
  have h1 := Int.emod_nonneg x (by decide : (4 : Int) ≠ 0)
  have h2 := Int.emod_lt_of_pos x (by decide : (0 : Int) < 4)
  have h3 := Int.tmod_eq_emod (a := x) (b := 4)
  have h5 : ((4 : Int).natAbs : Int) = 4 := rfl
  split at h3
  · omega
  · rename_i h4
    have h4 : ¬ (0 ≤ x ∨ (4 : Int) ∣ x) := h4
    have h6 : x % 4 ≠ 0 := fun e => h4 (.inr (Int.dvd_of_emod_eq_zero e))
    rw [h5] at h3
    omega
theorem fA_in {l : List Int} (h : ∀ z ∈ l, -128 ≤ z ∧ z ≤ 127) (j i : Nat) : in64 (fA l j i).inf := by
  unfold fA
  split
  · show in64 ((l.getD i 0).tmod 4)
    have : -128 ≤ l.getD i 0 ∧ l.getD i 0 ≤ 127 := by
      rw [List.getD_eq_getElem?_getD]
      cases hq : l[i]? with
      | none => simp
      | some z => exact h z (List.mem_of_getElem? hq)
    have := tmod4 this
    unfold in64; omega
  · exact in01.1
theorem ok_sN {f : Nat → Ns} {rs : List Re} (hf : ∀ i, i < 5 → in64 (f i).inf) (hrs : rs.length ≤ 1000) : Ok (sN 1 5 f rs).ar := (inv_sN (B := 0) (L := 1) (by omega) (by omega) (by omega) hf hrs).fit.ok
theorem i64_info : (Try.prog.info? 2).map (fun i => (i.zero, i.size, i.bytes)) = some (some (.int .i64 0), 1, 8) := by kernel_rfl
theorem bool_info : (Try.prog.info? 4).map (fun i => (i.zero, i.size, i.bytes)) = some (some (.bool false), 1, 1) := by kernel_rfl
theorem made5 : madeCells (Value.int IntKind.i64 0).cells (Int.toNat 5 * 1) = infC ns0 := Array.toList_inj.1 ((toList_madeCells_one (.int .i64 0) 5).trans rfl)
theorem madeB : madeCells (Value.bool false).cells (Int.toNat 5 * 1) = mrkC ns0 := Array.toList_inj.1 ((toList_madeCells_one (.bool false) 5).trans rfl)
theorem run_mk5 (W : World) : (Instr.makeSlice 29 (.int .i64 5) (.int .i64 5)).run Try.prog W = .ok (.slice (some ⟨W.heap.size, 0, none⟩) 5 5) (W.alloc (.cells (infC ns0) i6T)) := by
  obtain ⟨i0, hi0, hz0, hz1, hz2⟩ := info_parts i64_info
  have := run_make (P := Try.prog) W 29 2 i0 _ Try.underlying29 hi0 hz0 .i64 .i64 5 5 (by omega) (Int.le_refl _) (by rw [hz2]; omega) (by omega)
  rw [hz1, made5] at this
  rw [this]
  rfl
theorem run_mkB (W : World) : (Instr.makeSlice 47 (.int .i64 5) (.int .i64 5)).run Try.prog W = .ok (.slice (some ⟨W.heap.size, 0, none⟩) 5 5) (W.alloc (.cells (mrkC ns0) 4)) := by
  obtain ⟨i0, hi0, hz0, hz1, hz2⟩ := info_parts bool_info
  have := run_make (P := Try.prog) W 47 4 i0 _ Try.underlying47 hi0 hz0 .i64 .i64 5 5 (by omega) (Int.le_refl _) (by rw [hz2]; omega) (by omega)
  rw [hz1, madeB] at this
  rw [this]
  rfl
section
variable {n : Int}
theorem oTk_same (l : List (Nat × Int)) (f : Nat → Ns) (i : Nat) : ((oTk n l f).1 i).w0 = (f i).w0 ∧ ((oTk n l f).1 i).w1 = (f i).w1 ∧ ((oTk n l f).1 i).mark = (f i).mark := by
  induction l generalizing f with
  | nil => exact ⟨rfl, rfl, rfl⟩
  | cons p l ih =>
    simp only [oTk]
    split
    · have := ih (upd f p.1 { f p.1 with inf := n })
      simp only
      rw [this.1, this.2.1, this.2.2]
      by_cases e : i = p.1
      · subst e; rw [upd_at]; exact ⟨rfl, rfl, rfl⟩
      · rw [upd_ne _ _ e]; exact ⟨rfl, rfl, rfl⟩
    · split
      · exact ih f
      · exact ⟨rfl, rfl, rfl⟩
theorem oMk_same (l : List Nat) (f : Nat → Ns) (i : Nat) : (oMk l f i).inf = (f i).inf ∧ (oMk l f i).w0 = (f i).w0 ∧ (oMk l f i).w1 = (f i).w1 := by
  induction l generalizing f with
  | nil => exact ⟨rfl, rfl, rfl⟩
  | cons j l ih =>
    simp only [oMk]
    obtain ⟨e1, e2, e3⟩ := ih (upd f j { f j with mark := true })
    rw [e1, e2, e3]
    by_cases e : i = j
    · subst e; rw [upd_at]; exact ⟨rfl, rfl, rfl⟩
    · rw [upd_ne _ _ e]; exact ⟨rfl, rfl, rfl⟩
theorem wayS_same (x : Ns) (wy od nw : Int) : (wayS x wy od nw).inf = x.inf ∧ (wayS x wy od nw).mark = x.mark := by
  unfold wayS
  split
  · exact ⟨rfl, rfl⟩
  · split <;> exact ⟨rfl, rfl⟩
theorem oWay_same (on : List Nat) (wy od nw : Int) (f : Nat → Ns) (i : Nat) : (oWay on wy od nw f i).inf = (f i).inf ∧ (oWay on wy od nw f i).mark = (f i).mark := by
  unfold oWay
  split
  · exact ⟨rfl, rfl⟩
  · rename_i j l
    by_cases e : i = j
    · subst e; rw [upd_at]; exact wayS_same _ _ _ _
    · rw [upd_ne _ _ e]; exact ⟨rfl, rfl⟩
end
end Go.Proofs.Ytoeilogakfggfaa
