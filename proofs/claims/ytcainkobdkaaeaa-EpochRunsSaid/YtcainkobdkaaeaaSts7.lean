/-
  How the laws' arguments read: bytes, and calls.
-/
import Derived.Test.YtcainkobdkaaeaaBase7
namespace Go.Proofs.Ytcainkobdkaaeaa
open Go.RowKit
set_option linter.unusedVariables false
set_option maxRecDepth 20000

/-- A slice of n elements of sz cells at A: each reads as told. -/
def Sts {α : Type} (R : World → List Value → α → Prop) (sz : Nat) (w : World) (A : Option Addr) (n : Nat) (l : List α) : Prop :=
  n = l.length ∧ n ≤ maxLen ∧ (l = [] ∨ ∃ b off, A = some ⟨b, off, none⟩ ∧ ∀ i s, l[i]? = some s → ∃ cs : List Value, cs.length = sz ∧ (∀ (j : Nat) (u : Value), cs[j]? = some u → w.cell? ⟨b, off + i * sz + j, none⟩ = some u) ∧ R w cs s)
/-- One cell reads as a byte. -/
def ByC (w : World) (cs : List Value) (x : Nat) : Prop := cs = [.int .u8 (x : Int)] ∧ x < 256
/-- A call: which, of which thread, with two numbers. -/
structure Ac where
  d : Nat
  on : Int
  n : Int
  t : Int
def Ac.wf (x : Ac) : Prop := x.d < 256 ∧ (-128 ≤ x.on ∧ x.on ≤ 127) ∧ (-9223372036854775808 ≤ x.n ∧ x.n ≤ 9223372036854775807) ∧ (-9223372036854775808 ≤ x.t ∧ x.t ≤ 9223372036854775807)
/-- Four cells read as a call. -/
def AcC (w : World) (cs : List Value) (x : Ac) : Prop := x.wf ∧ cs = [.int .u8 (x.d : Int), .int .i8 x.on, .int .i64 x.n, .int .i64 x.t]
section
variable {w w' : World} {A : Option Addr} {n k : Nat}
theorem bytes_at {l : List Nat} (h : Sts ByC 1 w A n l) (hk : k < n) : ∃ b off, A = some ⟨b, off, none⟩ ∧ w.cell? ⟨b, off + k, none⟩ = some (.int .u8 ((l.getD k 0 : Nat) : Int)) ∧ l.getD k 0 < 256 := by
  obtain ⟨h1, _, h2⟩ := h
  rcases h2 with h2 | ⟨b, off, e, hc⟩
  · subst h2; simp at h1; omega
  · have hl : k < l.length := by omega
    obtain ⟨cs, hl', hcc, rfl, hx⟩ := hc k _ (List.getElem?_eq_getElem hl)
    have := hcc 0 _ rfl
    exact ⟨b, off, e, by simpa [List.getD, hl] using this, by simpa [List.getD, hl] using hx⟩
theorem acts_at {l : List Ac} (h : Sts AcC 4 w A n l) (hk : k < n) : ∃ (b off : Nat) (x : Ac), A = some ⟨b, off, none⟩ ∧ x.wf ∧ w.cell? ⟨b, off + k * 4, none⟩ = some (.int .u8 (x.d : Int)) ∧ w.cell? ⟨b, off + k * 4 + 1, none⟩ = some (.int .i8 x.on) ∧ w.cell? ⟨b, off + k * 4 + 2, none⟩ = some (.int .i64 x.n) ∧ w.cell? ⟨b, off + k * 4 + 3, none⟩ = some (.int .i64 x.t) := by
  obtain ⟨h1, _, h2⟩ := h
  rcases h2 with h2 | ⟨b, off, e, hc⟩
  · subst h2; simp at h1; omega
  · have hl : k < l.length := by omega
    obtain ⟨cs, hl', hcc, hx, rfl⟩ := hc k _ (List.getElem?_eq_getElem hl)
    exact ⟨b, off, l[k], e, hx, hcc 0 _ rfl, hcc 1 _ rfl, hcc 2 _ rfl, hcc 3 _ rfl⟩
end
end Go.Proofs.Ytcainkobdkaaeaa
