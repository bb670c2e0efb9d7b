/-
  Which way a key goes: sort.Search over the closure of inner's Way, and Way itself, of any keys. They only read.
-/
import Derived.Test.YtpbbkfpapmomhaaInner1
import Derived.Lib.Hide
namespace Go.Proofs.Ytpbbkfpapmomhaa
open Go.ChangeShapes Go.WideShapes Go.ChangeAt Go.RowKit
set_option linter.unusedVariables false

/-- 'ks[i] > x', as the closure asks it. -/
def gtB (ks : List Int) (x : Int) (i : Nat) : Bool := decide (x < ks.getD i 0)

set_option maxHeartbeats 400000 in
theorem way1_walk (A : Option Addr) (n c : Nat) (ks : List Int) (x : Int) (g1 g2 : Nat) (i : Nat) (w : World) (h : Sl w A n c ks) (hi : i < n) (hn : n ≤ 100000)
    (h1 : w.cell? ⟨g1, 0, none⟩ = some (.slice A n c)) (h2 : w.cell? ⟨g2, 0, none⟩ = some (.int .i64 x)) :
    Calls Try.prog 36 #[.int .i64 (i : Int), .pointer (some ⟨g1, 0, none⟩), .pointer (some ⟨g2, 0, none⟩)] w fun e w' => e = .returned (.bool (gtB ks x i)) ∧ ∃ q, w' = w.drewN q := by
  obtain ⟨b, off, rfl, hbl, c1⟩ := h.at0 hi
  have hk0 : (0 : Int) ≤ (i : Int) := by omega
  have hk1 : (i : Int) < (n : Int) := by omega
  have HG : Hid (gtB ks x i = decide (x < ks.getD i 0)) := rfl
  clear h
  generalize ks.getD i 0 = p at *
  go_enter Try.func36, Try.ntmps36
  go_wp2
  go_quiet (fail)
  go_wp2
  go_ret
  exact ⟨ret_bool HG.out.symm, _, rfl⟩

/-- What a search by halves ends at, whatever the keys. -/
def Spot (ks : List Int) (x : Int) (r : Nat) : Prop := r ≤ ks.length ∧ (r < ks.length → gtB ks x r = true) ∧ (0 < r → gtB ks x (r - 1) = false)

set_option maxHeartbeats 1000000 in
theorem search_walk (A : Option Addr) (n c : Nat) (ks : List Int) (x : Int) (g1 g2 : Nat) (w : World) (h : Sl w A n c ks) (hn : n ≤ 100000)
    (h1 : w.cell? ⟨g1, 0, none⟩ = some (.slice A n c)) (h2 : w.cell? ⟨g2, 0, none⟩ = some (.int .i64 x)) :
    Calls Try.prog 35 #[.int .i64 (n : Int), .func (.func 36) #[] #[.pointer (some ⟨g1, 0, none⟩), .pointer (some ⟨g2, 0, none⟩)]] w fun e w' => ∃ r : Nat, e = .returned (.int .i64 (r : Int)) ∧ Spot ks x r ∧ ∃ q, w' = w.drewN q := by
  have HL := Lib.hid h.len
  go_enter Try.func35, Try.ntmps35
  go_wp2
  go_loopw [5, 6] (fun i j wr => ∃ a b q : Nat, a ≤ b ∧ b ≤ n ∧ i = .int .i64 (a : Int) ∧ j = .int .i64 (b : Int) ∧ wr = w.drewN q ∧ Hid ((b < n → gtB ks x b = true) ∧ (0 < a → gtB ks x (a - 1) = false))) (fun i j _ => (intOf j).toNat - (intOf i).toNat)
  case atStart => exact ⟨0, n, 0, Nat.zero_le _, Nat.le_refl _, rfl, rfl, rfl, fun h => absurd h (by omega), fun h => absurd h (by omega)⟩
  case round =>
    obtain ⟨a, b, q, h4, h5, rfl, rfl, rfl, hI⟩ := hrel
    by_cases hlt : a < b
    · have hlt' : (a : Int) < (b : Int) := by omega
      have hd : (n : Int) ≤ 100000 := by omega
      go_wp2_with fail
      rw [show ((a : Int) + (b : Int)) / 2 = (((a + b) / 2 : Nat) : Int) from by omega]
      refine (way1_walk A n c ks x g1 g2 ((a + b) / 2) (w.drewN q) (h.drewN q) (by omega) hn h1 h2).mono ?_
      rintro e w1 ⟨rfl, q', rfl⟩
      have hm : (a + b) / 2 < b := by omega
      have hm' : a ≤ (a + b) / 2 := by omega
      generalize (a + b) / 2 = mm at *
      cases hg : gtB ks x mm with
      | true =>
        have HG := Lib.hid hg
        clear hg
        go_wp2
        go_roundw
        case rel => exact ⟨a, mm, q + q', hm', by omega, rfl, rfl, by simp, fun _ => HG.out, hI.out.2⟩
        case measure => simp [intOf]; omega
      | false =>
        have HG := Lib.hid hg
        clear hg
        go_wp2
        go_roundw
        case rel => exact ⟨mm + 1, b, q + q', by omega, h5, by go_num, rfl, by simp, hI.out.1, fun _ => HG.out⟩
        case measure => simp [intOf]; omega
    · have hlt' : (b : Int) ≤ (a : Int) := by omega
      obtain rfl : a = b := by omega
      go_wp2
      go_ret
      exact ⟨a, rfl, ⟨by rw [← HL.out]; exact h5, by rw [← HL.out]; exact hI.out.1, hI.out.2⟩, _, rfl⟩

/-- The way, held within the ways. -/
def heldW (r m : Nat) : Nat := min r (m - 1)

set_option maxHeartbeats 1000000 in
theorem way_walk (A B : Option Addr) (n c m d : Nat) (ks : List Int) (x : Int) (w : World) (h : Sl w A n c ks) (hn : n ≤ 100000) (hm : m ≤ 100000) :
    Calls Try.prog 16 #[inn A n c B m d, .int .i64 x] w fun e w' => ∃ r : Nat, e = .returned (.int .i64 (heldW r m : Nat)) ∧ Spot ks x r ∧ Below w.heap.size w w' := by
  go_enter Try.func16, Try.ntmps16
  go_wp2_with fail
  refine (search_walk A n c ks x w.heap.size (w.heap.size + 1) _ ((h.alloc _).alloc _) hn (by simp) (by simp)).mono ?_
  rintro e w1 ⟨r, rfl, hs, q, rfl⟩
  have hb : Below w.heap.size w ((w.alloc (.cells #[.slice A n c, .slice B m d] 26)).alloc (.cells #[.int .i64 x] 2)) := ((Below.refl _ _).alloc (Nat.le_refl _) _).alloc (by simp) _
  have HS := Lib.hid hs
  clear hs
  go_wp2
  all_goals go_ret
  all_goals refine ⟨r, ret_int ?_, HS.out, below_drewN hb _⟩
  all_goals unfold heldW
  all_goals rename_i u v
  all_goals (split at v <;> omega)
end Go.Proofs.Ytpbbkfpapmomhaa
