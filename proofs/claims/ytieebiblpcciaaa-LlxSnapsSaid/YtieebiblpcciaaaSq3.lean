/-
  What the laws' Same of two inner nodes tells, of two that read alike.
-/
import Derived.Test.YtieebiblpcciaaaPa
namespace Go.Proofs.Ytieebiblpcciaaa
open Go.ChangeShapes Go.WideShapes Go.ChangeAt Go.RowKit
set_option linter.unusedVariables false
set_option linter.unusedSimpArgs false
set_option maxRecDepth 20000

theorem boxedS (w : World) (x y x' y' : Value) : ∃ (W : World) (b : Nat), (w.alloc (.cells #[x, y] 71)).alloc (.cells #[x', y'] 71) = W ∧ w.heap.size + 1 = b ∧ Below w.heap.size w W ∧ Box W w.heap.size x y ∧ Box W b x' y' :=
  ⟨_, _, rfl, rfl, ((Below.refl _ w).alloc (Nat.le_refl _) _).alloc (by simp) _, (Box.new w rfl x y _).below (below_new _ _), Box.new _ (by simp) x' y' _⟩

set_option maxHeartbeats 1000000 in
theorem lawSame_walk (A B A' B' : Option Addr) (n c m d c' d' : Nat) (ks ws : List Int) (w : World) (h1 : Sl w A n c ks) (h2 : Sl w B m d ws) (h3 : Sl w A' n c' ks) (h4 : Sl w B' m d' ws) (hn : n ≤ 1000) (hm : m ≤ 1000) :
    Calls Try.prog 39 #[inn A n c B m d, inn A' n c' B' m d'] w fun e w' => e = .returned (.bool true) ∧ Below w.heap.size w w' := by
  go_enter Try.func39, Try.ntmps39
  go_wp2
  obtain ⟨W, b, hW, hb, hb0, HN, HO⟩ := boxedS w (.slice A n c) (.slice B m d) (.slice A' n c') (.slice B' m d')
  rw [hW, hb]
  clear hW hb
  obtain ⟨c0, c1⟩ := id HN
  obtain ⟨c2, c3⟩ := id HO
  have i1 := h1.below hb0
  have i2 := h2.below hb0
  have i3 := h3.below hb0
  have i4 := h4.below hb0
  clear h1 h2 h3 h4
  go_loopw [26] (fun i wr => ∃ k q : Nat, k ≤ n ∧ i = .int .i64 k ∧ wr = W.drewN q) (fun i _ => n - (intOf i).toNat)
  case atStart => exact ⟨0, 0, Nat.zero_le _, rfl, rfl⟩
  case round =>
    obtain ⟨k, q, hk, rfl, rfl⟩ := hrel
    by_cases hlt : k < n
    · have hll : k < ks.length := by rw [← i1.len]; exact hlt
      obtain ⟨g, off, rfl, hbl, d1⟩ := i1.at_ hll
      obtain ⟨g', off', rfl, hbl', d2⟩ := i3.at_ hll
      have hk0 : (0 : Int) ≤ (k : Int) := by omega
      have hk1 : (k : Int) < (n : Int) := by omega
      clear i1 i2 i3 i4 HN HO
      generalize ks[k] = z at *
      go_wp2
      go_quiet (fail)
      go_wp2
      go_roundw
      case rel => exact ⟨k + 1, _, by omega, by go_num, rfl⟩
      case measure => simp [intOf]; omega
    · go_wp2
      go_loopw [44] (fun i wr => ∃ k q : Nat, k ≤ m ∧ i = .int .i64 k ∧ wr = W.drewN q) (fun i _ => m - (intOf i).toNat)
      case atStart => exact ⟨0, q, Nat.zero_le _, rfl, rfl⟩
      case round =>
        clear hk hlt
        obtain ⟨k, q, hk, rfl, rfl⟩ := hrel
        by_cases hlt : k < m
        · have hll : k < ws.length := by rw [← i2.len]; exact hlt
          obtain ⟨g, off, rfl, hbl, d1⟩ := i2.at_ hll
          obtain ⟨g', off', rfl, hbl', d2⟩ := i4.at_ hll
          have hk0 : (0 : Int) ≤ (k : Int) := by omega
          have hk1 : (k : Int) < (m : Int) := by omega
          clear i1 i2 i3 i4 HN HO
          generalize ws[k] = z at *
          go_wp2
          go_quiet (fail)
          go_wp2
          go_roundw
          case rel => exact ⟨k + 1, _, by omega, by go_num, rfl⟩
          case measure => simp [intOf]; omega
        · go_wp2
          go_ret
          exact ⟨rfl, below_drewN hb0 _⟩

end Go.Proofs.Ytieebiblpcciaaa
