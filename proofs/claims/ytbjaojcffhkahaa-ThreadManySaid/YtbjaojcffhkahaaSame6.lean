/-
  The laws' same; the document's runner.
-/
import Derived.Test.YtbjaojcffhkahaaRef6
namespace Go.Proofs.Ytbjaojcffhkahaa
open Go.ChangeShapes Go.WideShapes Go.ChangeAt Go.RowKit
set_option linter.unusedVariables false
set_option linter.unusedSimpArgs false
set_option maxRecDepth 20000

theorem eq_upto {zs ys : List Int} {k : Nat} (h : zs.length = ys.length) (hk : k < zs.length) (he : zs.take k = ys.take k) : zs.take (k + 1) = ys.take (k + 1) ↔ zs.getD k 0 = ys.getD k 0 := by
  rw [take_snoc zs k hk, take_snoc ys k (by omega), he]
  have : ∀ x y : Int, ys.take k ++ [x] = ys.take k ++ [y] ↔ x = y := by intro x y; simp
  rw [this]
  have hk2 : k < ys.length := by omega
  simp [List.getD, hk, hk2]
set_option maxHeartbeats 1000000 in
theorem same_walk (A B : Option Addr) (n c m d : Nat) (zs ys : List Int) (w : World) (h1 : Sl w A n c zs) (h2 : Sl w B m d ys) (hn : n ≤ 10000) :
    Calls Try.prog 15 #[.slice A n c, .slice B m d] w fun e w' => e = .returned (.bool (decide (zs = ys))) ∧ Below w.heap.size w w' := by
  have l1 := h1.len
  have l2 := h2.len
  by_cases hnm : n = m
  · subst hnm
    have H1 := Lib.hid h1
    have H2 := Lib.hid h2
    have L1 := Lib.hid l1
    have L2 := Lib.hid l2
    clear h1 h2 l1 l2
    go_enter Try.func15, Try.ntmps15
    go_wp2
    go_loopw [5, 13] (fun _ i wr => ∃ k : Nat, k ≤ n ∧ i = .int .i64 k ∧ zs.take k = ys.take k ∧ Below w.heap.size w wr) (fun _ i _ => n - (intOf i).toNat)
    case atStart => exact ⟨0, Nat.zero_le _, rfl, by simp, Below.refl _ _⟩
    case round =>
      obtain ⟨k, hk, rfl, he, hb⟩ := hrel
      have HE := Lib.hid he
      clear he
      by_cases hlt : k < n
      · obtain ⟨b, off, rfl, hb1, hc1⟩ := H1.out.at0 hlt
        obtain ⟨b', off', rfl, hb2, hc2⟩ := H2.out.at0 hlt
        have d1 := below_read hb hc1
        have d2 := below_read hb hc2
        clear hc1 hc2
        have i1 : (0 : Int) ≤ (k : Int) := by omega
        have i2 : (k : Int) < (n : Int) := by omega
        have HU := Lib.hid (eq_upto (k := k) (by rw [← L1.out, ← L2.out]) (by rw [← L1.out]; exact hlt) HE.out)
        have HX : Hid (zs = ys → zs.getD k 0 = ys.getD k 0) := fun e => by rw [e]
        by_cases hq : zs.getD k 0 = ys.getD k 0
        · rw [hq] at d1
          have HQ := Lib.hid hq
          clear hq
          generalize ys.getD k 0 = z at *
          go_wp2
          go_quiet (fail)
          go_wp2
          go_roundw
          case rel => exact ⟨k + 1, by omega, by go_num, HU.out.2 HQ.out, below_drewN hb _⟩
          case measure => simp [intOf]; omega
        · have hzy : decide (zs = ys) = false := by simpa using fun e => hq (HX.out e)
          have HZ := Lib.hid hzy
          clear hzy HX HU
          generalize zs.getD k 0 = x at *
          generalize ys.getD k 0 = y at *
          go_wp2
          go_quiet (fail)
          go_wp2
          go_ret
          exact ⟨by rw [HZ.out]; rfl, below_drewN hb _⟩
      · have hzy : decide (zs = ys) = true := by
          have := HE.out
          rw [List.take_of_length_le (by have := L1.out; omega), List.take_of_length_le (by have := L2.out; omega)] at this
          simpa using this
        have HZ := Lib.hid hzy
        clear hzy
        go_wp2
        go_ret
        exact ⟨by rw [HZ.out]; rfl, hb⟩
  · have hzy : decide (zs = ys) = false := by simpa using fun e => hnm (by rw [l1, l2, e])
    have hi : ¬ (n : Int) = (m : Int) := by omega
    rw [hzy]
    clear hzy h1 h2 l1 l2
    go_enter Try.func15, Try.ntmps15
    go_wp2
    go_ret
    exact ⟨rfl, Below.refl _ _⟩
end Go.Proofs.Ytbjaojcffhkahaa
