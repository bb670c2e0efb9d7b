/-
  The law RecordFull.
-/
import Derived.Test.YtokheagoddmmiaaLawB
namespace Go.Proofs.Ytokheagoddmmiaa
open Go.ChangeShapes Go.WideShapes Go.ChangeAt Go.RowKit
set_option linter.unusedVariables false
set_option linter.unusedSimpArgs false
set_option maxRecDepth 20000

set_option maxHeartbeats 4000000 in
theorem recordFull_lo (m : Int) (t : Nat) (w : World) (ht : t < 256) (hm : m < 0) :
    Calls Try.prog 5 #[.int .i64 m, .int .u8 (t : Int)] w fun e w' => e = .returned (.bool true) ∧ Below w.heap.size w w' := by
  have HMO : Hid (mostOf m = 0 ∧ 0 ≤ 65536) := ⟨by unfold mostOf; omega, by omega⟩
  have f1 : (0 : Int) > m := hm
  have hcv : IntKind.i64.wrap (t : Int) = (t : Int) := IntWalk.i64_in _ (by omega)
  go_enter Try.func5, Try.ntmps5
  go_wp2_with fail
  refine (awake_walk w).mono ?_
  rintro e w1 ⟨rfl, b1⟩
  go_wp2_with fail
  refine (new_walk m w1).mono ?_
  rintro e w2 ⟨rfl, t2, b2⟩
  rw [HMO.out.1] at t2
  obtain ⟨a, ha⟩ : ∃ a, w1.heap.size = a := ⟨_, rfl⟩
  rw [ha] at t2 ⊢
  have HI : Hid (∃ F l P, Tb F w2 a 0 l P ∧ l.length = min 0 0 ∧ (∀ b, F b → a ≤ b) ∧ Below w.heap.size w w2 ∧ a ≤ w2.heap.size) := ⟨_, _, _, t2, by simp, fun b e => by have : b = a := e; omega, b1.trans (b2.mono b1.size), by have := b2.size; omega⟩
  have HWA : Hid (w.heap.size ≤ a) := by show _ ≤ _; have := b1.size; omega
  clear b1 b2 t2 ha
  go_wp2_with fail
  go_loopw [19] (fun i wr => ∃ k : Nat, k ≤ t ∧ i = .int .i64 (k : Int) ∧ Hid (∃ F l P, Tb F wr a 0 l P ∧ l.length = min k 0 ∧ (∀ b, F b → a ≤ b) ∧ Below w.heap.size w wr ∧ a ≤ wr.heap.size)) (fun i _ => t - (intOf i).toNat)
  case atStart => exact ⟨0, by omega, rfl, HI⟩
  case round =>
    clear HI
    obtain ⟨k, hk, rfl, HH⟩ := hrel
    obtain ⟨F, l, P, hT, hl, hF, hB, hA⟩ := HH.out
    have HL := Lib.hid hl
    have HT := Lib.hid hT
    have HF := Lib.hid hF
    have HB := Lib.hid hB
    clear hT hl hF hB HH
    by_cases hlt : k < t
    · have i1 : (k : Int) < (t : Int) := by omega
      have hkw : IntKind.i64.wrap ((k : Int) + 1) = (k : Int) + 1 := IntWalk.i64_in _ (by omega)
      have hne : (((k : Int) + 1) != ((k : Int) + 1)) = false := by simp
      by_cases hM : k < 0
      · exfalso; omega
      · have j1 : ¬ ((k : Int) < 0) := by omega
        have hL2 : l.length = 0 := by have := HL.out; omega
        go_wp2_with fail
        refine (make_no HT.out none none 0 0 0 0 ⟨[], [], 0, (k : Int), 0, 0⟩ (by right; right; omega)).mono ?_
        rintro e w3 ⟨rfl, b3⟩
        have HZ : Hid (∃ F l P, Tb F w3 a 0 l P ∧ l.length = min (k + 1) 0 ∧ (∀ b, F b → a ≤ b) ∧ Below w.heap.size w w3 ∧ a ≤ w3.heap.size) := ⟨F, _, P, HT.out.below b3, by omega, HF.out, HB.out.trans (b3.mono HB.out.size), Nat.le_trans hA b3.size⟩
        clear b3 hL2
        go_wp2
        go_roundw
        case rel => exact ⟨k + 1, by omega, by go_num, HZ⟩
        case measure => simp [intOf]; omega
    · have i1 : ¬ ((k : Int) < (t : Int)) := by omega
      obtain rfl : k = t := by omega
      by_cases hM : k < 0
      · exfalso; omega
      · have hL2 : l.length = 0 := by have := HL.out; omega
        have j1 : ¬ ((k : Int) < 0) := by omega
        go_wp2_with fail
        refine (len_walk HT.out).mono ?_
        rintro e w3 ⟨rfl, rfl⟩
        rw [hL2]
        clear hL2
        go_wp2
        all_goals go_ret
        all_goals exact ⟨by first | rfl | (apply ret_bool; simp; done) | (apply ret_bool; simp; omega), HB.out⟩

set_option maxHeartbeats 4000000 in
theorem recordFull_hi (m : Int) (t : Nat) (w : World) (ht : t < 256) (hm : 65536 < m) :
    Calls Try.prog 5 #[.int .i64 m, .int .u8 (t : Int)] w fun e w' => e = .returned (.bool true) ∧ Below w.heap.size w w' := by
  have HMO : Hid (mostOf m = 65536 ∧ 65536 ≤ 65536) := ⟨by unfold mostOf; omega, by omega⟩
  have f1 : ¬ (m < 0) := by omega
  have f2 : ¬ ((0 : Int) > m) := by omega
  have hcv : IntKind.i64.wrap (t : Int) = (t : Int) := IntWalk.i64_in _ (by omega)
  go_enter Try.func5, Try.ntmps5
  go_wp2_with fail
  refine (awake_walk w).mono ?_
  rintro e w1 ⟨rfl, b1⟩
  go_wp2_with fail
  refine (new_walk m w1).mono ?_
  rintro e w2 ⟨rfl, t2, b2⟩
  rw [HMO.out.1] at t2
  obtain ⟨a, ha⟩ : ∃ a, w1.heap.size = a := ⟨_, rfl⟩
  rw [ha] at t2 ⊢
  have HI : Hid (∃ F l P, Tb F w2 a 65536 l P ∧ l.length = min 0 65536 ∧ (∀ b, F b → a ≤ b) ∧ Below w.heap.size w w2 ∧ a ≤ w2.heap.size) := ⟨_, _, _, t2, by simp, fun b e => by have : b = a := e; omega, b1.trans (b2.mono b1.size), by have := b2.size; omega⟩
  have HWA : Hid (w.heap.size ≤ a) := by show _ ≤ _; have := b1.size; omega
  clear b1 b2 t2 ha
  go_wp2_with fail
  go_loopw [19] (fun i wr => ∃ k : Nat, k ≤ t ∧ i = .int .i64 (k : Int) ∧ Hid (∃ F l P, Tb F wr a 65536 l P ∧ l.length = min k 65536 ∧ (∀ b, F b → a ≤ b) ∧ Below w.heap.size w wr ∧ a ≤ wr.heap.size)) (fun i _ => t - (intOf i).toNat)
  case atStart => exact ⟨0, by omega, rfl, HI⟩
  case round =>
    clear HI
    obtain ⟨k, hk, rfl, HH⟩ := hrel
    obtain ⟨F, l, P, hT, hl, hF, hB, hA⟩ := HH.out
    have HL := Lib.hid hl
    have HT := Lib.hid hT
    have HF := Lib.hid hF
    have HB := Lib.hid hB
    clear hT hl hF hB HH
    by_cases hlt : k < t
    · have i1 : (k : Int) < (t : Int) := by omega
      have hkw : IntKind.i64.wrap ((k : Int) + 1) = (k : Int) + 1 := IntWalk.i64_in _ (by omega)
      have hne : (((k : Int) + 1) != ((k : Int) + 1)) = false := by simp
      by_cases hM : k < 65536
      · have j1 : (k : Int) < 65536 := by omega
        have hL2 : l.length = k := by have := HL.out; omega
        go_wp2_with fail
        refine (make_yes HT.out none none 0 0 0 ⟨[], [], 0, (k : Int), 0, 0⟩ (Sl.nil _) (Sl.nil _) (by show (0 : Int) ≤ 0; omega) (by omega) HMO.out.2 (by omega)).mono ?_
        rintro e w3 ⟨rfl, h3⟩
        rw [hL2]
        obtain ⟨F3, P3, u3, v3, t3, b3, f3⟩ := h3.below (B := a) HF.out hA
        have HZ : Hid (∃ F l P, Tb F w3 a 65536 l P ∧ l.length = min (k + 1) 65536 ∧ (∀ b, F b → a ≤ b) ∧ Below w.heap.size w w3 ∧ a ≤ w3.heap.size) := ⟨F3, _, P3, t3, by rw [List.length_append, hL2]; simp; omega, f3, HB.out.trans (b3.mono HWA.out), Nat.le_trans hA b3.size⟩
        clear h3 t3 b3 f3 hL2
        go_wp2
        go_roundw
        case rel => exact ⟨k + 1, by omega, by go_num, HZ⟩
        case measure => simp [intOf]; omega
      · exfalso; omega
    · have i1 : ¬ ((k : Int) < (t : Int)) := by omega
      obtain rfl : k = t := by omega
      by_cases hM : k < 65536
      · have hL2 : l.length = k := by have := HL.out; omega
        have j1 : (k : Int) < 65536 := by omega
        have j2 : ¬ (65536 < (k : Int)) := by omega
        have j3 : (65536 : Int) ≥ (k : Int) := by omega
        go_wp2_with fail
        refine (len_walk HT.out).mono ?_
        rintro e w3 ⟨rfl, rfl⟩
        rw [hL2]
        clear hL2
        go_wp2
        all_goals go_ret
        all_goals exact ⟨by first | rfl | (apply ret_bool; simp; done) | (apply ret_bool; simp; omega), HB.out⟩
      · exfalso; omega

set_option maxHeartbeats 4000000 in
theorem recordFull_mid (M : Nat) (t : Nat) (w : World) (ht : t < 256) (hm : M ≤ 65536) :
    Calls Try.prog 5 #[.int .i64 (M : Int), .int .u8 (t : Int)] w fun e w' => e = .returned (.bool true) ∧ Below w.heap.size w w' := by
  have HMO : Hid (mostOf (M : Int) = M ∧ M ≤ 65536) := ⟨by unfold mostOf; omega, by omega⟩
  have f1 : ¬ ((M : Int) < 0) := by omega
  have f2 : ¬ ((65536 : Int) < (M : Int)) := by omega
  have hcv : IntKind.i64.wrap (t : Int) = (t : Int) := IntWalk.i64_in _ (by omega)
  go_enter Try.func5, Try.ntmps5
  go_wp2_with fail
  refine (awake_walk w).mono ?_
  rintro e w1 ⟨rfl, b1⟩
  go_wp2_with fail
  refine (new_walk (M : Int) w1).mono ?_
  rintro e w2 ⟨rfl, t2, b2⟩
  rw [HMO.out.1] at t2
  obtain ⟨a, ha⟩ : ∃ a, w1.heap.size = a := ⟨_, rfl⟩
  rw [ha] at t2 ⊢
  have HI : Hid (∃ F l P, Tb F w2 a M l P ∧ l.length = min 0 M ∧ (∀ b, F b → a ≤ b) ∧ Below w.heap.size w w2 ∧ a ≤ w2.heap.size) := ⟨_, _, _, t2, by simp, fun b e => by have : b = a := e; omega, b1.trans (b2.mono b1.size), by have := b2.size; omega⟩
  have HWA : Hid (w.heap.size ≤ a) := by show _ ≤ _; have := b1.size; omega
  clear b1 b2 t2 ha
  go_wp2_with fail
  go_loopw [19] (fun i wr => ∃ k : Nat, k ≤ t ∧ i = .int .i64 (k : Int) ∧ Hid (∃ F l P, Tb F wr a M l P ∧ l.length = min k M ∧ (∀ b, F b → a ≤ b) ∧ Below w.heap.size w wr ∧ a ≤ wr.heap.size)) (fun i _ => t - (intOf i).toNat)
  case atStart => exact ⟨0, by omega, rfl, HI⟩
  case round =>
    clear HI
    obtain ⟨k, hk, rfl, HH⟩ := hrel
    obtain ⟨F, l, P, hT, hl, hF, hB, hA⟩ := HH.out
    have HL := Lib.hid hl
    have HT := Lib.hid hT
    have HF := Lib.hid hF
    have HB := Lib.hid hB
    clear hT hl hF hB HH
    by_cases hlt : k < t
    · have i1 : (k : Int) < (t : Int) := by omega
      have hkw : IntKind.i64.wrap ((k : Int) + 1) = (k : Int) + 1 := IntWalk.i64_in _ (by omega)
      have hne : (((k : Int) + 1) != ((k : Int) + 1)) = false := by simp
      by_cases hM : k < M
      · have j1 : (k : Int) < (M : Int) := by omega
        have hL2 : l.length = k := by have := HL.out; omega
        go_wp2_with fail
        refine (make_yes HT.out none none 0 0 0 ⟨[], [], 0, (k : Int), 0, 0⟩ (Sl.nil _) (Sl.nil _) (by show (0 : Int) ≤ 0; omega) (by omega) HMO.out.2 (by omega)).mono ?_
        rintro e w3 ⟨rfl, h3⟩
        rw [hL2]
        obtain ⟨F3, P3, u3, v3, t3, b3, f3⟩ := h3.below (B := a) HF.out hA
        have HZ : Hid (∃ F l P, Tb F w3 a M l P ∧ l.length = min (k + 1) M ∧ (∀ b, F b → a ≤ b) ∧ Below w.heap.size w w3 ∧ a ≤ w3.heap.size) := ⟨F3, _, P3, t3, by rw [List.length_append, hL2]; simp; omega, f3, HB.out.trans (b3.mono HWA.out), Nat.le_trans hA b3.size⟩
        clear h3 t3 b3 f3 hL2
        go_wp2
        go_roundw
        case rel => exact ⟨k + 1, by omega, by go_num, HZ⟩
        case measure => simp [intOf]; omega
      · have j1 : ¬ ((k : Int) < (M : Int)) := by omega
        have hL2 : l.length = M := by have := HL.out; omega
        go_wp2_with fail
        refine (make_no HT.out none none 0 0 0 0 ⟨[], [], 0, (k : Int), 0, 0⟩ (by right; right; omega)).mono ?_
        rintro e w3 ⟨rfl, b3⟩
        have HZ : Hid (∃ F l P, Tb F w3 a M l P ∧ l.length = min (k + 1) M ∧ (∀ b, F b → a ≤ b) ∧ Below w.heap.size w w3 ∧ a ≤ w3.heap.size) := ⟨F, _, P, HT.out.below b3, by omega, HF.out, HB.out.trans (b3.mono HB.out.size), Nat.le_trans hA b3.size⟩
        clear b3 hL2
        go_wp2
        go_roundw
        case rel => exact ⟨k + 1, by omega, by go_num, HZ⟩
        case measure => simp [intOf]; omega
    · have i1 : ¬ ((k : Int) < (t : Int)) := by omega
      obtain rfl : k = t := by omega
      by_cases hM : k < M
      · have hL2 : l.length = k := by have := HL.out; omega
        have j1 : (k : Int) < (M : Int) := by omega
        have j2 : ¬ ((M : Int) < (k : Int)) := by omega
        have j3 : ((M : Int) : Int) ≥ (k : Int) := by omega
        go_wp2_with fail
        refine (len_walk HT.out).mono ?_
        rintro e w3 ⟨rfl, rfl⟩
        rw [hL2]
        clear hL2
        go_wp2
        all_goals go_ret
        all_goals exact ⟨by first | rfl | (apply ret_bool; simp; done) | (apply ret_bool; simp; omega), HB.out⟩
      · have hL2 : l.length = M := by have := HL.out; omega
        have j1 : ¬ ((k : Int) < (M : Int)) := by omega
        go_wp2_with fail
        refine (len_walk HT.out).mono ?_
        rintro e w3 ⟨rfl, rfl⟩
        rw [hL2]
        clear hL2
        go_wp2
        all_goals go_ret
        all_goals exact ⟨by first | rfl | (apply ret_bool; simp; done) | (apply ret_bool; simp; omega), HB.out⟩

theorem recordFull_walk (m : Int) (t : Nat) (w : World) (ht : t < 256) :
    Calls Try.prog 5 #[.int .i64 m, .int .u8 (t : Int)] w fun e w' => e = .returned (.bool true) ∧ Below w.heap.size w w' := by
  by_cases h0 : m < 0
  · exact recordFull_lo m t w ht h0
  · by_cases h1 : 65536 < m
    · exact recordFull_hi m t w ht h1
    · obtain ⟨M, rfl⟩ : ∃ M : Nat, m = (M : Int) := ⟨m.toNat, by omega⟩
      exact recordFull_mid M t w ht (by omega)
end Go.Proofs.Ytokheagoddmmiaa
