/-
  The laws ArenaFull and ArenaSwaps.
-/
import Derived.Test.YtbalhjfkkigchaaLawA
namespace Go.Proofs.Ytbalhjfkkigchaa
open Go.ChangeShapes Go.WideShapes Go.ChangeAt Go.RowKit
set_option linter.unusedVariables false
set_option linter.unusedSimpArgs false
set_option maxRecDepth 20000

/-- An arena at a that lies above block B. -/
def High (B : Nat) (w : World) (a : Nat) (S : As) : Prop := ∃ F, Arn false F w a S ∧ ∀ b, F b → B ≤ b
theorem High.lt {B : Nat} {w : World} {a : Nat} {S : As} (h : High B w a S) : ∃ F, Arn false F w a S ∧ (∀ b, F b → B ≤ b) ∧ ∀ b, F b → b < w.heap.size := by
  obtain ⟨F, h1, h2⟩ := h
  exact ⟨F, h1, h2, h1.lt⟩
theorem High.below {B : Nat} {w w' : World} {a : Nat} {S : As} (h : High B w a S) (hb : Below w.heap.size w w') : High B w' a S := by
  obtain ⟨F, h1, h2⟩ := h
  exact ⟨F, h1.below hb, h2⟩
theorem Nx.high {F : Nat → Prop} {w w' : World} {a : Nat} {S : As} {B : Nat} (h : Nx false F w a S w') (hF : ∀ b, F b → B ≤ b) (hB : B ≤ w.heap.size) : High B w' a S ∧ Below B w w' := by
  obtain ⟨F', h1, h2, h3⟩ := h.low hF hB
  exact ⟨⟨F', h1, h2⟩, h3⟩

/-- n places, each used once, with nothing in it. -/
def fullS (M n : Nat) : As := ⟨M, List.replicate n (Pa.one 1 Nd.nil), [], 0⟩
theorem fullS_ok (M n : Nat) (hn : n ≤ 70000) : Ok (fullS M n) := ⟨by simpa [fullS] using hn, fun p hp => by have := List.eq_of_mem_replicate hp; subst this; simp [Pa.one], by simp [fullS], by simp [fullS]⟩
theorem fullS_next (M n : Nat) : (fullS M n).next.1 = n ∧ ∃ pa, (fullS M n).next.2.pls[(fullS M n).next.1]? = some pa ∧ pa.cnt = 0 := by
  refine ⟨by simp [fullS, As.next], Pa.nil, ?_, rfl⟩
  simp [fullS, As.next]
theorem fullS_alloc (M n : Nat) : (fullS M n).alloc 1 Nd.nil = fullS M (n + 1) := by
  simp only [fullS, As.alloc, As.next, List.length_replicate]
  congr 1
  rw [List.set_append_right _ _ (by simp)]
  simp [List.replicate_succ', Pa.one]
theorem mk_pos (i c : Int) (h : 0 < c) (h2 : c < 8388608) : mk i c ≠ 0 := by unfold mk; omega

set_option maxHeartbeats 2000000 in
theorem arenaFull_lo (m : Int) (t : Nat) (w : World) (ht : t < 256) (hm : m < 0) :
    Calls Try.prog 5 #[.int .i64 m, .int .u8 (t : Int)] w fun e w' => e = .returned (.bool true) ∧ Below w.heap.size w w' := by
  have hM : mostOf m = 0 := by unfold mostOf; omega
  have HM := Lib.hid hM
  clear hM
  go_enter Try.func5, Try.ntmps5
  go_wp2_with fail
  refine (awake_walk _).mono ?_
  rintro e w1 ⟨rfl, hb1⟩
  go_wp2_with fail
  refine (new_walk m w1).mono ?_
  rintro e w2 ⟨rfl, h2, b2⟩
  rw [HM.out] at h2
  have H2 : Hid (High w.heap.size w2 w1.heap.size (fullS 0 0)) := ⟨_, h2, fun b e => by have := hb1.size; omega⟩
  have hb2 := hb1.trans (b2.mono hb1.size)
  clear h2 b2
  generalize w1.heap.size = a at *
  go_wp2_with fail
  go_loopw [7, 18] (fun u i wr => ∃ n k : Nat, k ≤ t ∧ n ≤ 0 ∧ n ≤ k ∧ u = .int .i64 (n : Int) ∧ i = .int .u8 (k : Int) ∧ Hid (High w.heap.size wr a (fullS 0 n)) ∧ Below w.heap.size w wr) (fun _ i _ => t - (intOf i).toNat)
  case atStart => exact ⟨0, 0, Nat.zero_le _, Nat.zero_le _, Nat.le_refl _, rfl, rfl, H2, hb2⟩
  case round =>
    clear H2 hb2
    obtain ⟨n, k, hk, hn, hnk, rfl, rfl, H, hb⟩ := hrel
    obtain ⟨F, hA, hF, hl⟩ := H.out.lt
    have HA := Lib.hid hA
    clear hA
    by_cases hlt : k < t
    · have hk2 : IntKind.u8.wrap ((k : Int) + 1) = (k : Int) + 1 := by simp only [IntKind.wrap_u8]; omega
      have hk3 : (k : Int) < (t : Int) := by omega
      by_cases hroom : n < 0
      · have hr2 : (n : Int) < 0 := by omega
        have hr3 : IntKind.i64.wrap ((n : Int) + 1) = (n : Int) + 1 := IntWalk.i64_in _ (by omega)
        obtain ⟨hnx, hpa⟩ := fullS_next 0 n
        have HNX := Lib.hid hnx
        have HPA := Lib.hid hpa
        clear hnx hpa
        go_wp2_with fail
        refine (alloc_yes (lo := wr.heap.size) HA.out (fullS_ok _ _ (by omega)) (by simp [fullS]; omega) 0 HPA.out (by omega) (RdN.nil _ _ false false) hl (small_nil _ _)).mono ?_
        rintro e w3 ⟨rfl, h3⟩
        obtain ⟨h3, b3⟩ := h3.high hF hb.size
        rw [HNX.out]
        have h3' : High w.heap.size w3 a (fullS 0 (n + 1)) := by rw [← fullS_alloc]; exact h3
        have H3 := Lib.hid h3'
        have hz : (mk (n : Int) ((0 + 1 : Nat) : Int) == 0) = false := by simpa using mk_pos n 1 (by omega) (by omega)
        generalize mk (n : Int) ((0 + 1 : Nat) : Int) = rr at *
        have hb3 := hb.trans b3
        clear h3 h3' b3 HA
        go_wp2
        go_roundw
        case rel => exact ⟨n + 1, k + 1, by omega, by omega, by omega, by go_num, by go_num, H3, hb3⟩
        case measure => simp [intOf]; omega
      · have hr2 : ¬ ((n : Int) < 0) := by omega
        have HN := Lib.hid hn
        have HR := Lib.hid hroom
        clear hn hroom
        go_wp2_with fail
        have hn := HN.out
        have hroom := HR.out
        refine (alloc_not (lo := wr.heap.size) HA.out (fullS_ok _ _ (by omega)) (by first | (simp [fullS]; done) | (simp [fullS]; omega)) (RdN.nil _ _ false false)).mono ?_
        rintro e w3 ⟨rfl, b3⟩
        have H3 : Hid (High w.heap.size w3 a (fullS 0 n)) := H.out.below b3
        have hb3 := hb.trans (b3.mono hb.size)
        clear b3 HA hn hroom
        go_wp2
        go_roundw
        case rel => exact ⟨n, k + 1, by omega, HN.out, by omega, by go_num, by go_num, H3, hb3⟩
        case measure => simp [intOf]; omega
    · have hk3 : ¬ ((k : Int) < (t : Int)) := by omega
      obtain ⟨l, P, Q, hAr⟩ := HA.out
      have HAr := Lib.hid hAr
      clear hAr HA
      go_wp2_with fail
      refine (most_walk HAr.out).mono ?_
      rintro e w3 ⟨rfl, rfl⟩
      rw [show ((fullS 0 n).most : Int) = 0 from by simp [fullS]]
      go_wp2_with fail
      refine (used_walk HAr.out (by first | (simp [fullS]; done) | (simp [fullS]; omega)) (by simp [fullS])).mono ?_
      rintro e w3 ⟨rfl, b3⟩
      rw [show (((fullS 0 n).pls.length : Nat) : Int) - (((fullS 0 n).fr.length : Nat) : Int) = (n : Int) from by simp [fullS]]
      have HAr3 := Lib.hid (HAr.out.below b3)
      go_wp2_with fail
      refine (faults_walk HAr3.out).mono ?_
      rintro e w4 ⟨rfl, rfl⟩
      rw [show ((fullS 0 n).flt : Int) = 0 from rfl]
      go_wp2
      go_ret
      exact ⟨rfl, hb.trans (b3.mono hb.size)⟩

set_option maxHeartbeats 2000000 in
theorem arenaFull_hi (m : Int) (t : Nat) (w : World) (ht : t < 256) (hm : 65536 < m) :
    Calls Try.prog 5 #[.int .i64 m, .int .u8 (t : Int)] w fun e w' => e = .returned (.bool true) ∧ Below w.heap.size w w' := by
  have hM : mostOf m = 65536 := by unfold mostOf; omega
  have HM := Lib.hid hM
  clear hM
  have hm2 : ¬ (m < 0) := by omega
  go_enter Try.func5, Try.ntmps5
  go_wp2_with fail
  refine (awake_walk _).mono ?_
  rintro e w1 ⟨rfl, hb1⟩
  go_wp2_with fail
  refine (new_walk m w1).mono ?_
  rintro e w2 ⟨rfl, h2, b2⟩
  rw [HM.out] at h2
  have H2 : Hid (High w.heap.size w2 w1.heap.size (fullS 65536 0)) := ⟨_, h2, fun b e => by have := hb1.size; omega⟩
  have hb2 := hb1.trans (b2.mono hb1.size)
  clear h2 b2
  generalize w1.heap.size = a at *
  go_wp2_with fail
  go_loopw [7, 18] (fun u i wr => ∃ n k : Nat, k ≤ t ∧ n ≤ 65536 ∧ n ≤ k ∧ u = .int .i64 (n : Int) ∧ i = .int .u8 (k : Int) ∧ Hid (High w.heap.size wr a (fullS 65536 n)) ∧ Below w.heap.size w wr) (fun _ i _ => t - (intOf i).toNat)
  case atStart => exact ⟨0, 0, Nat.zero_le _, Nat.zero_le _, Nat.le_refl _, rfl, rfl, H2, hb2⟩
  case round =>
    clear H2 hb2
    obtain ⟨n, k, hk, hn, hnk, rfl, rfl, H, hb⟩ := hrel
    obtain ⟨F, hA, hF, hl⟩ := H.out.lt
    have HA := Lib.hid hA
    clear hA
    by_cases hlt : k < t
    · have hk2 : IntKind.u8.wrap ((k : Int) + 1) = (k : Int) + 1 := by simp only [IntKind.wrap_u8]; omega
      have hk3 : (k : Int) < (t : Int) := by omega
      by_cases hroom : n < 65536
      · have hr2 : (n : Int) < 65536 := by omega
        have hr3 : IntKind.i64.wrap ((n : Int) + 1) = (n : Int) + 1 := IntWalk.i64_in _ (by omega)
        obtain ⟨hnx, hpa⟩ := fullS_next 65536 n
        have HNX := Lib.hid hnx
        have HPA := Lib.hid hpa
        clear hnx hpa
        go_wp2_with fail
        refine (alloc_yes (lo := wr.heap.size) HA.out (fullS_ok _ _ (by omega)) (by simp [fullS]; omega) 0 HPA.out (by omega) (RdN.nil _ _ false false) hl (small_nil _ _)).mono ?_
        rintro e w3 ⟨rfl, h3⟩
        obtain ⟨h3, b3⟩ := h3.high hF hb.size
        rw [HNX.out]
        have h3' : High w.heap.size w3 a (fullS 65536 (n + 1)) := by rw [← fullS_alloc]; exact h3
        have H3 := Lib.hid h3'
        have hz : (mk (n : Int) ((0 + 1 : Nat) : Int) == 0) = false := by simpa using mk_pos n 1 (by omega) (by omega)
        generalize mk (n : Int) ((0 + 1 : Nat) : Int) = rr at *
        have hb3 := hb.trans b3
        clear h3 h3' b3 HA
        go_wp2
        go_roundw
        case rel => exact ⟨n + 1, k + 1, by omega, by omega, by omega, by go_num, by go_num, H3, hb3⟩
        case measure => simp [intOf]; omega
      · exact absurd hroom (by omega)
    · have hk3 : ¬ ((k : Int) < (t : Int)) := by omega
      obtain ⟨l, P, Q, hAr⟩ := HA.out
      have HAr := Lib.hid hAr
      clear hAr HA
      go_wp2_with fail
      refine (most_walk HAr.out).mono ?_
      rintro e w3 ⟨rfl, rfl⟩
      rw [show ((fullS 65536 n).most : Int) = 65536 from by simp [fullS]]
      go_wp2_with fail
      refine (used_walk HAr.out (by first | (simp [fullS]; done) | (simp [fullS]; omega)) (by simp [fullS])).mono ?_
      rintro e w3 ⟨rfl, b3⟩
      rw [show (((fullS 65536 n).pls.length : Nat) : Int) - (((fullS 65536 n).fr.length : Nat) : Int) = (n : Int) from by simp [fullS]]
      have HAr3 := Lib.hid (HAr.out.below b3)
      go_wp2_with fail
      refine (faults_walk HAr3.out).mono ?_
      rintro e w4 ⟨rfl, rfl⟩
      rw [show ((fullS 65536 n).flt : Int) = 0 from rfl]
      go_wp2
      go_ret
      exact ⟨rfl, hb.trans (b3.mono hb.size)⟩

set_option maxHeartbeats 2000000 in
theorem arenaFull_mid (M : Nat) (t : Nat) (w : World) (ht : t < 256) (hM0 : M ≤ 65536) :
    Calls Try.prog 5 #[.int .i64 (M : Int), .int .u8 (t : Int)] w fun e w' => e = .returned (.bool true) ∧ Below w.heap.size w w' := by
  have hM : mostOf (M : Int) = M := by unfold mostOf; omega
  have HM := Lib.hid hM
  clear hM
  have hm2 : ¬ ((M : Int) < 0) := by omega
  have hm3 : ¬ ((65536 : Int) < (M : Int)) := by omega
  go_enter Try.func5, Try.ntmps5
  go_wp2_with fail
  refine (awake_walk _).mono ?_
  rintro e w1 ⟨rfl, hb1⟩
  go_wp2_with fail
  refine (new_walk (M : Int) w1).mono ?_
  rintro e w2 ⟨rfl, h2, b2⟩
  rw [HM.out] at h2
  have H2 : Hid (High w.heap.size w2 w1.heap.size (fullS M 0)) := ⟨_, h2, fun b e => by have := hb1.size; omega⟩
  have hb2 := hb1.trans (b2.mono hb1.size)
  clear h2 b2
  generalize w1.heap.size = a at *
  go_wp2_with fail
  go_loopw [7, 18] (fun u i wr => ∃ n k : Nat, k ≤ t ∧ n ≤ M ∧ n ≤ k ∧ u = .int .i64 (n : Int) ∧ i = .int .u8 (k : Int) ∧ Hid (High w.heap.size wr a (fullS M n)) ∧ Below w.heap.size w wr) (fun _ i _ => t - (intOf i).toNat)
  case atStart => exact ⟨0, 0, Nat.zero_le _, Nat.zero_le _, Nat.le_refl _, rfl, rfl, H2, hb2⟩
  case round =>
    clear H2 hb2
    obtain ⟨n, k, hk, hn, hnk, rfl, rfl, H, hb⟩ := hrel
    obtain ⟨F, hA, hF, hl⟩ := H.out.lt
    have HA := Lib.hid hA
    clear hA
    by_cases hlt : k < t
    · have hk2 : IntKind.u8.wrap ((k : Int) + 1) = (k : Int) + 1 := by simp only [IntKind.wrap_u8]; omega
      have hk3 : (k : Int) < (t : Int) := by omega
      by_cases hroom : n < M
      · have hr2 : (n : Int) < (M : Int) := by omega
        have hr3 : IntKind.i64.wrap ((n : Int) + 1) = (n : Int) + 1 := IntWalk.i64_in _ (by omega)
        obtain ⟨hnx, hpa⟩ := fullS_next M n
        have HNX := Lib.hid hnx
        have HPA := Lib.hid hpa
        clear hnx hpa
        go_wp2_with fail
        refine (alloc_yes (lo := wr.heap.size) HA.out (fullS_ok _ _ (by omega)) (by simp [fullS]; omega) 0 HPA.out (by omega) (RdN.nil _ _ false false) hl (small_nil _ _)).mono ?_
        rintro e w3 ⟨rfl, h3⟩
        obtain ⟨h3, b3⟩ := h3.high hF hb.size
        rw [HNX.out]
        have h3' : High w.heap.size w3 a (fullS M (n + 1)) := by rw [← fullS_alloc]; exact h3
        have H3 := Lib.hid h3'
        have hz : (mk (n : Int) ((0 + 1 : Nat) : Int) == 0) = false := by simpa using mk_pos n 1 (by omega) (by omega)
        generalize mk (n : Int) ((0 + 1 : Nat) : Int) = rr at *
        have hb3 := hb.trans b3
        clear h3 h3' b3 HA
        go_wp2
        go_roundw
        case rel => exact ⟨n + 1, k + 1, by omega, by omega, by omega, by go_num, by go_num, H3, hb3⟩
        case measure => simp [intOf]; omega
      · have hr2 : ¬ ((n : Int) < (M : Int)) := by omega
        have HN := Lib.hid hn
        have HR := Lib.hid hroom
        clear hn hroom
        go_wp2_with fail
        have hn := HN.out
        have hroom := HR.out
        refine (alloc_not (lo := wr.heap.size) HA.out (fullS_ok _ _ (by omega)) (by first | (simp [fullS]; done) | (simp [fullS]; omega)) (RdN.nil _ _ false false)).mono ?_
        rintro e w3 ⟨rfl, b3⟩
        have H3 : Hid (High w.heap.size w3 a (fullS M n)) := H.out.below b3
        have hb3 := hb.trans (b3.mono hb.size)
        clear b3 HA hn hroom
        go_wp2
        go_roundw
        case rel => exact ⟨n, k + 1, by omega, HN.out, by omega, by go_num, by go_num, H3, hb3⟩
        case measure => simp [intOf]; omega
    · have hk3 : ¬ ((k : Int) < (t : Int)) := by omega
      obtain ⟨l, P, Q, hAr⟩ := HA.out
      have HAr := Lib.hid hAr
      clear hAr HA
      go_wp2_with fail
      refine (most_walk HAr.out).mono ?_
      rintro e w3 ⟨rfl, rfl⟩
      rw [show ((fullS M n).most : Int) = (M : Int) from by simp [fullS]]
      go_wp2_with fail
      refine (used_walk HAr.out (by first | (simp [fullS]; done) | (simp [fullS]; omega)) (by simp [fullS])).mono ?_
      rintro e w3 ⟨rfl, b3⟩
      rw [show (((fullS M n).pls.length : Nat) : Int) - (((fullS M n).fr.length : Nat) : Int) = (n : Int) from by simp [fullS]]
      have HAr3 := Lib.hid (HAr.out.below b3)
      go_wp2_with fail
      refine (faults_walk HAr3.out).mono ?_
      rintro e w4 ⟨rfl, rfl⟩
      rw [show ((fullS M n).flt : Int) = 0 from rfl]
      go_wp2
      go_ret
      exact ⟨rfl, hb.trans (b3.mono hb.size)⟩

theorem arenaFull_walk (m : Int) (t : Nat) (w : World) (ht : t < 256) :
    Calls Try.prog 5 #[.int .i64 m, .int .u8 (t : Int)] w fun e w' => e = .returned (.bool true) ∧ Below w.heap.size w w' := by
  by_cases h0 : m < 0
  · exact arenaFull_lo m t w ht h0
  · by_cases h1 : 65536 < m
    · exact arenaFull_hi m t w ht h1
    · obtain ⟨M, rfl⟩ : ∃ M : Nat, m = (M : Int) := ⟨m.toNat, by omega⟩
      exact arenaFull_mid M t w ht (by omega)
end Go.Proofs.Ytbalhjfkkigchaa
