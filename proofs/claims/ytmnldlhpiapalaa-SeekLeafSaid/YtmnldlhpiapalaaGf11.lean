/-
  A key among pairs whose keys rise: Find and Get.
-/
import Derived.Test.YtmnldlhpiapalaaRs11
import Derived.StillTailTactics
namespace Go.Proofs.Ytmnldlhpiapalaa
open Go.ChangeShapes Go.WideShapes Go.ChangeAt Go.RowKit
set_option linter.unusedVariables false
set_option linter.unusedSimpArgs false
set_option maxRecDepth 20000

theorem findL_drop {l : List (Int × Int)} {k : Nat} (hk : k < l.length) (x : Int) : findL (l.drop k) x k = if l[k].1 = x then (k : Int) else findL (l.drop (k + 1)) x (k + 1) := by
  rw [List.drop_eq_getElem_cons hk]; rfl

set_option maxHeartbeats 400000 in
theorem find_walk (A : Option Addr) (n c : Nat) (l : List (Int × Int)) (x : Int) (w : World) (h : Lf w A n l) (hn : n ≤ 100000) :
    Calls Try.prog 46 #[.slice A n c, .int .i64 x] w fun e w' => e = .returned (.int .i64 (findL l x 0)) ∧ Below w.heap.size w w' := by
  go_enter Try.func46, Try.ntmps46
  go_wp2
  go_loopw [9] (fun i wr => ∃ k : Nat, k ≤ n ∧ i = .int .i64 k ∧ findL l x 0 = findL (l.drop k) x k ∧ Below w.heap.size w wr) (fun i _ => n - (intOf i).toNat)
  case atStart => exact ⟨0, Nat.zero_le _, rfl, rfl, Below.refl _ _⟩
  case round =>
    obtain ⟨k, hk, rfl, hf, hb⟩ := hrel
    have HF := Lib.hid hf
    clear hf
    by_cases hlt : k < n
    · have hll : k < l.length := by rw [← h.len]; exact hlt
      obtain ⟨b, off, rfl, hbl, c1, c2⟩ := h.at_ hll
      have d1 := (hb.cell (p := ⟨b, off + k * 2, none⟩) hbl).trans c1
      have d2 := (hb.cell (p := ⟨b, off + k * 2 + 1, none⟩) hbl).trans c2
      have hbl' : b < wr.heap.size := by have := hb.size; omega
      have HS := Lib.hid (findL_drop hll x)
      go_wp2
      · go_ret
        refine ⟨ret_int ?_, hb.alloc hb.size _⟩
        rw [HF.out, HS.out, if_pos (by simpa using ‹(l[k].fst == x) = true›)]
      · go_roundw
        case rel => exact ⟨k + 1, by omega, by go_num, by rw [HF.out, HS.out, if_neg (by simpa using ‹(l[k].fst == x) = false›)], hb.alloc hb.size _⟩
        case measure => simp [intOf]; omega
    · go_wp2
      go_ret
      refine ⟨ret_int ?_, hb⟩
      rw [HF.out, List.drop_eq_nil_of_le (by have := h.len; omega)]
      rfl

theorem ret_bool' {a b : Bool} (h : a = b) : Ending.returned (.bool a) = .returned (.bool b) := by rw [h]

/-- 'l[i].Key >= k', as the closure asks it. -/
def geB (l : List (Int × Int)) (x : Int) (i : Nat) : Bool := decide (x ≤ (l.getD i (0, 0)).1)

set_option maxHeartbeats 400000 in
theorem place1_walk (A : Option Addr) (n c : Nat) (l : List (Int × Int)) (x : Int) (g1 g2 : Nat) (i : Nat) (w : World) (h : Lf w A n l) (hi : i < n) (hn : n ≤ 100000)
    (h1 : w.cell? ⟨g1, 0, none⟩ = some (.slice A n c)) (h2 : w.cell? ⟨g2, 0, none⟩ = some (.int .i64 x)) :
    Calls Try.prog 110 #[.int .i64 (i : Int), .pointer (some ⟨g1, 0, none⟩), .pointer (some ⟨g2, 0, none⟩)] w fun e w' => e = .returned (.bool (geB l x i)) ∧ ∃ q, w' = w.drewN q := by
  have hll : i < l.length := by rw [← h.len]; exact hi
  obtain ⟨b, off, rfl, hbl, c1, c2⟩ := h.at_ hll
  have hk0 : (0 : Int) ≤ (i : Int) := by omega
  have hk1 : (i : Int) < (n : Int) := by omega
  have HG : Hid (geB l x i = decide (x ≤ l[i].1)) := by show _ = _; unfold geB; rw [List.getD_eq_getElem?_getD, List.getElem?_eq_getElem hll]; rfl
  clear c2 h
  generalize l[i] = p at *
  go_enter Try.func110, Try.ntmps110
  go_wp2
  go_quiet (fail)
  go_wp2
  go_ret
  exact ⟨ret_bool' HG.out.symm, _, rfl⟩

theorem geB_lo {l : List (Int × Int)} (ha : Asc l) (x : Int) (i : Nat) (hi : i < l.length) : geB l x i = true ↔ lo l x ≤ i := by
  unfold geB
  rw [List.getD_eq_getElem?_getD, List.getElem?_eq_getElem hi, decide_eq_true_iff]
  have := lo_iff ha x i hi
  simp only [Option.getD_some]
  omega

set_option maxHeartbeats 1000000 in
theorem search_walk (A : Option Addr) (n c : Nat) (l : List (Int × Int)) (x : Int) (g1 g2 : Nat) (w : World) (h : Lf w A n l) (ha : Asc l) (hn : n ≤ 100000)
    (h1 : w.cell? ⟨g1, 0, none⟩ = some (.slice A n c)) (h2 : w.cell? ⟨g2, 0, none⟩ = some (.int .i64 x)) :
    Calls Try.prog 109 #[.int .i64 (n : Int), .func (.func 110) #[] #[.pointer (some ⟨g1, 0, none⟩), .pointer (some ⟨g2, 0, none⟩)]] w fun e w' => e = .returned (.int .i64 (lo l x : Nat)) ∧ ∃ q, w' = w.drewN q := by
  have hlo := lo_le l x
  have hL := h.len
  have HL := Lib.hid hL
  have hlon : lo l x ≤ n := by omega
  clear hL hlo
  go_enter Try.func109, Try.ntmps109
  go_wp2
  go_loopw [5, 6] (fun i j wr => ∃ a b q : Nat, a ≤ lo l x ∧ lo l x ≤ b ∧ b ≤ n ∧ i = .int .i64 (a : Int) ∧ j = .int .i64 (b : Int) ∧ wr = w.drewN q) (fun i j _ => (intOf j).toNat - (intOf i).toNat)
  case atStart => exact ⟨0, n, 0, Nat.zero_le _, hlon, Nat.le_refl _, rfl, rfl, rfl⟩
  case round =>
    obtain ⟨a, b, q, h3, h4, h5, rfl, rfl, rfl⟩ := hrel
    by_cases hlt : a < b
    · have hlt' : (a : Int) < (b : Int) := by omega
      have hg := geB_lo ha x ((a + b) / 2) (by have := HL.out; omega)
      have hd : (n : Int) ≤ 100000 := by omega
      go_wp2_with fail
      rw [show ((a : Int) + (b : Int)) / 2 = (((a + b) / 2 : Nat) : Int) from by omega]
      refine (place1_walk A n c l x g1 g2 ((a + b) / 2) (w.drewN q) (h.drewN q) (by omega) hn h1 h2).mono ?_
      rintro e w1 ⟨rfl, q', rfl⟩
      generalize geB l x ((a + b) / 2) = g at *
      have hm : (a + b) / 2 < b := by omega
      have hm' : a ≤ (a + b) / 2 := by omega
      generalize (a + b) / 2 = m at *
      cases g with
      | true =>
        have hm2 : lo l x ≤ m := hg.1 rfl
        clear hg
        go_wp2
        go_roundw
        case rel => exact ⟨a, m, q + q', h3, hm2, by omega, rfl, rfl, by simp⟩
        case measure => simp [intOf]; omega
      | false =>
        have hm2 : m < lo l x := by
          rcases Nat.lt_or_ge m (lo l x) with h' | h'
          · exact h'
          · exact absurd (hg.2 h') (by simp)
        clear hg
        go_wp2
        go_roundw
        case rel => exact ⟨m + 1, b, q + q', by omega, h4, h5, by go_num, rfl, by simp⟩
        case measure => simp [intOf]; omega
    · have hlt' : (b : Int) ≤ (a : Int) := by omega
      go_wp2
      go_ret
      exact ⟨ret_int (by omega), _, rfl⟩

theorem ret_two {a b : Int} {p q : Bool} (h : a = b) (k : p = q) : Ending.returned (.tuple #[.int .i64 a, .bool p]) = .returned (.tuple #[.int .i64 b, .bool q]) := by rw [h, k]

theorem has_at {l : List (Int × Int)} (x : Int) (h : lo l x < l.length) : hasL l x = (l[lo l x].1 == x) := by
  rw [Bool.eq_iff_iff, has_iff]
  simp [h]
theorem has_not {l : List (Int × Int)} (x : Int) (h : ¬ lo l x < l.length) : hasL l x = false := by
  rcases hh : hasL l x with _ | _
  · rfl
  · exact absurd ((has_iff x).1 hh).1 h

set_option maxHeartbeats 1000000 in
theorem lfPlace_walk (A : Option Addr) (n c : Nat) (l : List (Int × Int)) (x : Int) (w : World) (h : Lf w A n l) (ha : Asc l) (hn : n ≤ 100000) :
    Calls Try.prog 77 #[.slice A n c, .int .i64 x] w fun e w' => e = .returned (.tuple #[.int .i64 (lo l x : Nat), .bool (hasL l x)]) ∧ Below w.heap.size w w' := by
  go_enter Try.func77, Try.ntmps77
  go_wp2_with fail
  refine (search_walk A n c l x w.heap.size (w.heap.size + 1) _ ((h.alloc _).alloc _) ha hn (by simp) (by simp)).mono ?_
  rintro e w1 ⟨rfl, q, rfl⟩
  have hb : Below w.heap.size w ((w.alloc (.cells #[.slice A n c] 69)).alloc (.cells #[.int .i64 x] 2)) := ((Below.refl _ _).alloc (Nat.le_refl _) _).alloc (by simp) _
  by_cases hlt : lo l x < n
  · have hll : lo l x < l.length := by rw [← h.len]; exact hlt
    obtain ⟨b, off, rfl, hbl, c1, c2⟩ := h.at_ hll
    have HH := Lib.hid (has_at x hll)
    have hm0 : (0 : Int) ≤ (lo l x : Nat) := by omega
    have hm1 : ((lo l x : Nat) : Int) < (n : Int) := by omega
    clear c2 h ha
    generalize l[lo l x] = p at *
    generalize hm : lo l x = m at *
    have HM := Lib.hid hm
    clear hm
    go_wp2
    go_quiet (fail)
    go_wp2
    go_ret2
    exact ⟨ret_two (by rw [HM.out]) HH.out.symm, below_drewN (below_drewN hb _) _⟩
  · have HH := Lib.hid (has_not x (by rw [← h.len]; exact hlt))
    have hm1 : decide (((lo l x : Nat) : Int) < (n : Int)) = false := by simp; omega
    have hm2 : decide (lo l x < n) = false := by simp; omega
    clear h ha
    generalize hm : lo l x = m at *
    have HM := Lib.hid hm
    clear hm
    go_wp2
    go_quiet (fail)
    go_wp2
    go_ret2
    exact ⟨ret_two (by rw [HM.out]) HH.out.symm, below_drewN (below_drewN hb _) _⟩

set_option maxHeartbeats 1000000 in
theorem get_walk (A : Option Addr) (n c : Nat) (l : List (Int × Int)) (x : Int) (w : World) (h : Lf w A n l) (ha : Asc l) (hn : n ≤ 100000) :
    Calls Try.prog 45 #[.slice A n c, .int .i64 x] w fun e w' => e = .returned (.tuple #[.int .i64 (valL l x), .bool (hasL l x)]) ∧ Below w.heap.size w w' := by
  go_enter Try.func45, Try.ntmps45
  go_wp2_with fail
  refine (lfPlace_walk A n c l x w h ha hn).mono ?_
  rintro e w1 ⟨rfl, hb⟩
  cases hh : hasL l x with
  | false =>
    have HV := Lib.hid (val_none hh)
    have HH := Lib.hid hh
    clear hh
    go_wp2
    go_ret2
    exact ⟨ret_two HV.out.symm HH.out.symm, hb⟩
  | true =>
    obtain ⟨hl, hk, hv⟩ := val_at x hh
    obtain ⟨b, off, rfl, hbl, c1, c2⟩ := h.at_ hl
    have d2 := (hb.cell (p := ⟨b, off + lo l x * 2 + 1, none⟩) hbl).trans c2
    rw [hv] at d2
    have HH := Lib.hid hh
    have hm0 : (0 : Int) ≤ (lo l x : Nat) := by omega
    have hm1 : ((lo l x : Nat) : Int) < (n : Int) := by have := h.len; omega
    clear hh hk hv c1 c2 h hl
    generalize hm : lo l x = m at *
    clear hm
    generalize hvv : valL l x = v at *
    have HV := Lib.hid hvv
    clear hvv
    go_wp2
    go_ret2
    exact ⟨ret_two HV.out.symm HH.out.symm, hb⟩

theorem find_yes {l : List (Int × Int)} (ha : Asc l) {x : Int} (h : hasL l x = true) : findL l x 0 = ((lo l x : Nat) : Int) := by rw [findL_eq ha, if_pos h]; simp
theorem find_no {l : List (Int × Int)} (ha : Asc l) {x : Int} (h : hasL l x = false) : findL l x 0 = -1 := by rw [findL_eq ha, h]; rfl
end Go.Proofs.Ytmnldlhpiapalaa
