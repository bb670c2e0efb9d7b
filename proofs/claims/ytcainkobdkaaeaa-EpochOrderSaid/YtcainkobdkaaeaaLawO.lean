/-
  The law EpochOrder.
-/
import Derived.Test.YtcainkobdkaaeaaAw7
import Derived.Test.YtcainkobdkaaeaaSts7
namespace Go.Proofs.Ytcainkobdkaaeaa
open Go.ChangeShapes Go.WideShapes Go.ChangeAt Go.RowKit
set_option linter.unusedVariables false
set_option linter.unusedSimpArgs false
set_option maxRecDepth 20000

/-- The first k nodes, each with its epoch. -/
def oq (l : List Nat) (k : Nat) : List (Int × Int) := (List.range k).map fun (i : Nat) => ((i : Int) + 1, ((l.getD i 0 : Nat) : Int))
theorem oq_succ (l : List Nat) (k : Nat) : oq l (k + 1) = oq l k ++ [((k : Int) + 1, ((l.getD k 0 : Nat) : Int))] := by simp [oq, List.range_succ]
theorem oq_length (l : List Nat) (k : Nat) : (oq l k).length = k := by simp [oq]
theorem oq_pos {l : List Nat} {k j : Nat} : ∀ p ∈ (oq l k).drop j, -9223372036854775808 ≤ p.2 := by
  intro p hp
  have := List.mem_of_mem_drop hp
  unfold oq at this
  rw [List.mem_map] at this
  obtain ⟨i, _, rfl⟩ := this
  simp only
  omega
theorem oq_drop {l : List Nat} {n j : Nat} (h : j < n) : (oq l n).drop j = ((j : Int) + 1, ((l.getD j 0 : Nat) : Int)) :: (oq l n).drop (j + 1) := by
  rw [List.drop_eq_getElem_cons (by rw [oq_length]; exact h)]
  congr 1
  simp [oq]
theorem few1 (q : List (Int × Int)) (h : q.length ≤ 1000) : Few [(-1, q)] := by
  refine ⟨by simp, fun x hx => ?_⟩
  simp only [List.mem_cons, List.not_mem_nil, or_false] at hx
  subst hx
  exact h
theorem tot1 (q : List (Int × Int)) : tot [(-1, q)] = q.length := by simp [tot]

set_option maxHeartbeats 2000000 in
theorem epochOrder_walk (A B : Option Addr) (n c m d : Nat) (l r : List Nat) (w : World) (hl : Sts ByC 1 w A n l) (hr : Sts ByC 1 w B m r) :
    Calls Try.prog 5 #[.slice A n c, .slice B m d] w fun e w' => e = .returned (.bool true) ∧ Below w.heap.size w w' := by
  have HL := Lib.hid hl
  have HR := Lib.hid hr
  have hmax := hl.2.1
  have hmax2 := hr.2.1
  unfold maxLen at hmax hmax2
  clear hl hr
  by_cases hn : n ≤ 40
  case neg =>
    have h40 : (40 : Int) < (n : Int) := by omega
    go_enter Try.func5, Try.ntmps5
    go_wp2_with fail
    refine (awake_walk _).mono ?_
    rintro e w1 ⟨rfl, hb1⟩
    go_wp2
    go_ret
    exact ⟨rfl, hb1⟩
  have h40 : decide ((40 : Int) < (n : Int)) = false := by simp; omega
  by_cases hm : m ≤ 60
  case neg =>
    have h60 : (60 : Int) < (m : Int) := by omega
    go_enter Try.func5, Try.ntmps5
    go_wp2_with fail
    refine (awake_walk _).mono ?_
    rintro e w1 ⟨rfl, hb1⟩
    go_wp2
    go_ret
    exact ⟨rfl, hb1⟩
  have h60 : ¬ ((60 : Int) < (m : Int)) := by omega
  go_enter Try.func5, Try.ntmps5
  go_wp2_with fail
  refine (awake_walk _).mono ?_
  rintro e w1 ⟨rfl, b1⟩
  have HB := Lib.hid b1
  clear b1
  go_wp2_with fail
  refine (Ow.new (w := w) 1 HB.out).mono ?_
  rintro e w2 ⟨a, rfl, h2⟩
  have H2 : Hid (Ow w a 0 [(-1, oq l 0)] w2) := h2
  clear h2 HB
  go_wp2_with fail
  go_loopg [26] n (fun gk i wr => ∃ (k : Nat), k + gk = n ∧ i = .int .i64 (k : Int) ∧ Hid (Ow w a 0 [(-1, oq l k)] wr))
  case atStart => exact ⟨0, by omega, rfl, H2.out⟩
  case round =>
    clear H2
    obtain ⟨k, hk, rfl, HH⟩ := hrel
    by_cases hlt : k < n
    case pos =>
      obtain ⟨g, off, hA, hc, hx⟩ := bytes_at HL.out hlt
      subst hA
      have hc' := below_read HH.out.below hc
      have HS := Lib.hid (oq_succ l k)
      generalize l.getD k 0 = x at *
      have i0 : (0 : Int) ≤ (k : Int) := by omega
      have i1 : (k : Int) < (n : Int) := by omega
      have hkw : IntKind.i64.wrap ((k : Int) + 1) = (k : Int) + 1 := IntWalk.i64_in _ (by omega)
      have hxw : IntKind.i64.wrap (x : Int) = (x : Int) := IntWalk.i64_in _ (by omega)
      clear hc
      go_wp2_with fail
      refine (HH.out.leave (i := 0) (s := -1) (q := oq l k) (z := (k : Int) + 1) (at_ := (x : Int)) rfl (by rw [oq_length]; omega)).mono ?_
      rintro e w3 ⟨rfl, h3⟩
      have H3 : Hid (Ow w a 0 [(-1, oq l (k + 1))] w3) := by
        show Ow _ _ _ _ _
        rw [HS.out]
        exact h3
      clear h3 HS HH
      go_wp2
      go_roundg (gk - 1)
      case measure => omega
      case rel => exact ⟨k + 1, by omega, by go_num, H3.out⟩
    have hkn : k = n := by omega
    subst hkn
    have i1 : ¬ ((k : Int) < (k : Int)) := by omega
    go_wp2_with fail
    go_loopg [40, 8] m (fun gk2 i nx wr2 => ∃ (k2 j : Nat), k2 + gk2 = m ∧ j ≤ k ∧ i = .int .i64 (k2 : Int) ∧ nx = .int .i64 (j : Int) ∧ Hid (Ow w a 0 [(-1, (oq l k).drop j)] wr2))
    case atStart => exact ⟨0, 0, by omega, by omega, rfl, rfl, HH.out⟩
    case round =>
    clear HH i1
    obtain ⟨k2, j, hk2, hj, rfl, rfl, HH⟩ := hrel
    have hkw : IntKind.i64.wrap ((k2 : Int) + 1) = (k2 : Int) + 1 := IntWalk.i64_in _ (by omega)
    have hjw : IntKind.i64.wrap ((j : Int) + 1) = (j : Int) + 1 := IntWalk.i64_in _ (by omega)
    by_cases hlt2 : k2 < m
    case neg =>
      have i1 : ¬ ((k2 : Int) < (m : Int)) := by omega
      have hsw : IntKind.i64.wrap ((k : Int) - (j : Int)) = (k : Int) - (j : Int) := IntWalk.i64_in _ (by omega)
      go_wp2_with fail
      refine (HH.out.limbo (few1 _ (by rw [List.length_drop, oq_length]; omega))).mono ?_
      rintro e w3 ⟨rfl, rfl⟩
      rw [tot1, List.length_drop, oq_length, Int.natCast_sub hj]
      go_wp2
      go_ret
      exact ⟨rfl, HH.out.below⟩
    obtain ⟨g, off, hB, hc, hx⟩ := bytes_at HR.out hlt2
    subst hB
    have hc' := below_read HH.out.below hc
    generalize r.getD k2 0 = x at *
    have i0 : (0 : Int) ≤ (k2 : Int) := by omega
    have i1 : (k2 : Int) < (m : Int) := by omega
    have hxw : IntKind.i64.wrap (x : Int) = (x : Int) := IntWalk.i64_in _ (by omega)
    have HX : Hid ((x : Int) ≤ 9223372036854775807) := by show _ ≤ _; omega
    clear hc
    by_cases hjn : j < k
    case neg =>
      have hjk : j = k := by omega
      subst hjk
      have j1 : decide ((j : Int) < (j : Int)) = false := by simp
      go_wp2_with fail
      refine (HH.out.ready (i := 0) (s := -1) (n := (x : Int)) rfl oq_pos HX.out).mono ?_
      rintro e w3 ⟨rfl, h3⟩
      have e0 : (oq l j).drop j = [] := List.drop_eq_nil_of_le (by rw [oq_length]; omega)
      rw [show (tk ((oq l j).drop j) (x : Int)).1 = 0 from by rw [e0]; rfl]
      have H3 : Hid (Ow w a 0 [(-1, (oq l j).drop j)] w3) := by
        rw [show (tk ((oq l j).drop j) (x : Int)).2 = (oq l j).drop j from by rw [e0]; rfl] at h3
        exact h3
      clear h3 HH e0
      go_wp2
      go_roundg (gk - 1)
      case measure => omega
      case rel => exact ⟨k2 + 1, j, by omega, by omega, by go_num, rfl, H3.out⟩
    obtain ⟨g2, off2, hA, hc2, hy⟩ := bytes_at HL.out hjn
    subst hA
    have hc3 := HH.out.below
    have HD := Lib.hid (oq_drop (l := l) hjn)
    have HY := Lib.hid hc2
    generalize l.getD j 0 = y at *
    have j0 : (0 : Int) ≤ (j : Int) := by omega
    have j1 : (j : Int) < (k : Int) := by omega
    have hyw : IntKind.i64.wrap (y : Int) = (y : Int) := IntWalk.i64_in _ (by omega)
    have hyw3 : IntKind.i64.wrap ((y : Int) + 3) = (y : Int) + 3 := IntWalk.i64_in _ (by omega)
    clear hc2 hc3
    go_wp2_with fail
    refine (HH.out.ready (i := 0) (s := -1) (n := (x : Int)) rfl oq_pos HX.out).mono ?_
    rintro e w3 ⟨rfl, h3⟩
    have hc4 := below_read h3.below HY.out
    by_cases hr : (y : Int) + 3 ≤ (x : Int)
    · have e1 : tk ((oq l k).drop j) (x : Int) = ((j : Int) + 1, (oq l k).drop (j + 1)) := by rw [HD.out]; simp [tk, rdy, hr]
      rw [e1] at h3 ⊢
      have H3 : Hid (Ow w a 0 [(-1, (oq l k).drop (j + 1))] w3) := h3
      have n0 : ((j : Int) + 1 == 0) = false := by simp; omega
      have n1 : ((j : Int) + 1 != 0) = true := by simp; omega
      clear h3 HH e1 HD HY
      go_wp2
      go_roundg (gk - 1)
      case measure => omega
      case rel => exact ⟨k2 + 1, j + 1, by omega, by omega, by go_num, by go_num, H3.out⟩
    · have e1 : tk ((oq l k).drop j) (x : Int) = (0, (oq l k).drop j) := by rw [HD.out]; simp [tk, rdy, hr]
      rw [e1] at h3 ⊢
      have H3 : Hid (Ow w a 0 [(-1, (oq l k).drop j)] w3) := h3
      have n0 : decide ((y : Int) + 3 ≤ (x : Int)) = false := by simpa using hr
      clear h3 HH e1 HD HY
      go_wp2
      go_roundg (gk - 1)
      case measure => omega
      case rel => exact ⟨k2 + 1, j, by omega, by omega, by go_num, rfl, H3.out⟩
end Go.Proofs.Ytcainkobdkaaeaa
