/-
  The law EpochThreads.
-/
import Derived.Test.YtcainkobdkaaeaaAw7
namespace Go.Proofs.Ytcainkobdkaaeaa
open Go.ChangeShapes Go.WideShapes Go.ChangeAt Go.RowKit
set_option linter.unusedVariables false
set_option linter.unusedSimpArgs false
set_option maxRecDepth 20000

theorem new_at {m i : Nat} (h : i < m) : (List.replicate m ((-1, []) : Tq))[i]? = some (-1, []) := by simp [List.getElem?_replicate, h]
theorem tot_new (m i : Nat) (y : Tq) (h : i < m) : tot ((List.replicate m ((-1, []) : Tq)).set i y) = y.2.length := by
  induction m generalizing i with
  | zero => omega
  | succ m ih =>
    have e : ∀ k, tot (List.replicate k ((-1, []) : Tq)) = 0 := by
      intro k
      induction k with
      | zero => rfl
      | succ k ih => rw [List.replicate_succ]; simp [tot] at ih ⊢
    cases i with
    | zero =>
      have := e m
      rw [List.replicate_succ, List.set_cons_zero]
      simp [tot] at this ⊢
    | succ i =>
      have := ih i (by omega)
      rw [List.replicate_succ, List.set_cons_succ]
      simp [tot] at this ⊢
      exact this
theorem tot_new0 (m : Nat) : tot (List.replicate m ((-1, []) : Tq)) = 0 := by
  induction m with
  | zero => rfl
  | succ k ih => rw [List.replicate_succ]; simp [tot] at ih ⊢

set_option maxHeartbeats 1000000 in
theorem epochThreads_walk (m t n : Int) (w : World) : Calls Try.prog 6 #[.int .i64 m, .int .i64 t, .int .i64 n] w fun e w' => e = .returned (.bool true) ∧ Below w.heap.size w w' := by
  have hm := mostOf_eq m
  have hF := Lib.hid (few_new m (-1))
  have hN := Lib.hid (fun w wr (hb : Below w.heap.size w wr) => Ow.new (w := w) (wr := wr) m hb)
  generalize mostOf m = k at *
  by_cases ht : t < 0 ∨ (k : Int) ≤ t
  · have HT : Hid (t < 0 ∨ ((List.replicate k ((-1, []) : Tq)).length : Int) ≤ t) := by show _ ∨ _; rw [List.length_replicate]; exact ht
    go_enter Try.func6, Try.ntmps6
    go_wp2_with fail
    refine (awake_walk w).mono ?_
    rintro e w1 ⟨rfl, hb⟩
    have HB := Lib.hid hb
    clear hb
    go_wp2_with fail
    refine (hN.out w w1 HB.out).mono ?_
    rintro e w2 ⟨a, rfl, h2⟩
    have H2 := Lib.hid h2
    clear h2 HB
    go_wp2_with fail
    refine H2.out.len.mono ?_
    rintro e w3 ⟨rfl, rfl⟩
    rw [List.length_replicate]
    go_wp2_with fail
    refine (H2.out.saidNo HT.out).mono ?_
    rintro e w3 ⟨rfl, rfl⟩
    go_wp2_with fail
    refine H2.out.nowIs.mono ?_
    rintro e w3 ⟨rfl, rfl⟩
    go_wp2_with fail
    refine (H2.out.sayNo HT.out).mono ?_
    rintro e w3 ⟨rfl, rfl⟩
    go_wp2_with fail
    refine (H2.out.leaveNo HT.out).mono ?_
    rintro e w3 ⟨rfl, rfl⟩
    by_cases h0 : t < 0
    · go_wp2_with fail
      refine (H2.out.saidNo HT.out).mono ?_
      rintro e w3 ⟨rfl, rfl⟩
      go_wp2_with fail
      refine (H2.out.limbo hF.out).mono ?_
      rintro e w3 ⟨rfl, rfl⟩
      rw [tot_new0]
      go_wp2
      go_ret
      exact ⟨rfl, H2.out.below⟩
    · have h1 : decide (t < 0) = false := by simpa using h0
      have h2 : (k : Int) ≤ t := by omega
      clear ht
      go_wp2_with fail
      refine (H2.out.saidNo HT.out).mono ?_
      rintro e w3 ⟨rfl, rfl⟩
      go_wp2_with fail
      refine (H2.out.limbo hF.out).mono ?_
      rintro e w3 ⟨rfl, rfl⟩
      rw [tot_new0]
      go_wp2
      go_ret
      exact ⟨rfl, H2.out.below⟩
  · obtain ⟨i, rfl⟩ : ∃ i : Nat, t = (i : Int) := ⟨t.toNat, by omega⟩
    have hik : i < k := by omega
    have i0 : (0 : Int) ≤ (i : Int) := by omega
    have i1 : (i : Int) < (k : Int) := by omega
    have i2 : decide ((i : Int) < 0) = false := by simp
    have HA := Lib.hid (new_at hik)
    clear ht
    go_enter Try.func6, Try.ntmps6
    go_wp2_with fail
    refine (awake_walk w).mono ?_
    rintro e w1 ⟨rfl, hb⟩
    have HB := Lib.hid hb
    clear hb
    go_wp2_with fail
    refine (hN.out w w1 HB.out).mono ?_
    rintro e w2 ⟨a, rfl, h2⟩
    have H2 := Lib.hid h2
    clear h2 HB
    go_wp2_with fail
    refine H2.out.len.mono ?_
    rintro e w3 ⟨rfl, rfl⟩
    rw [List.length_replicate]
    go_wp2_with fail
    refine (H2.out.said HA.out).mono ?_
    rintro e w3 ⟨rfl, rfl⟩
    go_wp2_with fail
    refine H2.out.nowIs.mono ?_
    rintro e w3 ⟨rfl, rfl⟩
    go_wp2_with fail
    refine (H2.out.say (z := n) HA.out).mono ?_
    rintro e w3 ⟨rfl, h3⟩
    have H3 := Lib.hid h3
    have HA3 : Hid (((List.replicate k ((-1, []) : Tq)).set i (n, []))[i]? = some (n, [])) := by show _ = _; rw [List.getElem?_set_self (by simpa using hik)]
    clear h3 H2
    go_wp2_with fail
    refine (H3.out.leave (z := 5) (at_ := n) HA3.out (by simp)).mono ?_
    rintro e w4 ⟨rfl, h4⟩
    have H4 : Hid (Ow w a 0 ((List.replicate k ((-1, []) : Tq)).set i (n, [(5, n)])) w4) := by
      rw [List.set_set] at h4
      exact h4
    have HA4 : Hid (((List.replicate k ((-1, []) : Tq)).set i (n, [(5, n)]))[i]? = some (n, [(5, n)])) := by show _ = _; rw [List.getElem?_set_self (by simpa using hik)]
    have hF4 : Hid (Few ((List.replicate k ((-1, []) : Tq)).set i (n, [(5, n)]))) := hF.out.set i (by simp)
    clear h4 H3 HA3
    go_wp2_with fail
    refine (H4.out.said HA4.out).mono ?_
    rintro e w5 ⟨rfl, rfl⟩
    go_wp2_with fail
    refine (H4.out.limbo hF4.out).mono ?_
    rintro e w5 ⟨rfl, rfl⟩
    rw [tot_new k i _ hik, show ((n, [(5, n)]) : Tq).2.length = 1 from rfl]
    go_wp2
    go_ret
    exact ⟨rfl, H4.out.below⟩
end Go.Proofs.Ytcainkobdkaaeaa
