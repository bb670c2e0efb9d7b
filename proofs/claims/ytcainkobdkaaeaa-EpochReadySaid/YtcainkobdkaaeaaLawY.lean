/-
  The law EpochReady.
-/
import Derived.Test.YtcainkobdkaaeaaDr7
namespace Go.Proofs.Ytcainkobdkaaeaa
open Go.ChangeShapes Go.WideShapes Go.ChangeAt Go.RowKit
set_option linter.unusedVariables false
set_option linter.unusedSimpArgs false
set_option maxRecDepth 20000

theorem few2 (q : List (Int × Int)) (h : q.length ≤ 1000) : Few [(-1, []), (-1, q)] := by
  refine ⟨by simp, fun x hx => ?_⟩
  simp only [List.mem_cons, List.not_mem_nil, or_false] at hx
  rcases hx with rfl | rfl
  · simp
  · exact h
set_option maxHeartbeats 1000000 in
theorem epochReady_walk (at_ now node : Int) (w : World) (h1 : -9223372036854775808 ≤ at_) (h2 : now ≤ 9223372036854775807) : Calls Try.prog 4 #[.int .i64 at_, .int .i64 now, .int .i64 node] w fun e w' => e = .returned (.bool true) ∧ Below w.heap.size w w' := by
  by_cases h0 : node = 0
  · subst h0
    go_enter Try.func4, Try.ntmps4
    go_wp2_with fail
    refine (awake_walk w).mono ?_
    rintro e w1 ⟨rfl, hb⟩
    go_wp2
    go_ret
    exact ⟨rfl, hb⟩
  have hb0 : (node == 0) = false := by simpa using h0
  have HR := Lib.hid (dready_walk at_ now · h1 h2)
  have HQ : Hid (∀ p ∈ [(node, at_)], -9223372036854775808 ≤ p.2) := by show ∀ p ∈ _, _; simp; omega
  have HN := Lib.hid h2
  clear h2 h1
  go_enter Try.func4, Try.ntmps4
  go_wp2_with fail
  refine (awake_walk w).mono ?_
  rintro e w1 ⟨rfl, hb⟩
  have HB := Lib.hid hb
  clear hb
  go_wp2_with fail
  refine (Ow.new (w := w) 2 HB.out).mono ?_
  rintro e w2 ⟨a, rfl, h2⟩
  have H2 : Hid (Ow w a 0 [(-1, []), (-1, [])] w2) := h2
  clear h2 HB
  go_wp2_with fail
  refine (H2.out.leave (i := 1) (s := -1) (q := []) rfl (by simp)).mono ?_
  rintro e w3 ⟨rfl, h3⟩
  have H3 : Hid (Ow w a 0 [(-1, []), (-1, [(node, at_)])] w3) := h3
  clear h3 H2
  go_wp2_with fail
  refine (H3.out.ready (i := 0) (s := -1) (q := []) (n := now) rfl (by simp) HN.out).mono ?_
  rintro e w4 ⟨rfl, h4⟩
  have H4 : Hid (Ow w a 0 [(-1, []), (-1, [(node, at_)])] w4) := h4
  clear h4 H3
  rw [show (tk [] now).1 = 0 from rfl]
  go_wp2_with fail
  refine (H4.out.limbo (few2 _ (by simp))).mono ?_
  rintro e w5 ⟨rfl, rfl⟩
  rw [show tot [(-1, []), (-1, [(node, at_)])] = 1 from rfl]
  go_wp2_with fail
  refine (H4.out.ready (i := 1) (s := -1) (q := [(node, at_)]) (n := now) rfl HQ.out HN.out).mono ?_
  rintro e w5 ⟨rfl, h5⟩
  cases hr : rdy at_ now with
  | false =>
    have H5 : Hid (Ow w a 0 [(-1, []), (-1, [(node, at_)])] w5) := by
      rw [show (tk [(node, at_)] now).2 = [(node, at_)] from by simp [tk, hr]] at h5
      exact h5
    rw [show (tk [(node, at_)] now).1 = 0 from by simp [tk, hr]]
    have HF := Lib.hid hr
    clear h5 H4 hr
    go_wp2_with fail
    refine (HR.out _).mono ?_
    rintro e w6 ⟨rfl, rfl⟩
    rw [HF.out]
    go_wp2_with fail
    refine (H5.out.limbo (few2 _ (by simp))).mono ?_
    rintro e w6 ⟨rfl, rfl⟩
    rw [show tot [(-1, []), (-1, [(node, at_)])] = 1 from rfl]
    go_wp2
    go_ret
    exact ⟨rfl, H5.out.below⟩
  | true =>
    have H5 : Hid (Ow w a 0 [(-1, []), (-1, [])] w5) := by
      rw [show (tk [(node, at_)] now).2 = [] from by simp [tk, hr]] at h5
      exact h5
    rw [show (tk [(node, at_)] now).1 = node from by simp [tk, hr]]
    have HF := Lib.hid hr
    clear h5 H4 hr
    go_wp2_with fail
    refine (HR.out _).mono ?_
    rintro e w6 ⟨rfl, rfl⟩
    rw [HF.out]
    go_wp2_with fail
    refine (H5.out.limbo (few2 _ (by simp))).mono ?_
    rintro e w6 ⟨rfl, rfl⟩
    rw [show tot [(-1, []), (-1, [])] = 0 from rfl]
    go_wp2_with fail
    refine (H5.out.ready (i := 1) (s := -1) (q := []) (n := now) rfl (by simp) HN.out).mono ?_
    rintro e w6 ⟨rfl, h6⟩
    rw [show (tk [] now).1 = 0 from rfl]
    go_wp2
    go_ret
    exact ⟨rfl, h6.below⟩
end Go.Proofs.Ytcainkobdkaaeaa
