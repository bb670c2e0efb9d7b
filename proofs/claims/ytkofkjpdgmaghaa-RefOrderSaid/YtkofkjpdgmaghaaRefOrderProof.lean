/-
  References stand in the order of their counts, those of one count in that of their places (RefOrder returns true for every input, its arguments stay as they were).
  No condition: every input of the parameters' types.
-/
import Derived.Test.YtkofkjpdgmaghaaRows
import Derived.Test.YtkofkjpdgmaghaaWalks
import Derived.WalkKit
import Derived.ProofKit
import Derived.OpenShut
namespace Go.Proofs.Ytkofkjpdgmaghaa.refOrder
open Go.ChangeShapes Go.WideShapes Go.ChangeAt Go.RowKit
set_option linter.unusedVariables false      -- a walk need not use every 'w<i>' (that an integer argument fits its kind)

theorem own : ownKnob Try.prog.godebug = none := by kernel_rfl

/-! ### STEP 1: THE WALK: the Go text returns true. 'Grown w w'': the world has at most new blocks (Derived/RowKit3.lean). Part the cases AHEAD of 'go_enter' where a test parts the walk; take each callee by a contract of your own. -/
theorem walk (a0 : Int) (a1 : Int) (a2 : Int) (a3 : Int) (w0 : (Lit.int .i64 a0).wf = true) (w1 : (Lit.int .i64 a1).wf = true) (w2 : (Lit.int .u32 a2).wf = true) (w3 : (Lit.int .u32 a3).wf = true) (w : World) :
    Calls Try.prog 7 #[.int .i64 a0, .int .i64 a1, .int .u32 a2, .int .u32 a3] w fun e w' => e = .returned (.bool true) ∧ Grown w w' := by
  have b2 := bounds_u32 w2
  have b3 := bounds_u32 w3
  clear w0 w1 w2 w3
  by_cases c0 : a0 < 0
  · go_enter Try.func7, Try.ntmps7
    go_wp2_with (first | (go_at_call 9; refine (awake_walk _).mono ?_; rintro e w' ⟨rfl, rfl⟩) | (go_at_call 10; refine (of_walk _ _ (by omega) _).mono ?_; rintro e w' ⟨rfl, rfl⟩) | (go_at_call 11; refine (refOf_walk _ _ (by omega) _).mono ?_; rintro e w' ⟨rfl, rfl⟩) | (go_at_call 12; refine (parts_walk _ (by omega) _).mono ?_; rintro e w' ⟨rfl, rfl⟩) | (go_at_call 13; refine (place_walk _ _).mono ?_; rintro e w' ⟨rfl, rfl⟩) | (go_at_call 14; refine (count_walk _ _).mono ?_; rintro e w' ⟨rfl, rfl⟩))
    all_goals go_ret
    all_goals exact ⟨rfl, Grown.refl _⟩
  by_cases c1 : 1099511627774 < a0
  · go_enter Try.func7, Try.ntmps7
    go_wp2_with (first | (go_at_call 9; refine (awake_walk _).mono ?_; rintro e w' ⟨rfl, rfl⟩) | (go_at_call 10; refine (of_walk _ _ (by omega) _).mono ?_; rintro e w' ⟨rfl, rfl⟩) | (go_at_call 11; refine (refOf_walk _ _ (by omega) _).mono ?_; rintro e w' ⟨rfl, rfl⟩) | (go_at_call 12; refine (parts_walk _ (by omega) _).mono ?_; rintro e w' ⟨rfl, rfl⟩) | (go_at_call 13; refine (place_walk _ _).mono ?_; rintro e w' ⟨rfl, rfl⟩) | (go_at_call 14; refine (count_walk _ _).mono ?_; rintro e w' ⟨rfl, rfl⟩))
    all_goals go_ret
    all_goals exact ⟨rfl, Grown.refl _⟩
  by_cases c2 : a1 < 0
  · go_enter Try.func7, Try.ntmps7
    go_wp2_with (first | (go_at_call 9; refine (awake_walk _).mono ?_; rintro e w' ⟨rfl, rfl⟩) | (go_at_call 10; refine (of_walk _ _ (by omega) _).mono ?_; rintro e w' ⟨rfl, rfl⟩) | (go_at_call 11; refine (refOf_walk _ _ (by omega) _).mono ?_; rintro e w' ⟨rfl, rfl⟩) | (go_at_call 12; refine (parts_walk _ (by omega) _).mono ?_; rintro e w' ⟨rfl, rfl⟩) | (go_at_call 13; refine (place_walk _ _).mono ?_; rintro e w' ⟨rfl, rfl⟩) | (go_at_call 14; refine (count_walk _ _).mono ?_; rintro e w' ⟨rfl, rfl⟩))
    all_goals go_ret
    all_goals exact ⟨rfl, Grown.refl _⟩
  by_cases c3 : 1099511627774 < a1
  · go_enter Try.func7, Try.ntmps7
    go_wp2_with (first | (go_at_call 9; refine (awake_walk _).mono ?_; rintro e w' ⟨rfl, rfl⟩) | (go_at_call 10; refine (of_walk _ _ (by omega) _).mono ?_; rintro e w' ⟨rfl, rfl⟩) | (go_at_call 11; refine (refOf_walk _ _ (by omega) _).mono ?_; rintro e w' ⟨rfl, rfl⟩) | (go_at_call 12; refine (parts_walk _ (by omega) _).mono ?_; rintro e w' ⟨rfl, rfl⟩) | (go_at_call 13; refine (place_walk _ _).mono ?_; rintro e w' ⟨rfl, rfl⟩) | (go_at_call 14; refine (count_walk _ _).mono ?_; rintro e w' ⟨rfl, rfl⟩))
    all_goals go_ret
    all_goals exact ⟨rfl, Grown.refl _⟩
  by_cases d0 : a2 % 8388608 < a3 % 8388608
  · have e1 : mk a0 (a2 % 8388608) < mk a1 (a3 % 8388608) := by unfold mk; omega
    go_enter Try.func7, Try.ntmps7
    go_wp2_with (first | (go_at_call 9; refine (awake_walk _).mono ?_; rintro e w' ⟨rfl, rfl⟩) | (go_at_call 10; refine (of_walk _ _ (by omega) _).mono ?_; rintro e w' ⟨rfl, rfl⟩) | (go_at_call 11; refine (refOf_walk _ _ (by omega) _).mono ?_; rintro e w' ⟨rfl, rfl⟩) | (go_at_call 12; refine (parts_walk _ (by omega) _).mono ?_; rintro e w' ⟨rfl, rfl⟩) | (go_at_call 13; refine (place_walk _ _).mono ?_; rintro e w' ⟨rfl, rfl⟩) | (go_at_call 14; refine (count_walk _ _).mono ?_; rintro e w' ⟨rfl, rfl⟩))
    all_goals go_ret
    all_goals exact ⟨rfl, Grown.refl _⟩
  by_cases d1 : a2 % 8388608 = a3 % 8388608
  · have e2 : (a2 % 8388608 == a3 % 8388608) = true := by rw [beq_iff_eq]; exact d1
    by_cases d2 : a0 < a1
    · have e1 : mk a0 (a2 % 8388608) < mk a1 (a3 % 8388608) := by unfold mk; omega
      clear d1
      go_enter Try.func7, Try.ntmps7
      go_wp2_with (first | (go_at_call 9; refine (awake_walk _).mono ?_; rintro e w' ⟨rfl, rfl⟩) | (go_at_call 10; refine (of_walk _ _ (by omega) _).mono ?_; rintro e w' ⟨rfl, rfl⟩) | (go_at_call 11; refine (refOf_walk _ _ (by omega) _).mono ?_; rintro e w' ⟨rfl, rfl⟩) | (go_at_call 12; refine (parts_walk _ (by omega) _).mono ?_; rintro e w' ⟨rfl, rfl⟩) | (go_at_call 13; refine (place_walk _ _).mono ?_; rintro e w' ⟨rfl, rfl⟩) | (go_at_call 14; refine (count_walk _ _).mono ?_; rintro e w' ⟨rfl, rfl⟩))
      all_goals go_ret
      all_goals exact ⟨rfl, Grown.refl _⟩
    · have e1 : ¬ mk a0 (a2 % 8388608) < mk a1 (a3 % 8388608) := by unfold mk; omega
      clear d1
      go_enter Try.func7, Try.ntmps7
      go_wp2_with (first | (go_at_call 9; refine (awake_walk _).mono ?_; rintro e w' ⟨rfl, rfl⟩) | (go_at_call 10; refine (of_walk _ _ (by omega) _).mono ?_; rintro e w' ⟨rfl, rfl⟩) | (go_at_call 11; refine (refOf_walk _ _ (by omega) _).mono ?_; rintro e w' ⟨rfl, rfl⟩) | (go_at_call 12; refine (parts_walk _ (by omega) _).mono ?_; rintro e w' ⟨rfl, rfl⟩) | (go_at_call 13; refine (place_walk _ _).mono ?_; rintro e w' ⟨rfl, rfl⟩) | (go_at_call 14; refine (count_walk _ _).mono ?_; rintro e w' ⟨rfl, rfl⟩))
      all_goals go_ret
      refine ⟨?_, Grown.refl _⟩
      show Ending.returned (Value.bool (_ == _)) = _
      congr 2
      rw [beq_iff_eq, Bool.eq_iff_iff]
      simp only [Bool.or_eq_true, decide_eq_true_eq]
      omega
  have e1 : ¬ mk a0 (a2 % 8388608) < mk a1 (a3 % 8388608) := by unfold mk; omega
  have e2 : (a2 % 8388608 == a3 % 8388608) = false := by rw [beq_eq_false_iff_ne]; exact d1
  go_enter Try.func7, Try.ntmps7
  go_wp2_with (first | (go_at_call 9; refine (awake_walk _).mono ?_; rintro e w' ⟨rfl, rfl⟩) | (go_at_call 10; refine (of_walk _ _ (by omega) _).mono ?_; rintro e w' ⟨rfl, rfl⟩) | (go_at_call 11; refine (refOf_walk _ _ (by omega) _).mono ?_; rintro e w' ⟨rfl, rfl⟩) | (go_at_call 12; refine (parts_walk _ (by omega) _).mono ?_; rintro e w' ⟨rfl, rfl⟩) | (go_at_call 13; refine (place_walk _ _).mono ?_; rintro e w' ⟨rfl, rfl⟩) | (go_at_call 14; refine (count_walk _ _).mono ?_; rintro e w' ⟨rfl, rfl⟩))
  all_goals go_ret
  refine ⟨?_, Grown.refl _⟩
  show Ending.returned (Value.bool (_ == _)) = _
  congr 2
  rw [beq_iff_eq, Bool.eq_iff_iff]
  simp only [decide_eq_true_eq]
  omega

/-! ### THE ROW's STEP: WRITTEN OUT: LEAVE IT -/
set_option maxRecDepth 100000 in
theorem lifted (os : Os) (started : os.Started) (H : Type) (enc : TypeId × Value → H) :
    ReturnsInHanded {} Try.checked os 7 .any (Rows.refOrderSpec.pre6 enc Try.prog Try.f7 Rows.refOrderRow.domain false) (Rows.refOrderSpec.post enc Try.prog Try.f7 false true false false) := by
  refine returnsInHanded_of_change (C := Try.checked) own started (by kernel_rfl) Try.func7
    (ChangeSpec.witness6 (enc := enc) (C := Try.checked) false ⟨#[], #[.int .i64 0, .int .i64 0, .int .u32 0, .int .u32 0], []⟩ 8 (by kernel_rfl) (by kernel_rfl) (by kernel_rfl) (by kernel_rfl)) ?_
  intro W base args ds gs before hval0 hW hcnd _
  have hval : ∀ (j : Nat) t v, Try.f7.params[j]? = some t → args[j]? = some v → Value.okWide Try.prog W .any base t v := hval0
  have hW' := hW
  obtain ⟨p, q, hA0, hV, rfl, hfz, hnd⟩ := hW
  have hA : DataW.TrodAll enc Try.prog W 0 (fun _ => true) true Try.f7.params.toList args.toList ds p := hA0
  rw [Try.params7] at hA hval
  obtain ⟨v0, vs0, d0, ds0, p0, q0, hargs, rfl, rfl, h0, r0⟩ := trodAll_cons hA
  obtain ⟨v1, vs1, d1, ds1, p1, q1, rfl, rfl, rfl, h1, r1⟩ := trodAll_cons r0
  obtain ⟨v2, vs2, d2, ds2, p2, q2, rfl, rfl, rfl, h2, r2⟩ := trodAll_cons r1
  obtain ⟨v3, vs3, d3, ds3, p3, q3, rfl, rfl, rfl, h3, r3⟩ := trodAll_cons r2
  obtain ⟨rfl, rfl, rfl⟩ := trodAll_nil r3
  obtain rfl : args = #[v0, v1, v2, v3] := by cases args; simp_all
  obtain ⟨rfl, rfl⟩ := trodVars_none hV
  obtain ⟨a0, rfl, rfl, rfl, w0⟩ := open_int Try.underlying3 (hval 0 3 v0 rfl rfl) h0
  obtain ⟨a1, rfl, rfl, rfl, w1⟩ := open_int Try.underlying3 (hval 1 3 v1 rfl rfl) h1
  obtain ⟨a2, rfl, rfl, rfl, w2⟩ := open_int Try.underlying22 (hval 2 22 v2 rfl rfl) h2
  obtain ⟨a3, rfl, rfl, rfl, w3⟩ := open_int Try.underlying22 (hval 3 22 v3 rfl rfl) h3
  clear hA0 hval0
  simp only [List.append_nil] at hW'
  refine (walk a0 a1 a2 a3 w0 w1 w2 w3 W).mono fun e W' ⟨he, hg⟩ => ?_
  subst he
  exact ⟨_, rfl, post_of_same (pa := []) (pv := []) hW' (fun _ _ _ => (trodAll_cons_mk (shut_bool Try.underlying4 _) trodAll_mk0)) (fun sp _ => (trodAll_cons_mk (shut_int Try.underlying3 w0) (trodAll_cons_mk (shut_int Try.underlying3 w1) (trodAll_cons_mk (shut_int Try.underlying22 w2) (trodAll_cons_mk (shut_int Try.underlying22 w3) trodAll_mk0))))) (fun _ _ => rfl) rfl
    (hg.frame _) hg.2.1 (ok_one (by kernel_rfl) rfl (okWide_bool_mk Try.underlying4 _))⟩

theorem over : Rows.refOrderRow.holds Try.pinned (OpenSpec.ofChange Rows.refOrderSpec) :=
  OpenClaim.holds_of_wide 7 Try.f7 rfl rfl rfl rfl rfl rfl rfl ⟨rfl, rfl, rfl, rfl, rfl⟩ rfl rfl rfl rfl rfl (by kernel_rfl) Try.func7 (by kernel_rfl)
    (of_decide_eq_true (by kernel_rfl)) (by unfold Func.isWrapper; first | (rw [if_pos (by decide +kernel)]; kernel_rfl) | (rw [if_neg (by decide +kernel)]; exact ⟨rfl, rfl⟩))
    (fun os started H enc _ => lifted os started H enc)

/-- ████ THE STATEMENT ████ -/
theorem proved : Rows.RefOrderSaid :=
  over
#print axioms proved
end Go.Proofs.Ytkofkjpdgmaghaa.refOrder
