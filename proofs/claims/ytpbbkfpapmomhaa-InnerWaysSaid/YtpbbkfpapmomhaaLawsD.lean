/-
  The walk of InnerWays: it returns true, for every input, and changes nothing that was there.
-/
import Derived.Test.YtpbbkfpapmomhaaLawsA
namespace Go.Proofs.Ytpbbkfpapmomhaa
open Go.ChangeShapes Go.WideShapes Go.ChangeAt Go.RowKit
set_option linter.unusedVariables false
set_option linter.unusedSimpArgs false

set_option maxHeartbeats 2000000 in
theorem innerWays_walk (A : Option Addr) (n c : Nat) (zs : List Int) (x : Int) (w : World) (h : Sl w A n c zs) :
    Calls Try.prog 3 #[.slice A n c, .int .i64 x] w fun e w' => e = .returned (.bool true) ∧ Below w.heap.size w w' := by
  by_cases hn : n ≤ 40
  case neg =>
    have hn' : (40 : Int) < (n : Int) := by omega
    go_enter Try.func3, Try.ntmps3
    go_wp2_with fail
    refine (awake_walk w).mono ?_
    rintro e w1 ⟨rfl, hb1⟩
    go_wp2
    go_ret
    exact ⟨rfl, hb1⟩
  have hn' : ¬ (40 : Int) < (n : Int) := by omega
  have hlr : (risingL zs).length ≤ 40 := by unfold risingL; have := risingTo_length zs zs.length; have := h.len; omega
  go_enter Try.func3, Try.ntmps3
  go_wp2_with fail
  refine (awake_walk w).mono ?_
  rintro e w1 ⟨rfl, p1⟩
  have h1 := h.below p1
  have hA := asc1_rising zs
  go_wp2_with fail
  refine (of_walk A n c zs 1 w1 h1 (by omega) (by omega) (by omega)).mono ?_
  rintro e w2 ⟨u, v, rfl, g1, g2, p2⟩
  obtain ⟨F1, N1, f1, rfl⟩ := g1.shape
  obtain ⟨F2, N2, f2, rfl⟩ := g2.shape
  have hlk : ((risingL zs).map (·.1)).length = (risingL zs).length := List.length_map _
  rw [← hlk] at g2 hlr
  clear hlk h h1
  generalize (risingL zs).map (·.1) = ks at *
  have hN1 : N1 = ks.length := g1.sl.len
  have hN2 : N2 = ks.length + 1 := g2.sl.len.trans (waysTo_length 1 ks.length)
  have HN1 := Lib.hid hN1
  have HN2 := Lib.hid hN2
  have b1 : N1 ≤ 40 := by omega
  have b2 : N2 ≤ 41 := by omega
  clear hN1 hN2
  have HA := Lib.hid hA
  clear hA
  go_wp2
  obtain ⟨X, O, hX, hO, st⟩ : ∃ (X : World) (O : Nat), w2.alloc (.cells #[.slice F1 N1 f1, .slice F2 N2 f2] 26) = X ∧ w2.heap.size = O ∧ St w1 O (.slice F1 N1 f1) (.slice F2 N2 f2) (.slice F1 N1 f1) (.slice F2 N2 f2) ks (waysTo 1 ks.length) X := ⟨_, _, rfl, rfl, St.new g1 g2 p2 rfl⟩
  rw [hX, hO]
  clear hX hO g1 g2 p2
  have o0 := st.cell0
  have o1 := st.cell1
  have HF : Hid (∀ w', Below X.heap.size X w' → (w'.cell? ⟨O, 0, none⟩ = some (.slice F1 N1 f1) ∧ w'.cell? ⟨O, 1, none⟩ = some (.slice F2 N2 f2))) := fun w' h => ⟨below_read h o0, below_read h o1⟩
  go_region_held3 (fun w' => w'.cell? ⟨O, 0, none⟩ = some (.slice F1 N1 f1) ∧ w'.cell? ⟨O, 1, none⟩ = some (.slice F2 N2 f2)) (first | (refine HF.out _ ?_; go_grown; done) | go_keep) (first
    | (go_at_call 16
       refine (way_walk F1 F2 N1 f1 N2 f2 ks x _ ?_ (by omega) (by omega)).mono ?_; (· exact st.keys.sl.below (by go_grown)); rintro e w5 ⟨r, rfl, hs, p5⟩
       have q5 : Below X.heap.size X w5 := Below.trans (by go_grown) p5
       have HR : Hid (heldW r N2 = wayL ks x) := by show _ = _; rw [← spot_way HA.out hs]; exact heldW_right (n := ks.length) HN2.out.symm hs.1
       rw [HR.out]
       clear hs p5)
    | (go_at_call 17
       refine (lawWay_walk F1 F2 N1 f1 N2 f2 ks x _ ?_ (by omega)).mono ?_; (· exact st.keys.sl.below q5); rintro e w6 ⟨rfl, p6⟩
       have q6 := q5.trans (p6.mono q5.size))
    )
  all_goals go_wp2
  all_goals go_ret
  all_goals exact ⟨by simp, p1.trans ((st.below.trans (q6.mono st.size)).mono p1.size)⟩

end Go.Proofs.Ytpbbkfpapmomhaa
