/-
  inner's halves of a list: what it has ahead of one place, and from another on: rows of their own.
-/
import Derived.Test.YtpbbkfpapmomhaaInner2
namespace Go.Proofs.Ytpbbkfpapmomhaa
open Go.ChangeShapes Go.WideShapes Go.ChangeAt Go.RowKit
set_option linter.unusedVariables false
set_option linter.unusedSimpArgs false

set_option maxHeartbeats 2000000 in
theorem halvesK_walk (A : Option Addr) (n c p q : Nat) (zs : List Int) (w : World) (h : Sl w A n c zs) (hn : n ≤ 200) (hp : p ≤ n) (hq : q ≤ n) :
    Calls Try.prog 43 #[.slice A n c, .int .i64 (p : Int), .int .i64 (q : Int)] w fun e w' => ∃ u v, e = .returned (.tuple #[u, v]) ∧ Row 2 w.heap.size w' u (zs.take p) ∧ Row 2 w.heap.size w' v (zs.drop q) ∧ Below w.heap.size w w' := by
  have hn1 : (zs.take p).length ≤ 1000 := by have := h.len; simp; omega
  have hn2 : (zs.drop q).length ≤ 1000 := by have := h.len; simp; omega
  obtain ⟨A1, hl1, hr1⟩ := cut_upto rowK h p hp
  obtain ⟨A2, hl2, hr2⟩ := cut_from rowK h q hq
  clear h
  go_enter Try.func43, Try.ntmps43
  go_wp2
  go_region_held3 (fun w' => Below w.heap.size w w') (first | (go_grown; done) | assumption) (first
    | (go_at_call 40
       (refine (concatK1 _ A1 p c (zs.take p) _ ?_ ?_ hn1).mono ?_; (· (first | ((with_reducible refine c_top ?_ ?_); (· simp; done); (· rfl)) | ((with_reducible refine c_one ?_ ?_); (· simp; done); (· rfl)) | ((with_reducible refine c_two ?_ ?_); (· simp; done); (· rfl)) | ((with_reducible refine c_thr ?_ ?_); (· simp; done); (· rfl)))); (· exact hl1.below (by go_grown)))
       rintro e w1 ⟨v1, rfl, hr1, hb1⟩; obtain ⟨F1, N1, f1, rfl⟩ := hr1.shape
       have p1 : Below w.heap.size w w1 := Below.trans (by go_grown) (hb1.mono (by simp <;> omega))
       have q1 := p1.size
       have g1 := hr1.lower (base' := w.heap.size) (by simp <;> omega)
       have HB1 := Lib.hid hb1
       clear hb1 hr1)
    | (go_at_call 40
       (refine (concatK1 _ A2 (n - q) (c - q) (zs.drop q) _ ?_ ?_ hn2).mono ?_; (· (first | ((with_reducible refine c_new ?_ ?_); (· simp; done); (· rfl)) | ((with_reducible refine c_old ?_); ((with_reducible refine c_new ?_ ?_); (· simp; done); (· rfl))) | ((with_reducible refine below_read HB1.out ?_); (first | ((with_reducible refine c_top ?_ ?_); (· simp; done); (· rfl)) | ((with_reducible refine c_one ?_ ?_); (· simp; done); (· rfl)) | ((with_reducible refine c_two ?_ ?_); (· simp; done); (· rfl)) | ((with_reducible refine c_thr ?_ ?_); (· simp; done); (· rfl)))) | ((with_reducible refine c_old (below_read HB1.out ?_)); (first | ((with_reducible refine c_top ?_ ?_); (· simp; done); (· rfl)) | ((with_reducible refine c_one ?_ ?_); (· simp; done); (· rfl)) | ((with_reducible refine c_two ?_ ?_); (· simp; done); (· rfl)) | ((with_reducible refine c_thr ?_ ?_); (· simp; done); (· rfl)))))); (· exact (hl2.below p1).below (by go_grown)))
       rintro e w2 ⟨v2, rfl, hr2, hb2⟩; obtain ⟨F2, N2, f2, rfl⟩ := hr2.shape
       have p12 : Below w1.heap.size w1 w2 := Below.trans (by go_grown) (hb2.mono (by simp <;> omega))
       have p2 := p1.trans (p12.mono p1.size)
       have g2 := hr2.lower (base' := w.heap.size) (by have := p1.size; simp <;> omega)
       clear hb2 hr2))
  all_goals go_wp2
  all_goals go_ret2
  all_goals exact ⟨_, _, rfl, g1.next p12, g2, p2⟩

set_option maxHeartbeats 2000000 in
theorem halvesR_walk (A : Option Addr) (n c p q : Nat) (zs : List Int) (w : World) (h : Sl w A n c zs) (hn : n ≤ 200) (hp : p ≤ n) (hq : q ≤ n) :
    Calls Try.prog 42 #[.slice A n c, .int .i64 (p : Int), .int .i64 (q : Int)] w fun e w' => ∃ u v, e = .returned (.tuple #[u, v]) ∧ Row 35 w.heap.size w' u (zs.take p) ∧ Row 35 w.heap.size w' v (zs.drop q) ∧ Below w.heap.size w w' := by
  have hn1 : (zs.take p).length ≤ 1000 := by have := h.len; simp; omega
  have hn2 : (zs.drop q).length ≤ 1000 := by have := h.len; simp; omega
  obtain ⟨A1, hl1, hr1⟩ := cut_upto rowR h p hp
  obtain ⟨A2, hl2, hr2⟩ := cut_from rowR h q hq
  clear h
  go_enter Try.func42, Try.ntmps42
  go_wp2
  go_region_held3 (fun w' => Below w.heap.size w w') (first | (go_grown; done) | assumption) (first
    | (go_at_call 41
       (refine (concatR1 _ A1 p c (zs.take p) _ ?_ ?_ hn1).mono ?_; (· (first | ((with_reducible refine c_top ?_ ?_); (· simp; done); (· rfl)) | ((with_reducible refine c_one ?_ ?_); (· simp; done); (· rfl)) | ((with_reducible refine c_two ?_ ?_); (· simp; done); (· rfl)) | ((with_reducible refine c_thr ?_ ?_); (· simp; done); (· rfl)))); (· exact hl1.below (by go_grown)))
       rintro e w1 ⟨v1, rfl, hr1, hb1⟩; obtain ⟨F1, N1, f1, rfl⟩ := hr1.shape
       have p1 : Below w.heap.size w w1 := Below.trans (by go_grown) (hb1.mono (by simp <;> omega))
       have q1 := p1.size
       have g1 := hr1.lower (base' := w.heap.size) (by simp <;> omega)
       have HB1 := Lib.hid hb1
       clear hb1 hr1)
    | (go_at_call 41
       (refine (concatR1 _ A2 (n - q) (c - q) (zs.drop q) _ ?_ ?_ hn2).mono ?_; (· (first | ((with_reducible refine c_new ?_ ?_); (· simp; done); (· rfl)) | ((with_reducible refine c_old ?_); ((with_reducible refine c_new ?_ ?_); (· simp; done); (· rfl))) | ((with_reducible refine below_read HB1.out ?_); (first | ((with_reducible refine c_top ?_ ?_); (· simp; done); (· rfl)) | ((with_reducible refine c_one ?_ ?_); (· simp; done); (· rfl)) | ((with_reducible refine c_two ?_ ?_); (· simp; done); (· rfl)) | ((with_reducible refine c_thr ?_ ?_); (· simp; done); (· rfl)))) | ((with_reducible refine c_old (below_read HB1.out ?_)); (first | ((with_reducible refine c_top ?_ ?_); (· simp; done); (· rfl)) | ((with_reducible refine c_one ?_ ?_); (· simp; done); (· rfl)) | ((with_reducible refine c_two ?_ ?_); (· simp; done); (· rfl)) | ((with_reducible refine c_thr ?_ ?_); (· simp; done); (· rfl)))))); (· exact (hl2.below p1).below (by go_grown)))
       rintro e w2 ⟨v2, rfl, hr2, hb2⟩; obtain ⟨F2, N2, f2, rfl⟩ := hr2.shape
       have p12 : Below w1.heap.size w1 w2 := Below.trans (by go_grown) (hb2.mono (by simp <;> omega))
       have p2 := p1.trans (p12.mono p1.size)
       have g2 := hr2.lower (base' := w.heap.size) (by have := p1.size; simp <;> omega)
       clear hb2 hr2))
  all_goals go_wp2
  all_goals go_ret2
  all_goals exact ⟨_, _, rfl, g1.next p12, g2, p2⟩

end Go.Proofs.Ytpbbkfpapmomhaa
