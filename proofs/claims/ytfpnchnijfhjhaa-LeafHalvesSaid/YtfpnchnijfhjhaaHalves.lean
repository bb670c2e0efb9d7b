/-
  What leaf's Halves returns, of any pairs: two new rows and a key. And the law's own fixed fact, Awake.
-/
import Derived.Test.YtfpnchnijfhjhaaLeafFns
namespace Go.Proofs.Ytfpnchnijfhjhaa
open Go.ChangeShapes Go.WideShapes Go.ChangeAt Go.RowKit
set_option linter.unusedVariables false

/-- joined of one slice alone. -/
theorem joined1 (g : Nat) (A : Option Addr) (n c : Nat) (l : List (Int × Int)) (w : World) (h1 : w.cell? ⟨g, 0, none⟩ = some (.slice A n c)) (h2 : Lf w A n l) (hn : n ≤ 100000) :
    Calls Try.prog 30 #[.slice (some ⟨g, 0, none⟩) 1 1] w fun e w' => ∃ v, e = .returned v ∧ Own w w' v l := by
  have h : Pts w g [(A, n, c, l)] := by
    intro j p hj
    match j, hj with
    | 0, hj => simp at hj; subst hj; exact ⟨h1, h2⟩
  refine (joined_walk g 1 1 _ w h rfl (by simp [catL]; have := h2.len; omega) (by omega)).mono ?_
  rintro e w' ⟨v, rfl, hown⟩
  exact ⟨v, rfl, by simpa [catL] using hown⟩

theorem below_a1 (w : World) (o : Obj) : Below w.heap.size w (w.alloc o).drew := ((Below.refl _ w).alloc (Nat.le_refl _) _).drew
theorem below_a2 (w : World) (o o' : Obj) : Below w.heap.size w ((w.alloc o).alloc o').drew := (((Below.refl _ w).alloc (Nat.le_refl _) _).alloc (by simp) _).drew

def keyAt (l : List (Int × Int)) (k : Nat) : Int := (l.getD k (0, 0)).1
theorem ret_halves {u v : Value} {a b : Int} (h : a = b) : Ending.returned (.tuple #[u, v, .int .i64 a]) = .returned (.tuple #[u, v, .int .i64 b]) := by rw [h]

set_option maxHeartbeats 1000000 in
theorem halves_none (A : Option Addr) (c : Nat) (w : World) :
    Calls Try.prog 22 #[.slice A 0 c] w fun e w' => e = .returned (.tuple #[.slice none 0 0, .slice none 0 0, .int .i64 0]) ∧ w = w' := by
  go_enter Try.func22, Try.ntmps22
  go_wp2
  go_ret3
  exact ⟨rfl, rfl⟩

set_option maxHeartbeats 8000000 in
theorem halves_some (A : Option Addr) (n c : Nat) (l : List (Int × Int)) (w : World) (h : Lf w A n l) (hn : n ≤ 50000) (hc : n ≤ c) (hpos : 0 < n) :
    Calls Try.prog 22 #[.slice A n c] w fun e w' => ∃ u v, e = .returned (.tuple #[u, v, .int .i64 (keyAt l (n / 2))]) ∧ Own w w' u (l.take (n / 2)) ∧ Own w w' v (l.drop (n / 2)) := by
  have hln : Hid (n = l.length) := h.len
  have hll : n / 2 < l.length := by have := h.len; omega
  obtain ⟨b, off, rfl, hbl, c1, c2⟩ := h.at_ hll
  obtain ⟨A1, hl1, hr1⟩ := cut_upto (c := c) h (n / 2) (by omega) hc
  obtain ⟨A2, hl2, hr2⟩ := cut_from (c := c) h (n / 2) (by omega) hc
  have HK : Hid (keyAt l (n / 2) = l[n / 2].1) := by show _ = _; unfold keyAt; rw [List.getD_eq_getElem?_getD, List.getElem?_eq_getElem hll]; rfl
  have hn0 : ((n : Int) == 0) = false := by rw [beq_eq_false_iff_ne]; omega
  have hq : (n : Int) / 2 = ((n / 2 : Nat) : Int) := by omega
  have hm : n / 2 < n := by omega
  have hm1 : ((n / 2 : Nat) : Int) < (n : Int) := by omega
  have HQ := Lib.hid hq
  clear hq c2 h
  generalize l[n / 2] = p at *
  go_enter Try.func22, Try.ntmps22
  go_wp2
  rw [HQ.out]
  generalize hmm : n / 2 = m at *
  have HM := Lib.hid hmm
  clear hmm HQ
  have hm0 : (0 : Int) ≤ (m : Int) := by omega
  go_region_with (first
    | (go_at_call 30; refine (joined1 _ A1 m c (l.take m) _ ?_ ?_ (by omega)).mono ?_; (· simp); (· exact hl1.below (below_a1 _ _)); rintro e w1 ⟨v1, rfl, hown1⟩; have hb1 : Below w.heap.size w w1 := (below_a1 w _).trans (hown1.below.mono (by simp)); have hbl1 : b < w1.heap.size := Nat.lt_of_lt_of_le hbl hb1.size; have e1 := (hb1.cell (p := ⟨b, off + m * 2, none⟩) hbl).trans c1)
    | (go_at_call 30; refine (joined1 _ A1 m c (l.take m) _ ?_ ?_ (by omega)).mono ?_; (· simp); (· exact hl1.below (below_a2 _ _ _)); rintro e w1 ⟨v1, rfl, hown1⟩; have hb1 : Below w.heap.size w w1 := (below_a2 w _ _).trans (hown1.below.mono (by simp; omega)); have hbl1 : b < w1.heap.size := Nat.lt_of_lt_of_le hbl hb1.size; have e1 := (hb1.cell (p := ⟨b, off + m * 2, none⟩) hbl).trans c1; have f2 := hown1.below.cell (p := ⟨w.heap.size + 1, 0, none⟩) (by simp); have f3 := hown1.below.cell (p := ⟨w.heap.size, 0, none⟩) (by simp; omega); simp at f2 f3)
    | (go_at_call 30; refine (joined1 _ A2 (n - m) (c - m) (l.drop m) _ ?_ ?_ (by omega)).mono ?_; (· simp); (· exact (hl2.below hb1).alloc _); rintro e w2 ⟨v2, rfl, hown2⟩; have hb2 : Below w.heap.size w w2 := (hb1.alloc hb1.size _).trans (hown2.below.mono (by have := hb1.size; simp; omega)); have hb3 : Below w1.heap.size w1 w2 := ((Below.refl _ w1).alloc (Nat.le_refl _) _).trans (hown2.below.mono (by simp)); have hown3 := hown2.since (hb1.alloc hb1.size _); have e2 := (hb2.cell (p := ⟨b, off + m * 2, none⟩) hbl).trans c1)
    | (go_at_call 30; refine (joined1 _ A2 (n - m) (c - m) (l.drop m) _ ?_ ?_ (by omega)).mono ?_; (· first | exact f2 | exact f3); (· exact hl2.below hb1); rintro e w2 ⟨v2, rfl, hown2⟩; have hb2 : Below w.heap.size w w2 := hb1.trans (hown2.below.mono hb1.size); have hb3 : Below w1.heap.size w1 w2 := hown2.below; have hown3 := hown2.since hb1; have e2 := (hb2.cell (p := ⟨b, off + m * 2, none⟩) hbl).trans c1))
  all_goals go_wp2
  all_goals go_ret3
  all_goals refine ⟨v1, v2, ret_halves (by rw [HM.out, HK.out]), ?_, ?_⟩
  all_goals rw [HM.out]
  all_goals first
    | exact hown3
    | exact (hown1.since (below_a1 w _)).next hb3
    | exact (hown1.since (below_a2 w _ _)).next hb3
end Go.Proofs.Ytfpnchnijfhjhaa
