/-
  What leaf's Get, Put, Cut, Halves and Join return, of pairs whose keys rise (Halves, Join: of any): new memory each time, and nothing that was there has changed.
-/
import Derived.Test.YtfpnchnijfhjhaaPlace
import Derived.Test.YtfpnchnijfhjhaaJoined
import Derived.Deep.RegionWith
import Derived.StillTailTactics
import Derived.IntWalk
namespace Go.Proofs.Ytfpnchnijfhjhaa
open Go.ChangeShapes Go.WideShapes Go.ChangeAt Go.RowKit
set_option linter.unusedVariables false

/-- 'l[k:]': its address under one name. -/
theorem cut_from {w : World} {A : Option Addr} {n c : Nat} {l : List (Int × Int)} (h : Lf w A n l) (k : Nat) (hk : k ≤ n) (hc : n ≤ c) :
    ∃ A' : Option Addr, Lf w A' (n - k) (l.drop k) ∧ ∀ W : World, (Instr.slice 25 (.slice A n c) (some (.int .i64 (k : Int))) none none).run Try.prog W = .ok (.slice A' (n - k) (c - k)) W := by
  refine ⟨_, h.from_ hk hc, fun W => ?_⟩
  rw [run_slice_l (P := Try.prog) (t := 25) _ _ _ _ Try.underlying25 .i64 (k : Int) (by omega) (by omega)]
  have hsz : (sizeOf (Try.prog.elem 25)).run Try.prog W = .ok 2 W := by kernel_rfl
  rw [hsz]
  simp [Result.andThen, sliced]

/-- 'l[:k]'. -/
theorem cut_upto {w : World} {A : Option Addr} {n c : Nat} {l : List (Int × Int)} (h : Lf w A n l) (k : Nat) (hk : k ≤ n) (hc : n ≤ c) :
    ∃ A' : Option Addr, Lf w A' k (l.take k) ∧ ∀ W : World, (Instr.slice 25 (.slice A n c) none (some (.int .i64 (k : Int))) none).run Try.prog W = .ok (.slice A' k c) W := by
  refine ⟨A, h.upto hk, fun W => ?_⟩
  rw [run_slice_h (P := Try.prog) (t := 25) _ _ _ _ Try.underlying25 .i64 (k : Int) (by omega) (by omega)]
  have hsz : (sizeOf (Try.prog.elem 25)).run Try.prog W = .ok 2 W := by kernel_rfl
  rw [hsz]
  have e : A.map (fun x => x.add 0) = A := by cases A <;> simp [Addr.add]
  simp [Result.andThen, sliced, e]

theorem pts3 (W : World) (A1 A2 A3 : Option Addr) (n1 n2 n3 c1 c2 c3 : Nat) (l1 l2 l3 : List (Int × Int)) (h1 : Lf W A1 n1 l1) (h2 : Lf W A2 n2 l2) (h3 : Lf W A3 n3 l3) :
    Pts (W.alloc (.cells #[.slice A1 n1 c1, .slice A2 n2 c2, .slice A3 n3 c3] 25)) W.heap.size [(A1, n1, c1, l1), (A2, n2, c2, l2), (A3, n3, c3, l3)] := by
  intro j p hj
  match j, hj with
  | 0, hj => simp at hj; subst hj; exact ⟨by simp, h1.alloc _⟩
  | 1, hj => simp at hj; subst hj; exact ⟨by simp, h2.alloc _⟩
  | 2, hj => simp at hj; subst hj; exact ⟨by simp, h3.alloc _⟩
theorem pts2 (W : World) (A1 A2 : Option Addr) (n1 n2 c1 c2 : Nat) (l1 l2 : List (Int × Int)) (h1 : Lf W A1 n1 l1) (h2 : Lf W A2 n2 l2) :
    Pts (W.alloc (.cells #[.slice A1 n1 c1, .slice A2 n2 c2] 25)) W.heap.size [(A1, n1, c1, l1), (A2, n2, c2, l2)] := by
  intro j p hj
  match j, hj with
  | 0, hj => simp at hj; subst hj; exact ⟨by simp, h1.alloc _⟩
  | 1, hj => simp at hj; subst hj; exact ⟨by simp, h2.alloc _⟩
theorem pts1 (W : World) (A1 : Option Addr) (n1 c1 : Nat) (l1 : List (Int × Int)) (h1 : Lf W A1 n1 l1) :
    Pts (W.alloc (.cells #[.slice A1 n1 c1] 25)) W.heap.size [(A1, n1, c1, l1)] := by
  intro j p hj
  match j, hj with
  | 0, hj => simp at hj; subst hj; exact ⟨by simp, h1.alloc _⟩
theorem Pts.drewN {w : World} {g : Nat} {ps : List Part} (h : Pts w g ps) (q : Nat) : Pts (w.drewN q) g ps := h
theorem Pts.drew {w : World} {g : Nat} {ps : List Part} (h : Pts w g ps) : Pts w.drew g ps := h

set_option maxHeartbeats 1000000 in
theorem get_walk (A : Option Addr) (n c : Nat) (l : List (Int × Int)) (x : Int) (w : World) (h : Lf w A n l) (ha : Asc l) (hn : n ≤ 100000) :
    Calls Try.prog 15 #[.slice A n c, .int .i64 x] w fun e w' => e = .returned (.tuple #[.int .i64 (valL l x), .bool (hasL l x)]) ∧ Below w.heap.size w w' := by
  go_enter Try.func15, Try.ntmps15
  go_wp2_with fail
  refine (place_walk A n c l x w h ha hn).mono ?_
  rintro e w1 ⟨rfl, hb⟩
  cases hh : hasL l x with
  | false =>
    have HV := Lib.hid (val_none hh)
    have HH := Lib.hid hh
    clear hh
    go_wp2
    go_ret2
    exact ⟨ret_two HV.out.symm HH.out.symm, hb⟩
  | true =>
    obtain ⟨hl, hk, hv⟩ := val_at x hh
    obtain ⟨b, off, rfl, hbl, c1, c2⟩ := h.at_ hl
    have d2 := (hb.cell (p := ⟨b, off + lo l x * 2 + 1, none⟩) hbl).trans c2
    rw [hv] at d2
    have HH := Lib.hid hh
    have hm0 : (0 : Int) ≤ (lo l x : Nat) := by omega
    have hm1 : ((lo l x : Nat) : Int) < (n : Int) := by have := h.len; omega
    clear hh hk hv c1 c2 h hl
    generalize hm : lo l x = m at *
    clear hm
    generalize hvv : valL l x = v at *
    have HV := Lib.hid hvv
    clear hvv
    go_wp2
    go_ret2
    exact ⟨ret_two HV.out.symm HH.out.symm, hb⟩

set_option maxHeartbeats 1000000 in
theorem join_walk (A B : Option Addr) (n m c d : Nat) (l o : List (Int × Int)) (w : World) (h : Lf w A n l) (h' : Lf w B m o) (hn : n + m ≤ 100000) :
    Calls Try.prog 23 #[.slice A n c, .slice B m d] w fun e w' => ∃ v, e = .returned v ∧ Own w w' v (l ++ o) := by
  go_enter Try.func23, Try.ntmps23
  go_wp2_with fail
  refine (joined_walk w.heap.size 2 2 _ _ (pts2 w A B n m c d l o h h') rfl (by simp [catL]; have := h.len; have := h'.len; omega) (by omega)).mono ?_
  rintro e w1 ⟨v, rfl, hown⟩
  go_wp2
  go_ret
  refine ⟨v, rfl, ?_⟩
  have := hown.since ((Below.refl _ w).alloc (Nat.le_refl _) _)
  simpa [catL] using this

theorem lf_one {W : World} {g : Nat} {x y : Int} (h1 : W.cell? ⟨g, 0, none⟩ = some (.int .i64 x)) (h2 : W.cell? ⟨g, 1, none⟩ = some (.int .i64 y)) : Lf W (some ⟨g, 0, none⟩) 1 [(x, y)] := by
  refine ⟨rfl, .inr ⟨g, 0, rfl, fun j u hj => ?_⟩⟩
  match j, hj with
  | 0, hj => simp [cellsP] at hj; subst hj; exact h1
  | 1, hj => simp [cellsP] at hj; subst hj; exact h2

theorem ret_three {v : Value} {a b : Int} {p q : Bool} (h : a = b) (k : p = q) : Ending.returned (.tuple #[v, .int .i64 a, .bool p]) = .returned (.tuple #[v, .int .i64 b, .bool q]) := by rw [h, k]

set_option maxHeartbeats 1000000 in
theorem put_walk (A : Option Addr) (n c : Nat) (l : List (Int × Int)) (x y : Int) (w : World) (h : Lf w A n l) (ha : Asc l) (hn : n ≤ 50000) (hc : n ≤ c) :
    Calls Try.prog 17 #[.slice A n c, .int .i64 x, .int .i64 y] w fun e w' => ∃ v, e = .returned (.tuple #[v, .int .i64 (valL l x), .bool (hasL l x)]) ∧ Own w w' v (putL l x y) := by
  go_enter Try.func17, Try.ntmps17
  go_wp2_with fail
  refine (place_walk A n c l x _ (h.alloc _) ha (by omega)).mono ?_
  rintro e w1 ⟨rfl, hb⟩
  have hb0 : Below w.heap.size w w1 := ((Below.refl _ w).alloc (Nat.le_refl _) _).trans (hb.mono (by simp))
  have hlf := h.below hb0
  have hl0 : Lf w1 (some ⟨w.heap.size, 0, none⟩) 1 [(x, y)] := lf_one ((hb.cell (p := ⟨w.heap.size, 0, none⟩) (by simp)).trans (by simp)) ((hb.cell (p := ⟨w.heap.size, 1, none⟩) (by simp)).trans (by simp))
  have hlo : lo l x ≤ n := by have := lo_le l x; have := h.len; omega
  have hln : Hid (n = l.length) := h.len
  have hs1 := hb0.size
  cases hh : hasL l x with
  | false =>
    have HV := Lib.hid (val_none hh)
    have HP : Hid (putL l x y = l.take (lo l x) ++ (x, y) :: l.drop (lo l x)) := by show _ = _; rw [putL_eq ha, hh]; simp
    have HH := Lib.hid hh
    obtain ⟨A1, hl1, hr1⟩ := cut_upto (c := c) hlf (lo l x) hlo hc
    obtain ⟨A2, hl2, hr2⟩ := cut_from (c := c) hlf (lo l x) hlo hc
    clear hh hlf h
    generalize lo l x = m at *
    go_wp2
    go_region_with (go_at_call 30; refine (joined_walk w1.heap.size 3 3 _ _ (Pts.drew (pts3 w1 A1 (some ⟨w.heap.size, 0, none⟩) A2 m 1 (n - m) c 1 (c - m) (l.take m) [(x, y)] (l.drop m) hl1 hl0 hl2)) rfl (by simp [catL]; have := hln.out; omega) (by omega)).mono ?_; rintro e w2 ⟨v, rfl, hown⟩)
    go_wp2
    go_ret3
    refine ⟨v, ret_three HV.out.symm HH.out.symm, ?_⟩
    have := hown.since ((hb0.alloc hs1 _).drew)
    rw [HP.out]
    simpa [catL] using this
  | true =>
    obtain ⟨hl, hk, hv⟩ := val_at x hh
    obtain ⟨b, off, rfl, hbl, c1, c2⟩ := h.at_ hl
    have d2 := (hb0.cell (p := ⟨b, off + lo l x * 2 + 1, none⟩) hbl).trans c2
    rw [hv] at d2
    have hbl1 : b < w1.heap.size := by omega
    have hm0 : (0 : Int) ≤ (lo l x : Nat) := by omega
    have hm1 : ((lo l x : Nat) : Int) < (n : Int) := by have := h.len; omega
    have hm2 : (((lo l x + 1 : Nat)) : Int) = ((lo l x : Nat) : Int) + 1 := by omega
    have HP : Hid (putL l x y = l.take (lo l x) ++ (x, y) :: l.drop (lo l x + 1)) := by show _ = _; rw [putL_eq ha, hh]; simp
    have HH := Lib.hid hh
    obtain ⟨A1, hl1, hr1⟩ := cut_upto (c := c) hlf (lo l x) hlo hc
    obtain ⟨A2, hl2, hr2⟩ := cut_from (c := c) hlf (lo l x + 1) (by omega) hc
    rw [hm2] at hr2
    have hwr : IntKind.i64.wrap (((lo l x : Nat) : Int) + 1) = ((lo l x : Nat) : Int) + 1 := IntWalk.i64_in _ (by omega)
    clear hh hlf h hm2 hk hv c1 c2 hl
    generalize hvv : valL l x = vv at *
    have HV := Lib.hid hvv
    clear hvv
    generalize lo l x = m at *
    go_wp2
    go_region_with (go_at_call 30; refine (joined_walk w1.heap.size 3 3 _ _ (Pts.drew (pts3 w1 A1 (some ⟨w.heap.size, 0, none⟩) A2 m 1 (n - (m + 1)) c 1 (c - (m + 1)) (l.take m) [(x, y)] (l.drop (m + 1)) hl1 hl0 hl2)) rfl (by simp [catL]; have := hln.out; omega) (by omega)).mono ?_; rintro e w2 ⟨v, rfl, hown⟩; have d3 := (hown.below.cell (p := ⟨b, off + m * 2 + 1, none⟩) (by simp; omega)))
    all_goals go_wp2
    all_goals go_ret3
    all_goals refine ⟨v, ret_three HV.out.symm HH.out.symm, ?_⟩
    all_goals rw [HP.out]
    all_goals have := hown.since ((hb0.alloc hs1 _).drew)
    all_goals simpa [catL] using this

set_option maxHeartbeats 1000000 in
theorem cut_walk (A : Option Addr) (n c : Nat) (l : List (Int × Int)) (x : Int) (w : World) (h : Lf w A n l) (ha : Asc l) (hn : n ≤ 50000) (hc : n ≤ c) :
    Calls Try.prog 20 #[.slice A n c, .int .i64 x] w fun e w' => ∃ v, e = .returned (.tuple #[v, .int .i64 (valL l x), .bool (hasL l x)]) ∧ Own w w' v (cutL l x) := by
  go_enter Try.func20, Try.ntmps20
  go_wp2_with fail
  refine (place_walk A n c l x _ h ha (by omega)).mono ?_
  rintro e w1 ⟨rfl, hb0⟩
  have hlf := h.below hb0
  have hlo : lo l x ≤ n := by have := lo_le l x; have := h.len; omega
  have hln : Hid (n = l.length) := h.len
  have hs1 := hb0.size
  cases hh : hasL l x with
  | false =>
    have HV := Lib.hid (val_none hh)
    have HP : Hid (cutL l x = l) := by show _ = _; rw [cutL_eq ha, hh]; simp
    have HH := Lib.hid hh
    clear hh h
    go_wp2_with fail
    refine (joined_walk w1.heap.size 1 1 _ _ (pts1 w1 A n c l hlf) rfl (by simp [catL]; have := hln.out; omega) (by omega)).mono ?_
    rintro e w2 ⟨v, rfl, hown⟩
    go_wp2
    go_ret3
    refine ⟨v, ret_three HV.out.symm HH.out.symm, ?_⟩
    have := hown.since (hb0.alloc hs1 _)
    rw [HP.out]
    simpa [catL] using this
  | true =>
    obtain ⟨hl, hk, hv⟩ := val_at x hh
    obtain ⟨b, off, rfl, hbl, c1, c2⟩ := h.at_ hl
    have d2 := (hb0.cell (p := ⟨b, off + lo l x * 2 + 1, none⟩) hbl).trans c2
    rw [hv] at d2
    have hbl1 : b < w1.heap.size := by omega
    have hm0 : (0 : Int) ≤ (lo l x : Nat) := by omega
    have hm1 : ((lo l x : Nat) : Int) < (n : Int) := by have := h.len; omega
    have hm2 : (((lo l x + 1 : Nat)) : Int) = ((lo l x : Nat) : Int) + 1 := by omega
    have HP : Hid (cutL l x = l.take (lo l x) ++ l.drop (lo l x + 1)) := by show _ = _; rw [cutL_eq ha, hh]; simp
    have HH := Lib.hid hh
    obtain ⟨A1, hl1, hr1⟩ := cut_upto (c := c) hlf (lo l x) hlo hc
    obtain ⟨A2, hl2, hr2⟩ := cut_from (c := c) hlf (lo l x + 1) (by omega) hc
    rw [hm2] at hr2
    have hwr : IntKind.i64.wrap (((lo l x : Nat) : Int) + 1) = ((lo l x : Nat) : Int) + 1 := IntWalk.i64_in _ (by omega)
    clear hh hlf h hm2 hk hv c1 c2 hl
    generalize hvv : valL l x = vv at *
    have HV := Lib.hid hvv
    clear hvv
    generalize lo l x = m at *
    go_wp2
    go_region_with (go_at_call 30; refine (joined_walk w1.heap.size 2 2 _ _ (Pts.drew (pts2 w1 A1 A2 m (n - (m + 1)) c (c - (m + 1)) (l.take m) (l.drop (m + 1)) hl1 hl2)) rfl (by simp [catL]; have := hln.out; omega) (by omega)).mono ?_; rintro e w2 ⟨v, rfl, hown⟩; have d3 := (hown.below.cell (p := ⟨b, off + m * 2 + 1, none⟩) (by simp; omega)))
    all_goals go_wp2
    all_goals go_ret3
    all_goals refine ⟨v, ret_three HV.out.symm HH.out.symm, ?_⟩
    all_goals rw [HP.out]
    all_goals have := hown.since ((hb0.alloc hs1 _).drew)
    all_goals simpa [catL] using this
end Go.Proofs.Ytfpnchnijfhjhaa
