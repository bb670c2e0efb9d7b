/-
  Epochs that a call made itself; what its calls make of them; what the laws' Awake returns.
-/
import Derived.Test.YtcainkobdkaaeaaLim7
namespace Go.Proofs.Ytcainkobdkaaeaa
open Go.ChangeShapes Go.WideShapes Go.ChangeAt Go.RowKit
set_option linter.unusedVariables false
set_option linter.unusedSimpArgs false
set_option maxRecDepth 20000

/-- What Ready takes of a queue, and what it leaves. -/
def tk (q : List (Int × Int)) (n : Int) : Int × List (Int × Int) :=
  match q with
  | [] => (0, [])
  | p :: r => if rdy p.2 n then (p.1, r) else (0, p :: r)
theorem set_same {S : List Tq} {i : Nat} {y : Tq} (h : S[i]? = some y) : S.set i y = S := by
  apply List.ext_getElem?
  intro j
  rw [List.getElem?_set]
  by_cases e : i = j
  · subst e
    rw [if_pos rfl, if_pos (List.getElem?_eq_some_iff.1 h).1, h]
  · rw [if_neg e]
section
variable {F G : Nat → Prop} {w w' wr : World} {a i : Nat} {now t z at_ n : Int} {S S' : List Tq} {q : List (Int × Int)} {s now' : Int}
theorem rd_all (h : EpS F w a now S) (hi : S[i]? = some (s, q)) (hq : ∀ p ∈ q, -9223372036854775808 ≤ p.2) (hn : n ≤ 9223372036854775807) : Calls Try.prog 16 #[ptr a, .int .i64 (i : Int), .int .i64 n] w fun e w' => e = .returned (.int .i64 (tk q n).1) ∧ NxE F w a now (S.set i (s, (tk q n).2)) w' := by
  cases q with
  | nil =>
    refine (rd_empty h n hi).mono ?_
    rintro e w1 ⟨rfl, rfl⟩
    exact ⟨rfl, by rw [show (tk [] n).2 = [] from rfl, set_same hi]; exact NxE.same h⟩
  | cons p r =>
    cases hr : rdy p.2 n with
    | false =>
      refine (rd_wait h n hi (hq p (List.mem_cons_self ..)) hn hr).mono ?_
      rintro e w1 ⟨rfl, hb⟩
      exact ⟨by simp [tk, hr], by simp only [tk, hr, Bool.false_eq_true, if_false]; rw [set_same hi]; exact NxE.of_below h hb⟩
    | true =>
      refine (rd_take h n hi (hq p (List.mem_cons_self ..)) hn hr).mono ?_
      rintro e w1 ⟨rfl, hb⟩
      exact ⟨by simp [tk, hr], by simp only [tk, hr, if_true]; exact hb⟩

/-- Epochs of a call's own. -/
def Ow (w : World) (a : Nat) (now : Int) (S : List Tq) (wr : World) : Prop := ∃ F, EpS F wr a now S ∧ (∀ b, F b → w.heap.size ≤ b) ∧ Below w.heap.size w wr
theorem Ow.nx (h : EpS F wr a now S) (hF : ∀ b, F b → w.heap.size ≤ b) (hb : Below w.heap.size w wr) (hn : NxE F wr a now' S' w') : Ow w a now' S' w' := by
  obtain ⟨F', h1, h2, h3⟩ := hn
  refine ⟨F', h1, fun b e => ?_, hb.trans (h2.below hF hb.size)⟩
  rcases h3 b e with e | e
  · exact hF b e
  · exact Nat.le_trans hb.size e
theorem Ow.new (m : Int) (hb : Below w.heap.size w wr) : Calls Try.prog 10 #[.int .i64 m] wr fun e w' => ∃ a, e = .returned (ptr a) ∧ Ow w a 0 (List.replicate (mostOf m) (-1, [])) w' := by
  refine (new_walk m wr).mono ?_
  rintro e w1 ⟨a, F, rfl, h1, h2, h3⟩
  exact ⟨a, rfl, F, h1, fun b e => Nat.le_trans hb.size (h2 b e), hb.trans (h3.mono hb.size)⟩
theorem Ow.below (h : Ow w a now S wr) : Below w.heap.size w wr := by obtain ⟨F, h1, h2, h3⟩ := h; exact h3
theorem Ow.leave (h : Ow w a now S wr) (hi : S[i]? = some (s, q)) (hq : q.length ≤ 100000) : Calls Try.prog 15 #[ptr a, .int .i64 (i : Int), .int .i64 z, .int .i64 at_] wr fun e w' => e = .returned (.tuple #[]) ∧ Ow w a now (S.set i (s, q ++ [(z, at_)])) w' := by
  obtain ⟨F, h1, h2, h3⟩ := h
  refine (leave_yes h1 hi hq).mono ?_
  rintro e w1 ⟨rfl, hn⟩
  exact ⟨rfl, Ow.nx h1 h2 h3 hn⟩
theorem Ow.ready (h : Ow w a now S wr) (hi : S[i]? = some (s, q)) (hq : ∀ p ∈ q, -9223372036854775808 ≤ p.2) (hn : n ≤ 9223372036854775807) : Calls Try.prog 16 #[ptr a, .int .i64 (i : Int), .int .i64 n] wr fun e w' => e = .returned (.int .i64 (tk q n).1) ∧ Ow w a now (S.set i (s, (tk q n).2)) w' := by
  obtain ⟨F, h1, h2, h3⟩ := h
  refine (rd_all h1 hi hq hn).mono ?_
  rintro e w1 ⟨rfl, hn⟩
  exact ⟨rfl, Ow.nx h1 h2 h3 hn⟩
theorem Ow.say (h : Ow w a now S wr) (hi : S[i]? = some (s, q)) : Calls Try.prog 13 #[ptr a, .int .i64 (i : Int), .int .i64 z] wr fun e w' => e = .returned (.tuple #[]) ∧ Ow w a now (S.set i (z, q)) w' := by
  obtain ⟨F, h1, h2, h3⟩ := h
  refine (say_yes h1 hi).mono ?_
  rintro e w1 ⟨rfl, hn⟩
  exact ⟨rfl, Ow.nx h1 h2 h3 hn⟩
theorem Ow.swap (h : Ow w a now S wr) (hn : IntKind.i64.wrap (now + 1) = now + 1) : Calls Try.prog 12 #[ptr a, .int .i64 now] wr fun e w' => e = .returned (.bool true) ∧ Ow w a (now + 1) S w' := by
  obtain ⟨F, h1, h2, h3⟩ := h
  refine (swap_yes h1 hn).mono ?_
  rintro e w1 ⟨rfl, hn⟩
  exact ⟨rfl, Ow.nx h1 h2 h3 hn⟩
theorem Ow.swapNo (h : Ow w a now S wr) {old : Int} (hn : now ≠ old) : Calls Try.prog 12 #[ptr a, .int .i64 old] wr fun e w' => e = .returned (.bool false) ∧ wr = w' := by
  obtain ⟨F, h1, h2, h3⟩ := h
  exact swap_no h1 hn
theorem Ow.nowIs (h : Ow w a now S wr) : Calls Try.prog 19 #[ptr a] wr fun e w' => e = .returned (.int .i64 now) ∧ wr = w' := by
  obtain ⟨F, h1, h2, h3⟩ := h
  exact now_walk h1
theorem Ow.len (h : Ow w a now S wr) : Calls Try.prog 18 #[ptr a] wr fun e w' => e = .returned (.int .i64 (S.length : Int)) ∧ wr = w' := by
  obtain ⟨F, h1, h2, h3⟩ := h
  exact len_walk h1
theorem Ow.said (h : Ow w a now S wr) (hi : S[i]? = some (s, q)) : Calls Try.prog 14 #[ptr a, .int .i64 (i : Int)] wr fun e w' => e = .returned (.int .i64 s) ∧ wr = w' := by
  obtain ⟨F, h1, h2, h3⟩ := h
  exact said_yes h1 hi
theorem Ow.limbo (h : Ow w a now S wr) (hS : Few S) : Calls Try.prog 20 #[ptr a] wr fun e w' => e = .returned (.int .i64 (tot S : Int)) ∧ wr = w' := by
  obtain ⟨F, h1, h2, h3⟩ := h
  exact limbo_walk h1 hS
theorem Ow.sayNo (h : Ow w a now S wr) (ht : t < 0 ∨ (S.length : Int) ≤ t) : Calls Try.prog 13 #[ptr a, .int .i64 t, .int .i64 z] wr fun e w' => e = .returned (.tuple #[]) ∧ wr = w' := by
  obtain ⟨F, h1, h2, h3⟩ := h
  exact say_no h1 ht
theorem Ow.saidNo (h : Ow w a now S wr) (ht : t < 0 ∨ (S.length : Int) ≤ t) : Calls Try.prog 14 #[ptr a, .int .i64 t] wr fun e w' => e = .returned (.int .i64 (-1)) ∧ wr = w' := by
  obtain ⟨F, h1, h2, h3⟩ := h
  exact said_no h1 ht
theorem Ow.leaveNo (h : Ow w a now S wr) (ht : t < 0 ∨ (S.length : Int) ≤ t) : Calls Try.prog 15 #[ptr a, .int .i64 t, .int .i64 z, .int .i64 at_] wr fun e w' => e = .returned (.tuple #[]) ∧ wr = w' := by
  obtain ⟨F, h1, h2, h3⟩ := h
  exact leave_no h1 ht
end
/-- Where one of few threads is another one, there are few still. -/
theorem Few.set {S : List Tq} (h : Few S) (i : Nat) {y : Tq} (hy : y.2.length ≤ 1000) : Few (S.set i y) := by
  refine ⟨by rw [List.length_set]; exact h.1, fun x hx => ?_⟩
  rcases List.mem_or_eq_of_mem_set hx with hx | rfl
  · exact h.2 x hx
  · exact hy
theorem few_new (m : Int) (s : Int) : Few (List.replicate (mostOf m) (s, [])) := by
  refine ⟨by rw [List.length_replicate]; exact mostOf_le m, fun x hx => ?_⟩
  rw [List.mem_replicate] at hx
  rw [hx.2]; simp

set_option maxHeartbeats 1000000 in
theorem awake_walk (w : World) : Calls Try.prog 9 #[] w fun e w' => e = .returned (.bool true) ∧ Below w.heap.size w w' := by
  go_enter Try.func9, Try.ntmps9
  go_wp2_with fail
  refine (Ow.new (w := w) 1 (Below.refl _ _)).mono ?_
  rintro e w1 ⟨a, rfl, h1⟩
  have H1 : Hid (Ow w a 0 [(-1, [])] w1) := h1
  clear h1
  go_wp2_with fail
  refine (H1.out.leave (i := 0) (s := -1) (q := []) rfl (by simp)).mono ?_
  rintro e w2 ⟨rfl, h2⟩
  have H2 : Hid (Ow w a 0 [(-1, [(9, 2)])] w2) := h2
  clear h2 H1
  go_wp2_with fail
  refine (H2.out.said (i := 0) (s := -1) (q := [(9, 2)]) rfl).mono ?_
  rintro e w3 ⟨rfl, rfl⟩
  go_wp2_with fail
  refine (H2.out.ready (i := 0) (s := -1) (q := [(9, 2)]) (n := 4) rfl (by simp) (by omega)).mono ?_
  rintro e w3 ⟨rfl, h3⟩
  have H3 : Hid (Ow w a 0 [(-1, [(9, 2)])] w3) := h3
  clear h3 H2
  rw [show (tk [(9, 2)] 4).1 = 0 from by decide]
  go_wp2_with fail
  refine (H3.out.limbo (by refine ⟨by simp, ?_⟩; simp)).mono ?_
  rintro e w4 ⟨rfl, rfl⟩
  rw [show tot [(-1, [(9, 2)])] = 1 from rfl]
  go_wp2_with fail
  refine (H3.out.ready (i := 0) (s := -1) (q := [(9, 2)]) (n := 5) rfl (by simp) (by omega)).mono ?_
  rintro e w4 ⟨rfl, h4⟩
  have H4 : Hid (Ow w a 0 [(-1, [])] w4) := h4
  clear h4 H3
  rw [show (tk [(9, 2)] 5).1 = 9 from by decide]
  go_wp2_with fail
  refine (H4.out.limbo (by refine ⟨by simp, ?_⟩; simp)).mono ?_
  rintro e w5 ⟨rfl, rfl⟩
  rw [show tot [(-1, [])] = 0 from rfl]
  go_wp2
  go_ret
  exact ⟨rfl, H4.out.below⟩
end Go.Proofs.Ytcainkobdkaaeaa
