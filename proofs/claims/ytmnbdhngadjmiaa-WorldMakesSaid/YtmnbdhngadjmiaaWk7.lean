/-
  What epoch's Now, Swap, Len, thread, Say, Said, Leave, ready and Ready return, and what the epochs are behind them.
-/
import Derived.Test.YtmnbdhngadjmiaaEp7
import Derived.WalkLawsBesides
namespace Go.Proofs.Ytmnbdhngadjmiaa
open Go.ChangeShapes Go.WideShapes Go.ChangeAt Go.RowKit
set_option linter.unusedVariables false
set_option linter.unusedSimpArgs false
set_option maxRecDepth 20000

section
variable {F G : Nat → Prop} {w w' : World} {a i : Nat} {now : Int} {S : List Tq} {l : List (Tq × Value)} {T : Value} {x : Tq × Value}
theorem now_walk (h : EpS F w a now S) : Calls Try.prog 20 #[ptr a] w fun e w' => e = .returned (.int .i64 now) ∧ w = w' := by
  obtain ⟨l, T, h, -⟩ := h
  obtain ⟨c0, c1⟩ := h.cells
  clear h c1
  go_enter Try.func20, Try.ntmps20
  go_wp2
  go_ret
  exact ⟨rfl, rfl⟩
theorem now_nil (w : World) : Calls Try.prog 20 #[nilp] w fun e w' => e = .returned (.int .i64 0) ∧ w = w' := by
  go_enter Try.func20, Try.ntmps20
  go_wp2
  go_ret
  exact ⟨rfl, rfl⟩
theorem swap_yes (h : EpS F w a now S) (hn : IntKind.i64.wrap (now + 1) = now + 1) : Calls Try.prog 22 #[ptr a, .int .i64 now] w fun e w' => e = .returned (.bool true) ∧ NxE F w a (now + 1) S w' := by
  obtain ⟨l, T, h, hS⟩ := h
  obtain ⟨c0, c1⟩ := h.cells
  have f0 := h.free 0
  have HE : Hid (NxE F w a (now + 1) S (w.setCell ⟨a, 0, none⟩ (.int .i64 (now + 1)))) := ⟨F, ⟨l, T, (h.next _).1, hS⟩, (h.next _).2, fun _ e => .inl e⟩
  clear h c1 hS
  go_enter Try.func22, Try.ntmps22
  go_wp2
  go_ret
  exact ⟨rfl, HE.out⟩
theorem swap_no (h : EpS F w a now S) {old : Int} (hn : now ≠ old) : Calls Try.prog 22 #[ptr a, .int .i64 old] w fun e w' => e = .returned (.bool false) ∧ w = w' := by
  obtain ⟨l, T, h, hS⟩ := h
  obtain ⟨c0, c1⟩ := h.cells
  have hb : (now == old) = false := by simpa using hn
  have hb2 : (now != old) = true := by simpa using hn
  clear h c1 hS
  go_enter Try.func22, Try.ntmps22
  go_wp2
  go_ret
  exact ⟨rfl, rfl⟩
theorem swap_nil (w : World) (old : Int) : Calls Try.prog 22 #[nilp, .int .i64 old] w fun e w' => e = .returned (.bool false) ∧ w = w' := by
  go_enter Try.func22, Try.ntmps22
  go_wp2
  go_ret
  exact ⟨rfl, rfl⟩
theorem len_l (h : Ep F w a now l T) : Calls Try.prog 19 #[ptr a] w fun e w' => e = .returned (.int .i64 (l.length : Int)) ∧ w = w' := by
  obtain ⟨c0, c1⟩ := h.cells
  obtain ⟨A, c, rfl⟩ := h.qs.shape
  clear h c0
  go_enter Try.func19, Try.ntmps19
  go_wp2
  go_ret
  exact ⟨rfl, rfl⟩
theorem len_walk (h : EpS F w a now S) : Calls Try.prog 19 #[ptr a] w fun e w' => e = .returned (.int .i64 (S.length : Int)) ∧ w = w' := by
  obtain ⟨l, T, h, rfl⟩ := h
  rw [List.length_map]
  exact len_l h
theorem len_nil (w : World) : Calls Try.prog 19 #[nilp] w fun e w' => e = .returned (.int .i64 0) ∧ w = w' := by
  go_enter Try.func19, Try.ntmps19
  go_wp2
  go_ret
  exact ⟨rfl, rfl⟩
theorem thread_nil (w : World) (t : Int) : Calls Try.prog 54 #[nilp, .int .i64 t] w fun e w' => e = .returned nilp ∧ w = w' := by
  by_cases h0 : t < 0
  · go_enter Try.func54, Try.ntmps54
    go_wp2
    go_ret
    exact ⟨rfl, rfl⟩
  · have h1 : 0 ≤ t := by omega
    have h2 : decide (t < 0) = false := by simpa using h0
    go_enter Try.func54, Try.ntmps54
    go_wp2_with fail
    refine (len_nil _).mono ?_
    rintro e w1 ⟨rfl, rfl⟩
    go_wp2
    go_ret
    exact ⟨rfl, rfl⟩
theorem thread_no (h : Ep F w a now l T) {t : Int} (ht : t < 0 ∨ (l.length : Int) ≤ t) : Calls Try.prog 54 #[ptr a, .int .i64 t] w fun e w' => e = .returned nilp ∧ w = w' := by
  have hl := Lib.hid (len_l h)
  clear h
  by_cases h0 : t < 0
  · go_enter Try.func54, Try.ntmps54
    go_wp2
    go_ret
    exact ⟨rfl, rfl⟩
  · have h1 : 0 ≤ t := by omega
    have h2 : decide (t < 0) = false := by simpa using h0
    have h3 : (l.length : Int) ≤ t := by omega
    generalize l.length = n at *
    clear ht
    go_enter Try.func54, Try.ntmps54
    go_wp2_with fail
    refine hl.out.mono ?_
    rintro e w1 ⟨rfl, rfl⟩
    go_wp2
    go_ret
    exact ⟨rfl, rfl⟩
theorem thread_yes (h : Ep F w a now l T) (hi : i < l.length) {g c : Nat} (hT : T = .slice (some ⟨g, 0, none⟩) l.length c) : Calls Try.prog 54 #[ptr a, .int .i64 (i : Int)] w fun e w' => e = .returned (.pointer (some ⟨g, i * 2, none⟩)) ∧ w = w' := by
  obtain ⟨c0, c1⟩ := h.cells
  have hl := Lib.hid (len_l h)
  subst hT
  clear h c0
  generalize l.length = n at *
  have i0 : (0 : Int) ≤ (i : Int) := by omega
  have i1 : (i : Int) < (n : Int) := by omega
  go_enter Try.func54, Try.ntmps54
  go_wp2_with fail
  refine hl.out.mono ?_
  rintro e w1 ⟨rfl, rfl⟩
  go_wp2
  go_ret
  exact ⟨rfl, rfl⟩
end

section
variable {F G : Nat → Prop} {w w' : World} {a i : Nat} {now t z : Int} {S : List Tq} {q : List (Int × Int)} {s : Int}
theorem EpS.at_ (h : EpS F w a now S) {y : Tq} (hi : S[i]? = some y) : ∃ l T x, Ep F w a now l T ∧ S = l.map (·.1) ∧ l[i]? = some x ∧ x.1 = y := by
  obtain ⟨l, T, h, rfl⟩ := h
  rw [List.getElem?_map] at hi
  cases e : l[i]? with
  | none => rw [e] at hi; cases hi
  | some x => rw [e] at hi; exact ⟨l, T, x, h, rfl, e, by simpa using hi⟩
theorem say_no (h : EpS F w a now S) (ht : t < 0 ∨ (S.length : Int) ≤ t) : Calls Try.prog 23 #[ptr a, .int .i64 t, .int .i64 z] w fun e w' => e = .returned (.tuple #[]) ∧ w = w' := by
  obtain ⟨l, T, h, rfl⟩ := h
  rw [List.length_map] at ht
  have ht := thread_no h ht
  clear h
  go_enter Try.func23, Try.ntmps23
  go_wp2_with fail
  refine ht.mono ?_
  rintro e w1 ⟨rfl, rfl⟩
  go_wp2
  ((try simp only [Exit.inBlock, Exit.then]); refine bodyPost_end (results_none rfl _ _ _) rfl ?_)
  exact ⟨rfl, rfl⟩
theorem say_nil (w : World) (t z : Int) : Calls Try.prog 23 #[nilp, .int .i64 t, .int .i64 z] w fun e w' => e = .returned (.tuple #[]) ∧ w = w' := by
  go_enter Try.func23, Try.ntmps23
  go_wp2_with fail
  refine (thread_nil _ _).mono ?_
  rintro e w1 ⟨rfl, rfl⟩
  go_wp2
  ((try simp only [Exit.inBlock, Exit.then]); refine bodyPost_end (results_none rfl _ _ _) rfl ?_)
  exact ⟨rfl, rfl⟩
theorem say_yes (h : EpS F w a now S) (hi : S[i]? = some (s, q)) : Calls Try.prog 23 #[ptr a, .int .i64 (i : Int), .int .i64 z] w fun e w' => e = .returned (.tuple #[]) ∧ NxE F w a now (S.set i (z, q)) w' := by
  obtain ⟨l, T, x, k, rfl, hx, hxy⟩ := h.at_ hi
  clear h
  obtain ⟨g, c, hT, -, -, hil, c0, c1, hf⟩ := k.at_ hx
  have ht := Lib.hid (thread_yes k hil hT)
  have h2 := k.said hx z hT
  rw [hxy] at h2
  have HE : Hid (NxE F w a now ((l.map (·.1)).set i (z, q)) (w.setCell ⟨g, i * 2, none⟩ (.int .i64 z))) := ⟨F, ⟨_, _, h2.1, by rw [List.map_set]⟩, h2.2, fun _ e => .inl e⟩
  have f0 := hf (i * 2)
  clear k h2 hi hx hxy hf c1 hT hil
  go_enter Try.func23, Try.ntmps23
  go_wp2_with fail
  refine ht.out.mono ?_
  rintro e w1 ⟨rfl, rfl⟩
  go_wp2
  ((try simp only [Exit.inBlock, Exit.then]); refine bodyPost_end (results_none rfl _ _ _) rfl ?_)
  exact ⟨rfl, HE.out⟩
theorem said_no (h : EpS F w a now S) (ht : t < 0 ∨ (S.length : Int) ≤ t) : Calls Try.prog 28 #[ptr a, .int .i64 t] w fun e w' => e = .returned (.int .i64 (-1)) ∧ w = w' := by
  obtain ⟨l, T, h, rfl⟩ := h
  rw [List.length_map] at ht
  have ht := thread_no h ht
  clear h
  go_enter Try.func28, Try.ntmps28
  go_wp2_with fail
  refine ht.mono ?_
  rintro e w1 ⟨rfl, rfl⟩
  go_wp2
  go_ret
  exact ⟨rfl, rfl⟩
theorem said_nil (w : World) (t : Int) : Calls Try.prog 28 #[nilp, .int .i64 t] w fun e w' => e = .returned (.int .i64 (-1)) ∧ w = w' := by
  go_enter Try.func28, Try.ntmps28
  go_wp2_with fail
  refine (thread_nil _ _).mono ?_
  rintro e w1 ⟨rfl, rfl⟩
  go_wp2
  go_ret
  exact ⟨rfl, rfl⟩
theorem said_yes (h : EpS F w a now S) (hi : S[i]? = some (s, q)) : Calls Try.prog 28 #[ptr a, .int .i64 (i : Int)] w fun e w' => e = .returned (.int .i64 s) ∧ w = w' := by
  obtain ⟨l, T, x, k, rfl, hx, hxy⟩ := h.at_ hi
  clear h
  obtain ⟨g, c, hT, -, -, hil, c0, c1, hf⟩ := k.at_ hx
  have ht := Lib.hid (thread_yes k hil hT)
  rw [hxy] at c0
  clear k hi hx hxy hf c1 hT hil
  go_enter Try.func28, Try.ntmps28
  go_wp2_with fail
  refine ht.out.mono ?_
  rintro e w1 ⟨rfl, rfl⟩
  go_wp2
  go_ret
  exact ⟨rfl, rfl⟩
end
end Go.Proofs.Ytmnbdhngadjmiaa
