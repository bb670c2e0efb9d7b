/-
  What thread's Out, atWork, next, Do and Ask return, and what the thread is behind them.
-/
import Derived.Test.YtmnbdhngadjmiaaTh6
import Derived.WalkLawsBesides
namespace Go.Proofs.Ytmnbdhngadjmiaa
open Go.ChangeShapes Go.WideShapes Go.ChangeAt Go.RowKit
set_option linter.unusedVariables false
set_option linter.unusedSimpArgs false
set_option maxRecDepth 20000

abbrev waitV : Value := .iface 131 (.agg #[])
abbrev waitE : List PanicEntry := [{ v := waitV, recovered := false }]
section
variable {F G : Nat → Prop} {w w' : World} {a st ph k : Nat} {zs os : List Int} {wk T O : Value}
theorem out_walk (h : Th F w a wk zs st O os ph k T) (hl : os.length ≤ 1000) : Calls Try.prog 55 #[ptr a] w (Made 2 w os) := by
  obtain ⟨c0, c1, c2, c3, c4, c5⟩ := h.cells
  obtain ⟨A, n, c, rfl⟩ := h.out.shape
  have hs := h.out.sl
  clear h c1 c0 c2 c4 c5
  obtain ⟨W, hW, hb, hc⟩ : ∃ W : World, w.alloc (.cells #[.slice A n c] 37) = W ∧ Below w.heap.size w W ∧ W.cell? ⟨w.heap.size, 0, none⟩ = some (.slice A n c) := ⟨_, rfl, below_new _ _, c_new rfl rfl⟩
  have hs2 := hs.below hb
  have hcc := (concatK1 w.heap.size A n c os W hc hs2 hl)
  clear hs hs2
  go_enter Try.func55, Try.ntmps55
  go_wp2_with fail
  (try rw [hW])
  refine hcc.mono ?_
  rintro e w1 ⟨v, rfl, hr, hb1⟩
  go_wp2
  go_ret
  exact ⟨v, rfl, hr.lower hb.size, hb.trans (hb1.mono hb.size)⟩

theorem atWork_walk (h : Th F w a wk zs st O os ph k T) (hp : ph < 200) : Calls Try.prog 76 #[ptr a] w fun e w' => e = .returned (.bool (decide (ph ≠ 0 ∧ ph ≠ 2))) ∧ w = w' := by
  obtain ⟨c0, c1, c2, c3, c4, c5⟩ := h.cells
  clear h c1 c0 c2 c3 c5
  by_cases h0 : ph = 0
  · subst h0
    go_enter Try.func76, Try.ntmps76
    go_wp2
    go_ret
    exact ⟨rfl, rfl⟩
  · by_cases h2 : ph = 2
    · subst h2
      go_enter Try.func76, Try.ntmps76
      go_wp2
      go_ret
      exact ⟨rfl, rfl⟩
    · have e : decide (ph ≠ 0 ∧ ph ≠ 2) = true := by simp [h0, h2]
      rw [e]
      have e0 : ¬ (ph : Int) = 0 := by omega
      have e2 : ¬ (ph : Int) = 2 := by omega
      generalize (ph : Int) = p at *
      go_enter Try.func76, Try.ntmps76
      go_wp2
      go_ret
      exact ⟨by simp [e0, e2], rfl⟩
theorem atWork_nil (w : World) : Calls Try.prog 76 #[nilp] w fun e w' => e = .returned (.bool false) ∧ w = w' := by
  go_enter Try.func76, Try.ntmps76
  go_wp2
  go_ret
  exact ⟨rfl, rfl⟩

/-- next, where this Step has had its touch: work waits. -/
theorem next_wait (h : Th F w a wk zs st O os 3 k T) (fv : Value) : Calls Try.prog 77 #[ptr a, fv] w fun e w' => e = .panicked waitE ∧ w' = w.setCell ⟨a, 4, none⟩ (.int .u8 4) := by
  obtain ⟨c0, c1, c2, c3, c4, c5⟩ := h.cells
  have f4 := h.free 4
  clear h c1 c0 c2 c3 c5
  go_enter Try.func77, Try.ntmps77
  go_wp2
  exact ⟨rfl, rfl, rfl⟩

/-- append to a row of numbers: where it lies then. -/
theorem run_pushS {A : Option Addr} {n c : Nat} {ms : List Int} (hown : Row 2 0 w T zs) (hm : Sl w A n c ms) (hl : zs.length + ms.length ≤ 100000) (hA : A ≠ none) :
    ∃ A' m c' w', (Builtin.append_ #[37, 37] 37 #[T, .slice A n c]).run Try.prog w = .ok (.slice A' m c') w' ∧ Row 2 0 w' (.slice A' m c') (zs ++ ms) ∧ w.grownBy w' T.ownBlock ∧ ∀ b, (Value.slice A' m c').ownBlock = some b → T.ownBlock = some b ∨ w.heap.size ≤ b := by
  obtain ⟨i0, hi0, hz0, hz1, hz2⟩ := info_parts rowK.info
  cases A with
  | none => exact absurd rfl hA
  | some ad =>
    have hn := hm.len
    obtain ⟨v', w', h1, h2, h3, h4⟩ := run_push (w := w) 37 37 2 i0 _ 1 8 rowK.under hi0 hz0 hz1 hz2 rfl (by omega) T zs.length (ints zs) hown ad n c (ints ms) (by rw [ints_length, hn]; omega)
      (by
        intro j u hj
        rcases hm.cells with e | ⟨b, off, e, hc⟩
        · subst e; simp [ints] at hj
        · have e := Option.some.inj e
          subst e
          obtain ⟨z, hz, rfl⟩ := ints_at hj
          rw [add_lit0]
          exact hc j z hz) (ints_one _) (by unfold maxLen; omega) (by omega)
    have h2' : Row 2 0 w' v' (zs ++ ms) := by
      unfold Row
      rw [List.length_append, ← hn, ints_append]
      exact h2
    obtain ⟨A', c', e, _⟩ := h2'.form
    rw [List.length_append, ← hn] at e
    subst e
    exact ⟨A', _, c', w', h1, h2', h3, h4⟩

/-- What was told, one more. -/
theorem Th.pushed {n c : Nat} {A : Option Addr} {ms : List Int} {Z : World} {T' : Value} (h : Th F w a wk zs st (.slice none 0 0) os ph k T) (hr : Row 2 0 Z T' (zs ++ ms)) (hg : w.grownBy Z T.ownBlock) (hl : ∀ b, T'.ownBlock = some b → T.ownBlock = some b ∨ w.heap.size ≤ b) :
    Th (fun b => F b ∨ T'.ownBlock = some b) (Z.setCell ⟨a, 1, none⟩ T') a wk (zs ++ ms) st (.slice none 0 0) os ph k T' ∧ Only F w (Z.setCell ⟨a, 1, none⟩ T') ∧ Z.cell? ⟨a, 1, none⟩ = some T ∧ Z.frozen? ⟨a, 1, none⟩ = false := by
  have ha : Z.heap[a]? = some (.cells (cellsT wk T st (.slice none 0 0) ph k) thT (0, 0)) := (hg.block a (h.lt a h.fa) (fun e => by
    have := own_ty h.told e.symm
    exact ne_int ((show Ty w a thT from ⟨_, h.head⟩).one this))).trans h.head
  refine ⟨⟨heap_set ha T', own_set hr ⟨_, ha⟩ ne_int T', ?_, .inl h.fa, fun b e => .inr e, fun b e => (by cases e), fun b e => ?_, .inr rfl⟩, (Only.grown F hg fun b e => h.ft b e).then (Only.set F Z (p := ⟨a, 1, none⟩) h.fa T'), by rw [cell_of_row Z a _ _ _ (0, 0) ha]; rfl, frozen_of_row Z a 1 _ _ ha⟩
  · have := h.out
    obtain ⟨e1, _⟩ := this
    have e2 : os = [] := by
      have h2 := h.out.sl
      have := h2.len
      exact List.eq_nil_of_length_eq_zero this.symm
    subst e2
    exact Row.nil _ _ _
  · simp only [World.size_setCell]
    rcases e with e | e
    · exact Nat.lt_of_lt_of_le (h.lt b e) hg.size
    · exact (World.ownsRow.lt hr b e).2
/-- next, where this Step's touch isn't done yet: it is done, and what it told is kept. -/
theorem next_fresh {S : Int → World → Prop} {f : Nat} {cap : Array Value} (hen : ∀ W : World, (callFunc f cap).run Try.prog W = .ok (.enter f cap) W) (h : Th F w a wk zs st (.slice none 0 0) os 1 k T) (hl : zs.length ≤ 1000) (hst : st ≤ 1000)
    (ht : Calls Try.prog f cap (w.setCell ⟨a, 4, none⟩ (.int .u8 2)) fun e w2 => ∃ z, e = .returned (.int .i64 z) ∧ Th F w2 a wk zs st (.slice none 0 0) os 2 k T ∧ S z w2) :
    Calls Try.prog 77 #[ptr a, .func (.func f) #[] cap] w fun e w' => e = .returned (.tuple #[]) ∧ ∃ z w2 F' T', S z w2 ∧ Th F' w' a wk (zs ++ [z]) (st + 1) (.slice none 0 0) os 3 k T' ∧ Only F w2 w' ∧ ∀ b, F' b → F b ∨ w2.heap.size ≤ b := by
  obtain ⟨c0, c1, c2, c3, c4, c5⟩ := h.cells
  have f4 := h.free 4
  clear h c1 c0 c2 c3 c5
  go_enter Try.func77, Try.ntmps77
  go_wp2_with fail
  refine ht.mono ?_
  rintro e w2 ⟨z, rfl, h2, hS⟩
  clear ht hen c4 f4
  obtain ⟨W3, hW3, h3, o3⟩ : ∃ W3 : World, w2.setCell ⟨a, 4, none⟩ (.int .u8 3) = W3 ∧ Th F W3 a wk zs st (.slice none 0 0) os 3 k T ∧ Only F w2 W3 := ⟨_, rfl, h2.phase 3, (only_set w2 a 4 _).mono fun b e => by subst e; exact h2.fa⟩
  obtain ⟨-, -, -, -, c4, -⟩ := h2.cells
  have f4 := h2.free 4
  obtain ⟨-, c1, c2, -, -, -⟩ := h3.cells
  obtain ⟨W4, s, hW4, hs, b4, e4⟩ : ∃ (W4 : World) (s : Nat), W3.alloc (.cells #[.int .i64 z] 2) = W4 ∧ W3.heap.size = s ∧ Below W3.heap.size W3 W4 ∧ W4.cell? ⟨s, 0, none⟩ = some (.int .i64 z) := ⟨_, _, rfl, rfl, below_new _ _, c_new rfl rfl⟩
  have h4 := h3.below b4
  obtain ⟨A', m', n', W5, hrun, r5, g5, l5⟩ := run_pushS h4.told (sl_one e4) (by simp; omega) (by simp)
  have hT : ∃ A n c, T = .slice A n c := h2.told.shape
  obtain ⟨A, n, c, rfl⟩ := hT
  obtain ⟨h6, o6, c6, f6⟩ := h4.pushed (n := 0) (c := 0) (A := none) r5 g5 l5
  obtain ⟨W6, hW6⟩ : ∃ W6 : World, W5.setCell ⟨a, 1, none⟩ (.slice A' m' n') = W6 := ⟨_, rfl⟩
  rw [hW6] at h6 o6
  have h7 := h6.stp (st + 1)
  obtain ⟨-, -, d2, -, -, -⟩ := h6.cells
  have f2 := h6.free 2
  have HE : Hid (∃ z w2_1 F' T'_1, S z w2_1 ∧ Th F' (W6.setCell ⟨a, 2, none⟩ (.int .i64 ((st + 1 : Nat) : Int))) a wk (zs ++ [z]) (st + 1) (.slice none 0 0) os 3 k T'_1 ∧ Only F w2_1 (W6.setCell ⟨a, 2, none⟩ (.int .i64 ((st + 1 : Nat) : Int))) ∧ ∀ b, F' b → F b ∨ w2_1.heap.size ≤ b) :=
    ⟨z, w2, _, _, hS, h7, ((o3.then (Only.of_below F b4)).then o6).then ((only_set W6 a 2 _).mono fun b e => by subst e; exact h2.fa), fun b e => by
      rcases e with e | e
      · exact .inl e
      rcases l5 b e with e | e
      · exact .inl (h4.ft b e)
      · right
        have h1 := o3.size
        have h2 := b4.size
        omega⟩
  clear h2 h3 h4 h6 h7 o3 o6 b4 r5 g5 l5 hS
  go_wp2_with (at_builtin; refine Lib.wpList_append_run _ rfl _ _ _ _ rfl _ _ rfl rfl _ _ hrun ?_)
  go_end0
  exact ⟨rfl, HE.out⟩

abbrev DO : Nat := 58
/-- Do: no touch at all; none at all; outside of a Step. -/
theorem do_notouch (p : Option Addr) (w : World) : Calls Try.prog 58 #[.pointer p, .nilFunc] w fun e w' => e = .returned (.int .i64 0) ∧ w = w' := by
  have e2 := eq_touch_nil
  go_enter Try.func58, Try.ntmps58
  go_wp2
  go_ret
  exact ⟨rfl, rfl⟩
theorem do_none (f : Fn) (first cap : Array Value) (w : World) : Calls Try.prog 58 #[nilp, .func f first cap] w fun e w' => e = .returned (.int .i64 0) ∧ w = w' := by
  have e2 := eq_touch
  go_enter Try.func58, Try.ntmps58
  go_wp2_with fail
  refine (atWork_nil w).mono ?_
  rintro e w1 ⟨rfl, rfl⟩
  go_wp2
  go_ret
  exact ⟨rfl, rfl⟩
theorem do_outside (f : Fn) (first cap : Array Value) (h : Th F w a wk zs st O os 0 k T) : Calls Try.prog 58 #[ptr a, .func f first cap] w fun e w' => e = .returned (.int .i64 0) ∧ w = w' := by
  have e2 := eq_touch
  have ha := atWork_walk h (by omega)
  clear h
  go_enter Try.func58, Try.ntmps58
  go_wp2_with fail
  refine ha.mono ?_
  rintro e w1 ⟨rfl, rfl⟩
  clear ha
  go_wp2
  go_ret
  exact ⟨rfl, rfl⟩

set_option maxHeartbeats 1000000 in
/-- Do, of a touch that was done: what it told. -/
theorem do_replay (f : Fn) (first cap : Array Value) (h : Th F w a wk zs st O os 1 k T) (hk : k < zs.length) (hl : zs.length ≤ 1000) : Calls Try.prog 58 #[ptr a, .func f first cap] w fun e w' => e = .returned (.int .i64 (zs.getD k 0)) ∧ Th F w' a wk zs st O os 1 (k + 1) T ∧ Only (· = a) w w' := by
  have e2 := eq_touch
  have ha := atWork_walk h (by omega)
  obtain ⟨A, n, c, rfl⟩ := h.told.shape
  have hs := h.told.sl
  have hn := hs.len
  have HH := Lib.hid h
  obtain ⟨-, c1, -, -, -, c5⟩ := h.cells
  have f5 := h.free 5
  have i0 : ¬ ((k : Int) = (n : Int)) := by omega
  have d0 : decide ((k : Int) = (n : Int)) = false := by simpa using i0
  clear h
  go_enter Try.func58, Try.ntmps58
  go_wp2_with fail
  refine ha.mono ?_
  rintro e w1 ⟨rfl, rfl⟩
  clear ha
  go_wp2_with fail
  go_quiet (fail)
  obtain ⟨W, hW, hT, hO⟩ : ∃ W : World, w.drewN nq = W ∧ Th F W a wk zs st O os 1 k (.slice A n c) ∧ Only (· = a) w W := ⟨_, rfl, HH.out.drewN _, only_drewN _ _ _⟩
  rw [hW]
  clear hW c1 c5 f5
  obtain ⟨-, c1, -, -, -, c5⟩ := hT.cells
  have f5 := hT.free 5
  obtain ⟨W2, hW2, h2, hO2⟩ : ∃ W2 : World, W.setCell ⟨a, 5, none⟩ (.int .i64 ((k : Int) + 1)) = W2 ∧ Th F W2 a wk zs st O os 1 (k + 1) (.slice A n c) ∧ Only (· = a) W W2 := ⟨_, rfl, hT.at_ (k + 1), only_set _ _ _ _⟩
  obtain ⟨b, off, rfl, hb, hc⟩ := h2.told.sl.at0 (k := k) (by omega)
  have H2 := Lib.hid h2
  obtain ⟨-, q1, -, -, -, q5⟩ := h2.cells
  have q5' : W2.cell? ⟨a, 5, none⟩ = some (.int .i64 ((k : Int) + 1)) := q5
  have h3 : IntKind.i64.wrap ((k : Int) + 1 - 1) = (k : Int) := by rw [Int.add_sub_cancel]; exact IntWalk.i64_in _ (by omega)
  have i1 : (0 : Int) ≤ (k : Int) := by omega
  have i2 : (k : Int) < (n : Int) := by omega
  have HO := Lib.hid (hO.then hO2)
  clear hT h2 q5 hO hO2 hs HH
  go_wp2_with fail
  go_quiet (fail)
  go_wp2
  go_ret
  exact ⟨by first | rfl | simp [hk], H2.out.drewN _, HO.out.then (only_drewN _ _ _)⟩

set_option maxHeartbeats 1000000 in
/-- Do, of a touch that is a later Step's: work waits. -/
theorem do_wait (f : Fn) (first cap : Array Value) (h : Th F w a wk zs st O os 3 k T) (hk : k = zs.length) (hl : zs.length ≤ 1000) : Calls Try.prog 58 #[ptr a, .func f first cap] w fun e w' => e = .panicked waitE ∧ Th F w' a wk zs st O os 4 k T ∧ Only (· = a) w w' := by
  have e2 := eq_touch
  have ha := atWork_walk h (by omega)
  obtain ⟨A, n, c, rfl⟩ := h.told.shape
  have hs := h.told.sl
  have hn := hs.len
  have HH := Lib.hid h
  obtain ⟨-, c1, -, -, -, c5⟩ := h.cells
  obtain rfl : k = n := by omega
  clear h hs
  go_enter Try.func58, Try.ntmps58
  go_wp2_with fail
  refine ha.mono ?_
  rintro e w1 ⟨rfl, rfl⟩
  clear ha
  go_wp2_with fail
  go_quiet (fail)
  go_wp2_with fail
  refine (next_wait (HH.out.drewN nq) _).mono ?_
  rintro e w1 ⟨rfl, rfl⟩
  exact ⟨rfl, rfl, (HH.out.drewN _).phase 4, (only_drewN _ _ _).then (only_set _ _ _ _)⟩

set_option maxHeartbeats 1000000 in
/-- Do, of this Step's touch: it is done. -/
theorem do_fresh {S : Int → World → Prop} {f : Nat} {cap : Array Value} (hen : ∀ W : World, (callFunc f cap).run Try.prog W = .ok (.enter f cap) W) (h : Th F w a wk zs st (.slice none 0 0) os 1 k T) (hk : k = zs.length) (hl : zs.length ≤ 900) (hst : st ≤ 1000)
    (ht : ∀ w1, Th F w1 a wk zs st (.slice none 0 0) os 2 k T → Only (· = a) w w1 → Calls Try.prog f cap w1 fun e w2 => ∃ z, e = .returned (.int .i64 z) ∧ Th F w2 a wk zs st (.slice none 0 0) os 2 k T ∧ S z w2) :
    Calls Try.prog 58 #[ptr a, .func (.func f) #[] cap] w fun e w' => ∃ z w2 F' T', e = .returned (.int .i64 z) ∧ S z w2 ∧ Th F' w' a wk (zs ++ [z]) (st + 1) (.slice none 0 0) os 3 (k + 1) T' ∧ Only F w2 w' ∧ ∀ b, F' b → F b ∨ w2.heap.size ≤ b := by
  have e2 := eq_touch
  have ha := atWork_walk h (by omega)
  obtain ⟨A, n, c, rfl⟩ := h.told.shape
  have hs := h.told.sl
  have hn := hs.len
  have HH := Lib.hid h
  obtain ⟨-, c1, -, -, -, c5⟩ := h.cells
  obtain rfl : k = n := by omega
  clear h hs
  go_enter Try.func58, Try.ntmps58
  go_wp2_with fail
  refine ha.mono ?_
  rintro e w1 ⟨rfl, rfl⟩
  clear ha
  go_wp2_with fail
  go_quiet (fail)
  go_wp2_with fail
  refine (next_fresh hen (HH.out.drewN nq) (by omega) hst (ht _ ((HH.out.drewN nq).phase 2) ((only_drewN _ _ _).then (only_set _ _ _ _)))).mono ?_
  rintro e W ⟨rfl, z, w2, F', T', hS, hT, hO, hF⟩
  clear c1 c5 ht hen HH
  have hfa : F' a := hT.fa
  obtain ⟨A', n', c', rfl⟩ := hT.told.shape
  obtain ⟨-, c1, -, -, -, c5⟩ := hT.cells
  have f5 := hT.free 5
  obtain ⟨W2, hW2, h2, hO2⟩ : ∃ W2 : World, W.setCell ⟨a, 5, none⟩ (.int .i64 ((k : Int) + 1)) = W2 ∧ Th F' W2 a wk (zs ++ [z]) (st + 1) (.slice none 0 0) os 3 (k + 1) (.slice A' n' c') ∧ Only (· = a) W W2 := ⟨_, rfl, hT.at_ (k + 1), only_set _ _ _ _⟩
  have hn' : n' = k + 1 := by have := h2.told.sl.len; rw [this, List.length_append, hk]; rfl
  obtain ⟨b, off, rfl, hb, hc⟩ := h2.told.sl.at0 (k := k) (by omega)
  have hz : (zs ++ [z]).getD k 0 = z := by subst hk; simp [List.getD]
  rw [hz] at hc
  clear hz
  have H2 := Lib.hid h2
  obtain ⟨-, q1, -, -, -, q5⟩ := h2.cells
  have q5' : W2.cell? ⟨a, 5, none⟩ = some (.int .i64 ((k : Int) + 1)) := q5
  have h3 : IntKind.i64.wrap ((k : Int) + 1 - 1) = (k : Int) := by rw [Int.add_sub_cancel]; exact IntWalk.i64_in _ (by omega)
  have i1 : (0 : Int) ≤ (k : Int) := by omega
  have i2 : (k : Int) < (n' : Int) := by omega
  have hka : k ≤ 900 := by omega
  have HE : Hid (∀ m, ∃ w2_1 F'_1 T', S z w2_1 ∧ Th F'_1 (W2.drewN m) a wk (zs ++ [z]) (st + 1) (.slice none 0 0) os 3 (k + 1) T' ∧ Only F w2_1 (W2.drewN m) ∧ ∀ b, F'_1 b → F b ∨ w2_1.heap.size ≤ b) := fun m => ⟨w2, F', _, hS, h2.drewN m, (hO.trans hO2 (fun b e => by subst e; exact (hF _ hfa))).then (only_drewN _ _ _), hF⟩
  clear hT h2 q5 hO hO2 hS hF hfa hn hk
  go_wp2_with fail
  go_quiet (fail)
  go_wp2
  go_ret
  obtain ⟨w2', F'', T'', r1, r2, r3, r4⟩ := HE.out nq
  exact ⟨z, w2', F'', T'', rfl, r1, r2, r3, r4⟩

/-- Ask. -/
theorem ask_notouch (p : Option Addr) (w : World) : Calls Try.prog 61 #[.pointer p, .nilFunc] w fun e w' => e = .returned (.bool false) ∧ Below w.heap.size w w' := by
  have e2 := eq_ask_nil
  go_enter Try.func61, Try.ntmps61
  go_wp2
  go_ret
  exact ⟨rfl, below_new _ _⟩
theorem ask_none (f : Fn) (first cap : Array Value) (w : World) : Calls Try.prog 61 #[nilp, .func f first cap] w fun e w' => e = .returned (.bool false) ∧ Below w.heap.size w w' := by
  have e2 := eq_ask
  have e3 := mk_fn
  go_enter Try.func61, Try.ntmps61
  go_wp2_with fail
  refine (do_none _ _ _ _).mono ?_
  rintro e w1 ⟨rfl, rfl⟩
  go_wp2
  go_ret
  exact ⟨rfl, below_new _ _⟩
theorem ask_outside (f : Fn) (first cap : Array Value) (h : Th F w a wk zs st O os 0 k T) : Calls Try.prog 61 #[ptr a, .func f first cap] w fun e w' => e = .returned (.bool false) ∧ Below w.heap.size w w' := by
  have e2 := eq_ask
  have e3 := mk_fn
  have HH := Lib.hid h
  clear h
  go_enter Try.func61, Try.ntmps61
  go_wp2_with fail
  refine (do_outside _ _ _ (HH.out.below (below_new w _))).mono ?_
  rintro e w1 ⟨rfl, rfl⟩
  go_wp2
  go_ret
  exact ⟨rfl, below_new _ _⟩
end
end Go.Proofs.Ytmnbdhngadjmiaa
