/-
  Threads and their steps.
-/
import Derived.Test.YtcegianjpifnbaaGreatPa
import Derived.WalkLawsBesides
import Derived.Defers
import Derived.Recover
import Derived.Laws.EntriesVeiled
import Derived.RegionTactic
namespace Go.Proofs.YtcegianjpifnbaaGreat
open Go.ChangeShapes Go.WideShapes Go.ChangeAt Go.RowKit
set_option linter.unusedVariables false
set_option linter.unusedSimpArgs false
set_option maxRecDepth 20000

abbrev thT : TypeId := 103
abbrev cellsT (wk T : Value) (st : Nat) (O : Value) (ph k : Nat) : Array Value := #[wk, T, .int .i64 (st : Int), O, .int .u8 (ph : Int), .int .i64 (k : Int)]
/-- A thread at block a: its work, what was told, how many touches there were, its answer, how far a Step is, and how many touches work has come by. -/
structure Th (F : Nat → Prop) (w : World) (a : Nat) (wk : Value) (zs : List Int) (st : Nat) (O : Value) (os : List Int) (ph k : Nat) (T : Value) : Prop where
  head : w.heap[a]? = some (.cells (cellsT wk T st O ph k) thT (0, 0))
  told : Row 2 0 w T zs
  out : Row 2 0 w O os
  fa : F a
  ft : ∀ b, T.ownBlock = some b → F b
  fo : ∀ b, O.ownBlock = some b → F b
  lt : ∀ b, F b → b < w.heap.size
  ap : T = .slice none 0 0 ∨ O = .slice none 0 0

theorem ne_int : thT ≠ 2 := by decide
theorem heap_set {w : World} {a j : Nat} {cs : Array Value} {t : TypeId} (h : w.heap[a]? = some (.cells cs t (0, 0))) (v : Value) : (w.setCell ⟨a, j, none⟩ v).heap[a]? = some (.cells (cs.setIfInBounds j v) t (0, 0)) := by
  exact heap_setCell_same w a j cs t v h
section
variable {F G : Nat → Prop} {w w' : World} {a st ph k : Nat} {zs os : List Int} {wk T O : Value}
theorem Th.keep (h : Th F w a wk zs st O os ph k T) (hb : ∀ b, F b → w'.heap[b]? = w.heap[b]?) (hs : w.heap.size ≤ w'.heap.size) : Th F w' a wk zs st O os ph k T :=
  ⟨(hb a h.fa).trans h.head, own_at h.told fun b e => hb b (h.ft b e), own_at h.out fun b e => hb b (h.fo b e), h.fa, h.ft, h.fo, fun b e => Nat.lt_of_lt_of_le (h.lt b e) hs, h.ap⟩
theorem Th.below (h : Th F w a wk zs st O os ph k T) (hb : Below w.heap.size w w') : Th F w' a wk zs st O os ph k T := h.keep (fun b hF => hb.block b (h.lt b hF)) hb.size
theorem Th.only (h : Th F w a wk zs st O os ph k T) (hb : Only G w w') (hd : ∀ b, F b → ¬ G b) : Th F w' a wk zs st O os ph k T := h.keep (fun b hF => hb.block b (h.lt b hF) (hd b hF)) hb.size
theorem Th.drew (h : Th F w a wk zs st O os ph k T) : Th F w.drew a wk zs st O os ph k T := ⟨h.head, h.told, h.out, h.fa, h.ft, h.fo, h.lt, h.ap⟩
theorem Th.drewN (h : Th F w a wk zs st O os ph k T) (n : Nat) : Th F (w.drewN n) a wk zs st O os ph k T := ⟨h.head, h.told, h.out, h.fa, h.ft, h.fo, h.lt, h.ap⟩
theorem only_drewN (F : Nat → Prop) (w : World) (n : Nat) : Only F w (w.drewN n) := ⟨rfl, rfl, rfl, Nat.le_refl _, fun _ _ _ => rfl⟩
theorem only_drew (F : Nat → Prop) (w : World) : Only F w w.drew := ⟨rfl, rfl, rfl, Nat.le_refl _, fun _ _ _ => rfl⟩
theorem Th.cells (h : Th F w a wk zs st O os ph k T) : w.cell? ⟨a, 0, none⟩ = some wk ∧ w.cell? ⟨a, 1, none⟩ = some T ∧ w.cell? ⟨a, 2, none⟩ = some (.int .i64 (st : Int)) ∧ w.cell? ⟨a, 3, none⟩ = some O ∧ w.cell? ⟨a, 4, none⟩ = some (.int .u8 (ph : Int)) ∧ w.cell? ⟨a, 5, none⟩ = some (.int .i64 (k : Int)) :=
  ⟨by rw [cell_of_row w a _ _ _ (0, 0) h.head]; rfl, by rw [cell_of_row w a _ _ _ (0, 0) h.head]; rfl, by rw [cell_of_row w a _ _ _ (0, 0) h.head]; rfl, by rw [cell_of_row w a _ _ _ (0, 0) h.head]; rfl, by rw [cell_of_row w a _ _ _ (0, 0) h.head]; rfl, by rw [cell_of_row w a _ _ _ (0, 0) h.head]; rfl⟩
theorem Th.free (h : Th F w a wk zs st O os ph k T) (j : Nat) : w.frozen? ⟨a, j, none⟩ = false := frozen_of_row w a j _ _ h.head
/-- A store into one of the thread's own cells. -/
theorem Th.set (h : Th F w a wk zs st O os ph k T) (j : Nat) (v : Value) : (w.setCell ⟨a, j, none⟩ v).heap[a]? = some (.cells ((cellsT wk T st O ph k).setIfInBounds j v) thT (0, 0)) ∧ Row 2 0 (w.setCell ⟨a, j, none⟩ v) T zs ∧ Row 2 0 (w.setCell ⟨a, j, none⟩ v) O os :=
  ⟨heap_set h.head v, own_set h.told ⟨_, h.head⟩ ne_int v, own_set h.out ⟨_, h.head⟩ ne_int v⟩
theorem Th.phase (h : Th F w a wk zs st O os ph k T) (p : Nat) : Th F (w.setCell ⟨a, 4, none⟩ (.int .u8 (p : Int))) a wk zs st O os p k T :=
  ⟨(h.set 4 _).1, (h.set 4 _).2.1, (h.set 4 _).2.2, h.fa, h.ft, h.fo, fun b e => by simpa using h.lt b e, h.ap⟩
theorem Th.at_ (h : Th F w a wk zs st O os ph k T) (k' : Nat) : Th F (w.setCell ⟨a, 5, none⟩ (.int .i64 (k' : Int))) a wk zs st O os ph k' T :=
  ⟨(h.set 5 _).1, (h.set 5 _).2.1, (h.set 5 _).2.2, h.fa, h.ft, h.fo, fun b e => by simpa using h.lt b e, h.ap⟩
theorem Th.stp (h : Th F w a wk zs st O os ph k T) (k' : Nat) : Th F (w.setCell ⟨a, 2, none⟩ (.int .i64 (k' : Int))) a wk zs k' O os ph k T :=
  ⟨(h.set 2 _).1, (h.set 2 _).2.1, (h.set 2 _).2.2, h.fa, h.ft, h.fo, fun b e => by simpa using h.lt b e, h.ap⟩
theorem only_set (w : World) (a j : Nat) (v : Value) : Only (· = a) w (w.setCell ⟨a, j, none⟩ v) := Only.set (· = a) w (p := ⟨a, j, none⟩) rfl v
end

/-- New. -/
theorem th_new (w : World) (wk : Value) : Th (fun b => b = w.heap.size) (w.alloc (.cells #[wk, .slice none 0 0, .int .i64 0, .slice none 0 0, .int .u8 0, .int .i64 0] thT)) w.heap.size wk [] 0 (.slice none 0 0) [] 0 0 (.slice none 0 0) :=
  ⟨heap_alloc_new w _, Row.nil _ _ _, Row.nil _ _ _, rfl, fun b e => (by cases e), fun b e => (by cases e), fun b e => by subst e; simp, .inl rfl⟩
theorem new_func (fn : Fn) (first cap : Array Value) (w : World) : Calls Tryz.prog 42 #[.func fn first cap] w fun e w' => e = .returned (ptr w.heap.size) ∧ Th (fun b => b = w.heap.size) w' w.heap.size (.func fn first cap) [] 0 (.slice none 0 0) [] 0 0 (.slice none 0 0) ∧ Below w.heap.size w w' := by
  go_enter Tryz.func42, Tryz.ntmps42
  go_wp2
  go_ret
  exact ⟨rfl, th_new w _, below_new _ _⟩
theorem new_nil (w : World) : Calls Tryz.prog 42 #[.nilFunc] w fun e w' => e = .returned (ptr w.heap.size) ∧ Th (fun b => b = w.heap.size) w' w.heap.size .nilFunc [] 0 (.slice none 0 0) [] 0 0 (.slice none 0 0) ∧ Below w.heap.size w w' := by
  go_enter Tryz.func42, Tryz.ntmps42
  go_wp2
  go_ret
  exact ⟨rfl, th_new w _, below_new _ _⟩

theorem eq_work (fn : Fn) (first cap : Array Value) (w : World) : (binOp BinOp.eql 93 (.func fn first cap) .nilFunc).run Tryz.prog w = .ok (.bool false) w := by kernel_rfl
theorem eq_work_nil (w : World) : (binOp BinOp.eql 93 .nilFunc .nilFunc).run Tryz.prog w = .ok (.bool true) w := by kernel_rfl
theorem eq_touch (fn : Fn) (first cap : Array Value) (w : World) : (binOp BinOp.eql 136 (.func fn first cap) .nilFunc).run Tryz.prog w = .ok (.bool false) w := by kernel_rfl
theorem eq_touch_nil (w : World) : (binOp BinOp.eql 136 .nilFunc .nilFunc).run Tryz.prog w = .ok (.bool true) w := by kernel_rfl
theorem eq_ask (fn : Fn) (first cap : Array Value) (w : World) : (binOp BinOp.eql 30 (.func fn first cap) .nilFunc).run Tryz.prog w = .ok (.bool false) w := by kernel_rfl
theorem eq_ask_nil (w : World) : (binOp BinOp.eql 30 .nilFunc .nilFunc).run Tryz.prog w = .ok (.bool true) w := by kernel_rfl
theorem mk_fn (fn : Fn) (first cap : Array Value) (w : World) : (Instr.makeFunc fn first cap).run Tryz.prog w = .ok (.func fn first cap) w := rfl

section
variable {F G : Nat → Prop} {w w' : World} {a st ph k : Nat} {zs os : List Int} {wk T O : Value}
/-- Done. -/
theorem done_no {fn : Fn} {first cap : Array Value} (h : Th F w a (.func fn first cap) zs st O os ph k T) : Calls Tryz.prog 47 #[ptr a] w fun e w' => e = .returned (.bool false) ∧ w = w' := by
  obtain ⟨c0, c1, c2, c3, c4, c5⟩ := h.cells
  clear h c1 c2 c3 c4 c5
  have e1 := eq_work
  have e2 := eq_work_nil
  go_enter Tryz.func47, Tryz.ntmps47
  go_wp2
  go_ret
  exact ⟨rfl, rfl⟩
theorem done_yes (h : Th F w a .nilFunc zs st O os ph k T) : Calls Tryz.prog 47 #[ptr a] w fun e w' => e = .returned (.bool true) ∧ w = w' := by
  obtain ⟨c0, c1, c2, c3, c4, c5⟩ := h.cells
  clear h c1 c2 c3 c4 c5
  have e1 := eq_work
  have e2 := eq_work_nil
  go_enter Tryz.func47, Tryz.ntmps47
  go_wp2
  go_ret
  exact ⟨rfl, rfl⟩
theorem done_nil (w : World) : Calls Tryz.prog 47 #[nilp] w fun e w' => e = .returned (.bool true) ∧ w = w' := by
  go_enter Tryz.func47, Tryz.ntmps47
  go_wp2
  go_ret
  exact ⟨rfl, rfl⟩
/-- Out. -/
theorem out_nil (w : World) : Calls Tryz.prog 30 #[nilp] w fun e w' => e = .returned (.slice none 0 0) ∧ w = w' := by
  go_enter Tryz.func30, Tryz.ntmps30
  go_wp2
  go_ret
  exact ⟨rfl, rfl⟩
end
end Go.Proofs.YtcegianjpifnbaaGreat
namespace Go.Proofs.YtcegianjpifnbaaGreat
open Go.ChangeShapes Go.WideShapes Go.ChangeAt Go.RowKit
set_option linter.unusedVariables false
set_option linter.unusedSimpArgs false
set_option maxRecDepth 20000

abbrev waitV : Value := .iface 140 (.agg #[])
abbrev waitE : List PanicEntry := [{ v := waitV, recovered := false }]
section
variable {F G : Nat → Prop} {w w' : World} {a st ph k : Nat} {zs os : List Int} {wk T O : Value}
theorem out_walk (h : Th F w a wk zs st O os ph k T) (hl : os.length ≤ 1000) : Calls Tryz.prog 30 #[ptr a] w (Made 2 w os) := by
  obtain ⟨c0, c1, c2, c3, c4, c5⟩ := h.cells
  obtain ⟨A, n, c, rfl⟩ := h.out.shape
  have hs := h.out.sl
  clear h c1 c0 c2 c4 c5
  obtain ⟨W, hW, hb, hc⟩ : ∃ W : World, w.alloc (.cells #[.slice A n c] 24) = W ∧ Below w.heap.size w W ∧ W.cell? ⟨w.heap.size, 0, none⟩ = some (.slice A n c) := ⟨_, rfl, below_new _ _, c_new rfl rfl⟩
  have hs2 := hs.below hb
  have hcc := (concatK1 w.heap.size A n c os W hc hs2 hl)
  clear hs hs2
  go_enter Tryz.func30, Tryz.ntmps30
  go_wp2_with fail
  (try rw [hW])
  refine hcc.mono ?_
  rintro e w1 ⟨v, rfl, hr, hb1⟩
  go_wp2
  go_ret
  exact ⟨v, rfl, hr.lower hb.size, hb.trans (hb1.mono hb.size)⟩

theorem atWork_walk (h : Th F w a wk zs st O os ph k T) (hp : ph < 200) : Calls Tryz.prog 79 #[ptr a] w fun e w' => e = .returned (.bool (decide (ph ≠ 0 ∧ ph ≠ 2))) ∧ w = w' := by
  obtain ⟨c0, c1, c2, c3, c4, c5⟩ := h.cells
  clear h c1 c0 c2 c3 c5
  by_cases h0 : ph = 0
  · subst h0
    go_enter Tryz.func79, Tryz.ntmps79
    go_wp2
    go_ret
    exact ⟨rfl, rfl⟩
  · by_cases h2 : ph = 2
    · subst h2
      go_enter Tryz.func79, Tryz.ntmps79
      go_wp2
      go_ret
      exact ⟨rfl, rfl⟩
    · have e : decide (ph ≠ 0 ∧ ph ≠ 2) = true := by simp [h0, h2]
      rw [e]
      have e0 : ¬ (ph : Int) = 0 := by omega
      have e2 : ¬ (ph : Int) = 2 := by omega
      generalize (ph : Int) = p at *
      go_enter Tryz.func79, Tryz.ntmps79
      go_wp2
      go_ret
      exact ⟨by simp [e0, e2], rfl⟩
theorem atWork_nil (w : World) : Calls Tryz.prog 79 #[nilp] w fun e w' => e = .returned (.bool false) ∧ w = w' := by
  go_enter Tryz.func79, Tryz.ntmps79
  go_wp2
  go_ret
  exact ⟨rfl, rfl⟩

/-- next, where this Step has had its touch: work waits. -/
theorem next_wait (h : Th F w a wk zs st O os 3 k T) (fv : Value) : Calls Tryz.prog 80 #[ptr a, fv] w fun e w' => e = .panicked waitE ∧ w' = w.setCell ⟨a, 4, none⟩ (.int .u8 4) := by
  obtain ⟨c0, c1, c2, c3, c4, c5⟩ := h.cells
  have f4 := h.free 4
  clear h c1 c0 c2 c3 c5
  go_enter Tryz.func80, Tryz.ntmps80
  go_wp2
  exact ⟨rfl, rfl, rfl⟩

/-- append to a row of numbers: where it lies then. -/
theorem run_pushS {A : Option Addr} {n c : Nat} {ms : List Int} (hown : Row 2 0 w T zs) (hm : Sl w A n c ms) (hl : zs.length + ms.length ≤ 100000) (hA : A ≠ none) :
    ∃ A' m c' w', (Builtin.append_ #[24, 24] 24 #[T, .slice A n c]).run Tryz.prog w = .ok (.slice A' m c') w' ∧ Row 2 0 w' (.slice A' m c') (zs ++ ms) ∧ w.grownBy w' T.ownBlock ∧ ∀ b, (Value.slice A' m c').ownBlock = some b → T.ownBlock = some b ∨ w.heap.size ≤ b := by
  obtain ⟨i0, hi0, hz0, hz1, hz2⟩ := info_parts rowK.info
  cases A with
  | none => exact absurd rfl hA
  | some ad =>
    have hn := hm.len
    obtain ⟨v', w', h1, h2, h3, h4⟩ := run_push (w := w) 24 24 2 i0 _ 1 8 rowK.under hi0 hz0 hz1 hz2 rfl (by omega) T zs.length (ints zs) hown ad n c (ints ms) (by rw [ints_length, hn]; omega)
      (by
        intro j u hj
        rcases hm.cells with e | ⟨b, off, e, hc⟩
        · subst e; simp [ints] at hj
        · have e := Option.some.inj e
          subst e
          obtain ⟨z, hz, rfl⟩ := ints_at hj
          rw [add_lit0]
          exact hc j z hz) (ints_one _) (by unfold maxLen; omega) (by omega)
    have h2' : Row 2 0 w' v' (zs ++ ms) := by
      unfold Row
      rw [List.length_append, ← hn, ints_append]
      exact h2
    obtain ⟨A', c', e, _⟩ := h2'.form
    rw [List.length_append, ← hn] at e
    subst e
    exact ⟨A', _, c', w', h1, h2', h3, h4⟩

/-- What was told, one more. -/
theorem Th.pushed {n c : Nat} {A : Option Addr} {ms : List Int} {Z : World} {T' : Value} (h : Th F w a wk zs st (.slice none 0 0) os ph k T) (hr : Row 2 0 Z T' (zs ++ ms)) (hg : w.grownBy Z T.ownBlock) (hl : ∀ b, T'.ownBlock = some b → T.ownBlock = some b ∨ w.heap.size ≤ b) :
    Th (fun b => F b ∨ T'.ownBlock = some b) (Z.setCell ⟨a, 1, none⟩ T') a wk (zs ++ ms) st (.slice none 0 0) os ph k T' ∧ Only F w (Z.setCell ⟨a, 1, none⟩ T') ∧ Z.cell? ⟨a, 1, none⟩ = some T ∧ Z.frozen? ⟨a, 1, none⟩ = false := by
  have ha : Z.heap[a]? = some (.cells (cellsT wk T st (.slice none 0 0) ph k) thT (0, 0)) := (hg.block a (h.lt a h.fa) (fun e => by
    have := own_ty h.told e.symm
    exact ne_int ((show Ty w a thT from ⟨_, h.head⟩).one this))).trans h.head
  refine ⟨⟨heap_set ha T', own_set hr ⟨_, ha⟩ ne_int T', ?_, .inl h.fa, fun b e => .inr e, fun b e => (by cases e), fun b e => ?_, .inr rfl⟩, (Only.grown F hg fun b e => h.ft b e).then (Only.set F Z (p := ⟨a, 1, none⟩) h.fa T'), by rw [cell_of_row Z a _ _ _ (0, 0) ha]; rfl, frozen_of_row Z a 1 _ _ ha⟩
  · have := h.out
    obtain ⟨e1, _⟩ := this
    have e2 : os = [] := by
      have h2 := h.out.sl
      have := h2.len
      exact List.eq_nil_of_length_eq_zero this.symm
    subst e2
    exact Row.nil _ _ _
  · simp only [World.size_setCell]
    rcases e with e | e
    · exact Nat.lt_of_lt_of_le (h.lt b e) hg.size
    · exact (World.ownsRow.lt hr b e).2
/-- next, where this Step's touch isn't done yet: it is done, and what it told is kept. -/
theorem next_fresh {S : Int → World → Prop} {f : Nat} {cap : Array Value} (hen : ∀ W : World, (callFunc f cap).run Tryz.prog W = .ok (.enter f cap) W) (h : Th F w a wk zs st (.slice none 0 0) os 1 k T) (hl : zs.length ≤ 1000) (hst : st ≤ 1000)
    (ht : Calls Tryz.prog f cap (w.setCell ⟨a, 4, none⟩ (.int .u8 2)) fun e w2 => ∃ z, e = .returned (.int .i64 z) ∧ Th F w2 a wk zs st (.slice none 0 0) os 2 k T ∧ S z w2) :
    Calls Tryz.prog 80 #[ptr a, .func (.func f) #[] cap] w fun e w' => e = .returned (.tuple #[]) ∧ ∃ z w2 F' T', S z w2 ∧ Th F' w' a wk (zs ++ [z]) (st + 1) (.slice none 0 0) os 3 k T' ∧ Only F w2 w' ∧ ∀ b, F' b → F b ∨ w2.heap.size ≤ b := by
  obtain ⟨c0, c1, c2, c3, c4, c5⟩ := h.cells
  have f4 := h.free 4
  clear h c1 c0 c2 c3 c5
  go_enter Tryz.func80, Tryz.ntmps80
  go_wp2_with fail
  refine ht.mono ?_
  rintro e w2 ⟨z, rfl, h2, hS⟩
  clear ht hen c4 f4
  obtain ⟨W3, hW3, h3, o3⟩ : ∃ W3 : World, w2.setCell ⟨a, 4, none⟩ (.int .u8 3) = W3 ∧ Th F W3 a wk zs st (.slice none 0 0) os 3 k T ∧ Only F w2 W3 := ⟨_, rfl, h2.phase 3, (only_set w2 a 4 _).mono fun b e => by subst e; exact h2.fa⟩
  obtain ⟨-, -, -, -, c4, -⟩ := h2.cells
  have f4 := h2.free 4
  obtain ⟨-, c1, c2, -, -, -⟩ := h3.cells
  obtain ⟨W4, s, hW4, hs, b4, e4⟩ : ∃ (W4 : World) (s : Nat), W3.alloc (.cells #[.int .i64 z] 2) = W4 ∧ W3.heap.size = s ∧ Below W3.heap.size W3 W4 ∧ W4.cell? ⟨s, 0, none⟩ = some (.int .i64 z) := ⟨_, _, rfl, rfl, below_new _ _, c_new rfl rfl⟩
  have h4 := h3.below b4
  obtain ⟨A', m', n', W5, hrun, r5, g5, l5⟩ := run_pushS h4.told (sl_one e4) (by simp; omega) (by simp)
  have hT : ∃ A n c, T = .slice A n c := h2.told.shape
  obtain ⟨A, n, c, rfl⟩ := hT
  obtain ⟨h6, o6, c6, f6⟩ := h4.pushed (n := 0) (c := 0) (A := none) r5 g5 l5
  obtain ⟨W6, hW6⟩ : ∃ W6 : World, W5.setCell ⟨a, 1, none⟩ (.slice A' m' n') = W6 := ⟨_, rfl⟩
  rw [hW6] at h6 o6
  have h7 := h6.stp (st + 1)
  obtain ⟨-, -, d2, -, -, -⟩ := h6.cells
  have f2 := h6.free 2
  have HE : Hid (∃ z w2_1 F' T'_1, S z w2_1 ∧ Th F' (W6.setCell ⟨a, 2, none⟩ (.int .i64 ((st + 1 : Nat) : Int))) a wk (zs ++ [z]) (st + 1) (.slice none 0 0) os 3 k T'_1 ∧ Only F w2_1 (W6.setCell ⟨a, 2, none⟩ (.int .i64 ((st + 1 : Nat) : Int))) ∧ ∀ b, F' b → F b ∨ w2_1.heap.size ≤ b) :=
    ⟨z, w2, _, _, hS, h7, ((o3.then (Only.of_below F b4)).then o6).then ((only_set W6 a 2 _).mono fun b e => by subst e; exact h2.fa), fun b e => by
      rcases e with e | e
      · exact .inl e
      rcases l5 b e with e | e
      · exact .inl (h4.ft b e)
      · right
        have h1 := o3.size
        have h2 := b4.size
        omega⟩
  clear h2 h3 h4 h6 h7 o3 o6 b4 r5 g5 l5 hS
  go_wp2_with (at_builtin; refine Lib.wpList_append_run _ rfl _ _ _ _ rfl _ _ rfl rfl _ _ hrun ?_)
  go_end0
  exact ⟨rfl, HE.out⟩

abbrev DO : Nat := 70
/-- Do: no touch at all; none at all; outside of a Step. -/
theorem do_notouch (p : Option Addr) (w : World) : Calls Tryz.prog 70 #[.pointer p, .nilFunc] w fun e w' => e = .returned (.int .i64 0) ∧ w = w' := by
  have e2 := eq_touch_nil
  go_enter Tryz.func70, Tryz.ntmps70
  go_wp2
  go_ret
  exact ⟨rfl, rfl⟩
theorem do_none (f : Fn) (first cap : Array Value) (w : World) : Calls Tryz.prog 70 #[nilp, .func f first cap] w fun e w' => e = .returned (.int .i64 0) ∧ w = w' := by
  have e2 := eq_touch
  go_enter Tryz.func70, Tryz.ntmps70
  go_wp2_with fail
  refine (atWork_nil w).mono ?_
  rintro e w1 ⟨rfl, rfl⟩
  go_wp2
  go_ret
  exact ⟨rfl, rfl⟩
theorem do_outside (f : Fn) (first cap : Array Value) (h : Th F w a wk zs st O os 0 k T) : Calls Tryz.prog 70 #[ptr a, .func f first cap] w fun e w' => e = .returned (.int .i64 0) ∧ w = w' := by
  have e2 := eq_touch
  have ha := atWork_walk h (by omega)
  clear h
  go_enter Tryz.func70, Tryz.ntmps70
  go_wp2_with fail
  refine ha.mono ?_
  rintro e w1 ⟨rfl, rfl⟩
  clear ha
  go_wp2
  go_ret
  exact ⟨rfl, rfl⟩

set_option maxHeartbeats 1000000 in
/-- Do, of a touch that was done: what it told. -/
theorem do_replay (f : Fn) (first cap : Array Value) (h : Th F w a wk zs st O os 1 k T) (hk : k < zs.length) (hl : zs.length ≤ 1000) : Calls Tryz.prog 70 #[ptr a, .func f first cap] w fun e w' => e = .returned (.int .i64 (zs.getD k 0)) ∧ Th F w' a wk zs st O os 1 (k + 1) T ∧ Only (· = a) w w' := by
  have e2 := eq_touch
  have ha := atWork_walk h (by omega)
  obtain ⟨A, n, c, rfl⟩ := h.told.shape
  have hs := h.told.sl
  have hn := hs.len
  have HH := Lib.hid h
  obtain ⟨-, c1, -, -, -, c5⟩ := h.cells
  have f5 := h.free 5
  have i0 : ¬ ((k : Int) = (n : Int)) := by omega
  have d0 : decide ((k : Int) = (n : Int)) = false := by simpa using i0
  clear h
  go_enter Tryz.func70, Tryz.ntmps70
  go_wp2_with fail
  refine ha.mono ?_
  rintro e w1 ⟨rfl, rfl⟩
  clear ha
  go_wp2_with fail
  go_quiet (fail)
  obtain ⟨W, hW, hT, hO⟩ : ∃ W : World, w.drewN nq = W ∧ Th F W a wk zs st O os 1 k (.slice A n c) ∧ Only (· = a) w W := ⟨_, rfl, HH.out.drewN _, only_drewN _ _ _⟩
  rw [hW]
  clear hW c1 c5 f5
  obtain ⟨-, c1, -, -, -, c5⟩ := hT.cells
  have f5 := hT.free 5
  obtain ⟨W2, hW2, h2, hO2⟩ : ∃ W2 : World, W.setCell ⟨a, 5, none⟩ (.int .i64 ((k : Int) + 1)) = W2 ∧ Th F W2 a wk zs st O os 1 (k + 1) (.slice A n c) ∧ Only (· = a) W W2 := ⟨_, rfl, hT.at_ (k + 1), only_set _ _ _ _⟩
  obtain ⟨b, off, rfl, hb, hc⟩ := h2.told.sl.at0 (k := k) (by omega)
  have H2 := Lib.hid h2
  obtain ⟨-, q1, -, -, -, q5⟩ := h2.cells
  have q5' : W2.cell? ⟨a, 5, none⟩ = some (.int .i64 ((k : Int) + 1)) := q5
  have h3 : IntKind.i64.wrap ((k : Int) + 1 - 1) = (k : Int) := by rw [Int.add_sub_cancel]; exact IntWalk.i64_in _ (by omega)
  have i1 : (0 : Int) ≤ (k : Int) := by omega
  have i2 : (k : Int) < (n : Int) := by omega
  have HO := Lib.hid (hO.then hO2)
  clear hT h2 q5 hO hO2 hs HH
  go_wp2_with fail
  go_quiet (fail)
  go_wp2
  go_ret
  exact ⟨by first | rfl | simp [hk], H2.out.drewN _, HO.out.then (only_drewN _ _ _)⟩

set_option maxHeartbeats 1000000 in
/-- Do, of a touch that is a later Step's: work waits. -/
theorem do_wait (f : Fn) (first cap : Array Value) (h : Th F w a wk zs st O os 3 k T) (hk : k = zs.length) (hl : zs.length ≤ 1000) : Calls Tryz.prog 70 #[ptr a, .func f first cap] w fun e w' => e = .panicked waitE ∧ Th F w' a wk zs st O os 4 k T ∧ Only (· = a) w w' := by
  have e2 := eq_touch
  have ha := atWork_walk h (by omega)
  obtain ⟨A, n, c, rfl⟩ := h.told.shape
  have hs := h.told.sl
  have hn := hs.len
  have HH := Lib.hid h
  obtain ⟨-, c1, -, -, -, c5⟩ := h.cells
  obtain rfl : k = n := by omega
  clear h hs
  go_enter Tryz.func70, Tryz.ntmps70
  go_wp2_with fail
  refine ha.mono ?_
  rintro e w1 ⟨rfl, rfl⟩
  clear ha
  go_wp2_with fail
  go_quiet (fail)
  go_wp2_with fail
  refine (next_wait (HH.out.drewN nq) _).mono ?_
  rintro e w1 ⟨rfl, rfl⟩
  exact ⟨rfl, rfl, (HH.out.drewN _).phase 4, (only_drewN _ _ _).then (only_set _ _ _ _)⟩

set_option maxHeartbeats 1000000 in
/-- Do, of this Step's touch: it is done. -/
theorem do_fresh {S : Int → World → Prop} {f : Nat} {cap : Array Value} (hen : ∀ W : World, (callFunc f cap).run Tryz.prog W = .ok (.enter f cap) W) (h : Th F w a wk zs st (.slice none 0 0) os 1 k T) (hk : k = zs.length) (hl : zs.length ≤ 900) (hst : st ≤ 1000)
    (ht : ∀ w1, Th F w1 a wk zs st (.slice none 0 0) os 2 k T → Only (· = a) w w1 → Calls Tryz.prog f cap w1 fun e w2 => ∃ z, e = .returned (.int .i64 z) ∧ Th F w2 a wk zs st (.slice none 0 0) os 2 k T ∧ S z w2) :
    Calls Tryz.prog 70 #[ptr a, .func (.func f) #[] cap] w fun e w' => ∃ z w2 F' T', e = .returned (.int .i64 z) ∧ S z w2 ∧ Th F' w' a wk (zs ++ [z]) (st + 1) (.slice none 0 0) os 3 (k + 1) T' ∧ Only F w2 w' ∧ ∀ b, F' b → F b ∨ w2.heap.size ≤ b := by
  have e2 := eq_touch
  have ha := atWork_walk h (by omega)
  obtain ⟨A, n, c, rfl⟩ := h.told.shape
  have hs := h.told.sl
  have hn := hs.len
  have HH := Lib.hid h
  obtain ⟨-, c1, -, -, -, c5⟩ := h.cells
  obtain rfl : k = n := by omega
  clear h hs
  go_enter Tryz.func70, Tryz.ntmps70
  go_wp2_with fail
  refine ha.mono ?_
  rintro e w1 ⟨rfl, rfl⟩
  clear ha
  go_wp2_with fail
  go_quiet (fail)
  go_wp2_with fail
  refine (next_fresh hen (HH.out.drewN nq) (by omega) hst (ht _ ((HH.out.drewN nq).phase 2) ((only_drewN _ _ _).then (only_set _ _ _ _)))).mono ?_
  rintro e W ⟨rfl, z, w2, F', T', hS, hT, hO, hF⟩
  clear c1 c5 ht hen HH
  have hfa : F' a := hT.fa
  obtain ⟨A', n', c', rfl⟩ := hT.told.shape
  obtain ⟨-, c1, -, -, -, c5⟩ := hT.cells
  have f5 := hT.free 5
  obtain ⟨W2, hW2, h2, hO2⟩ : ∃ W2 : World, W.setCell ⟨a, 5, none⟩ (.int .i64 ((k : Int) + 1)) = W2 ∧ Th F' W2 a wk (zs ++ [z]) (st + 1) (.slice none 0 0) os 3 (k + 1) (.slice A' n' c') ∧ Only (· = a) W W2 := ⟨_, rfl, hT.at_ (k + 1), only_set _ _ _ _⟩
  have hn' : n' = k + 1 := by have := h2.told.sl.len; rw [this, List.length_append, hk]; rfl
  obtain ⟨b, off, rfl, hb, hc⟩ := h2.told.sl.at0 (k := k) (by omega)
  have hz : (zs ++ [z]).getD k 0 = z := by subst hk; simp [List.getD]
  rw [hz] at hc
  clear hz
  have H2 := Lib.hid h2
  obtain ⟨-, q1, -, -, -, q5⟩ := h2.cells
  have q5' : W2.cell? ⟨a, 5, none⟩ = some (.int .i64 ((k : Int) + 1)) := q5
  have h3 : IntKind.i64.wrap ((k : Int) + 1 - 1) = (k : Int) := by rw [Int.add_sub_cancel]; exact IntWalk.i64_in _ (by omega)
  have i1 : (0 : Int) ≤ (k : Int) := by omega
  have i2 : (k : Int) < (n' : Int) := by omega
  have hka : k ≤ 900 := by omega
  have HE : Hid (∀ m, ∃ w2_1 F'_1 T', S z w2_1 ∧ Th F'_1 (W2.drewN m) a wk (zs ++ [z]) (st + 1) (.slice none 0 0) os 3 (k + 1) T' ∧ Only F w2_1 (W2.drewN m) ∧ ∀ b, F'_1 b → F b ∨ w2_1.heap.size ≤ b) := fun m => ⟨w2, F', _, hS, h2.drewN m, (hO.trans hO2 (fun b e => by subst e; exact (hF _ hfa))).then (only_drewN _ _ _), hF⟩
  clear hT h2 q5 hO hO2 hS hF hfa hn hk
  go_wp2_with fail
  go_quiet (fail)
  go_wp2
  go_ret
  obtain ⟨w2', F'', T'', r1, r2, r3, r4⟩ := HE.out nq
  exact ⟨z, w2', F'', T'', rfl, r1, r2, r3, r4⟩

/-- Ask. -/
theorem ask_notouch (p : Option Addr) (w : World) : Calls Tryz.prog 120 #[.pointer p, .nilFunc] w fun e w' => e = .returned (.bool false) ∧ Below w.heap.size w w' := by
  have e2 := eq_ask_nil
  go_enter Tryz.func120, Tryz.ntmps120
  go_wp2
  go_ret
  exact ⟨rfl, below_new _ _⟩
theorem ask_none (f : Fn) (first cap : Array Value) (w : World) : Calls Tryz.prog 120 #[nilp, .func f first cap] w fun e w' => e = .returned (.bool false) ∧ Below w.heap.size w w' := by
  have e2 := eq_ask
  have e3 := mk_fn
  go_enter Tryz.func120, Tryz.ntmps120
  go_wp2_with fail
  refine (do_none _ _ _ _).mono ?_
  rintro e w1 ⟨rfl, rfl⟩
  go_wp2
  go_ret
  exact ⟨rfl, below_new _ _⟩
theorem ask_outside (f : Fn) (first cap : Array Value) (h : Th F w a wk zs st O os 0 k T) : Calls Tryz.prog 120 #[ptr a, .func f first cap] w fun e w' => e = .returned (.bool false) ∧ Below w.heap.size w w' := by
  have e2 := eq_ask
  have e3 := mk_fn
  have HH := Lib.hid h
  clear h
  go_enter Tryz.func120, Tryz.ntmps120
  go_wp2_with fail
  refine (do_outside _ _ _ (HH.out.below (below_new w _))).mono ?_
  rintro e w1 ⟨rfl, rfl⟩
  go_wp2
  go_ret
  exact ⟨rfl, below_new _ _⟩
end
end Go.Proofs.YtcegianjpifnbaaGreat
namespace Go.Proofs.YtcegianjpifnbaaGreat
open Go.ChangeShapes Go.WideShapes Go.ChangeAt Go.RowKit
set_option linter.unusedVariables false
set_option linter.unusedSimpArgs false
set_option maxRecDepth 20000

section
variable {F G : Nat → Prop} {w w' : World} {a st ph k : Nat} {zs os : List Int} {wk T O : Value}
theorem Th.ended {Z : World} {A : Option Addr} {m c : Nat} (h : Th F Z a wk zs st O os ph k T) {ws : List Int} (hr : Row 2 0 Z (.slice A m c) ws) :
    Th (fun b => F b ∨ (Value.slice A m c).ownBlock = some b) (((Z.setCell ⟨a, 0, none⟩ .nilFunc).setCell ⟨a, 1, none⟩ (.slice none 0 0)).setCell ⟨a, 3, none⟩ (.slice A m c)) a .nilFunc [] st (.slice A m c) ws ph k (.slice none 0 0) := by
  have h0 := heap_set (j := 0) h.head .nilFunc
  have h1 := heap_set (j := 1) h0 (.slice none 0 0)
  have h2 := heap_set (j := 3) h1 (.slice A m c)
  refine ⟨h2, Row.nil _ _ _, own_set (own_set (own_set hr ⟨_, h.head⟩ ne_int _) ⟨_, h0⟩ ne_int _) ⟨_, h1⟩ ne_int _, .inl h.fa, fun b e => (by cases e), fun b e => .inr e, fun b e => ?_, .inl rfl⟩
  simp only [World.size_setCell]
  rcases e with e | e
  · exact h.lt b e
  · exact (World.ownsRow.lt hr b e).2

set_option maxHeartbeats 1000000 in
theorem end_walk {A : Option Addr} {n c : Nat} {ws : List Int} (h : Th F w a wk zs st O os ph k T) (hs : Sl w A n c ws) (hl : ws.length ≤ 1000) :
    Calls Tryz.prog 65 #[ptr a, .slice A n c] w fun e w' => e = .returned (.tuple #[]) ∧ ∃ F' O', Th F' w' a .nilFunc [] st O' ws ph k (.slice none 0 0) ∧ Only (· = a) w w' ∧ ∀ b, F' b → F b ∨ w.heap.size ≤ b := by
  obtain ⟨W, hW, hb, hc⟩ : ∃ W : World, w.alloc (.cells #[.slice A n c] 24) = W ∧ Below w.heap.size w W ∧ W.cell? ⟨w.heap.size, 0, none⟩ = some (.slice A n c) := ⟨_, rfl, below_new _ _, c_new rfl rfl⟩
  have hcc := (concatK1 w.heap.size A n c ws W hc (hs.below hb) hl)
  have HT := Lib.hid h
  have HB := Lib.hid hb
  clear hs h hb
  go_enter Tryz.func65, Tryz.ntmps65
  go_wp2_with fail
  (try rw [hW])
  refine hcc.mono ?_
  rintro e w1 ⟨v, rfl, hr, hb1⟩
  obtain ⟨A', m', c', rfl⟩ := hr.shape
  have hbb : Below w.heap.size w w1 := HB.out.trans (hb1.mono HB.out.size)
  have h1 := HT.out.below hbb
  have h2 := h1.ended (hr.lower (Nat.zero_le _))
  obtain ⟨c0, c1, c2, c3, c4, c5⟩ := h1.cells
  have f0 := h1.free 0
  have f1 := h1.free 1
  have f3 := h1.free 3
  have HE : Hid (∃ F' O', Th F' (((w1.setCell ⟨a, 0, none⟩ .nilFunc).setCell ⟨a, 1, none⟩ (.slice none 0 0)).setCell ⟨a, 3, none⟩ (.slice A' m' c')) a .nilFunc [] st O' ws ph k (.slice none 0 0) ∧ Only (· = a) w (((w1.setCell ⟨a, 0, none⟩ .nilFunc).setCell ⟨a, 1, none⟩ (.slice none 0 0)).setCell ⟨a, 3, none⟩ (.slice A' m' c')) ∧ ∀ b, F' b → F b ∨ w.heap.size ≤ b) := ⟨_, _, h2, (((Only.of_below _ hbb).then (only_set _ _ _ _)).then (only_set _ _ _ _)).then (only_set _ _ _ _), fun b e => e.imp id fun e => Nat.le_trans HB.out.size (World.ownsRow.lt hr b e).1⟩
  clear h1 h2 hbb hb1 hr hcc hc hW
  go_wp2
  go_end0
  exact ⟨rfl, HE.out⟩

theorem stopped_walk (p : Value) (w : World) : Calls Tryz.prog 64 #[p, waitV] w fun e w' => e = .returned (.tuple #[]) ∧ Below w.heap.size w w' := by
  have hta : ∀ W : World, (Instr.typeAssert waitV 20 140 true).run Tryz.prog W = .ok (.tuple #[.agg #[], .bool true]) W := fun W => by kernel_rfl
  go_enter Tryz.func64, Tryz.ntmps64
  go_wp2
  go_end0
  exact ⟨rfl, below_new _ _⟩

/-- goThrough's deferred function, where work came to its end. -/
theorem catch_idle {B : Nat} (h : Th F w a wk zs st O os ph k T) (hc : w.cell? ⟨B, 0, none⟩ = some (ptr a)) :
    CallsD Tryz.prog 63 #[ptr B] .returning w fun e u' w' => e = .returned (.tuple #[]) ∧ u' = .returning ∧ w' = w.setCell ⟨a, 4, none⟩ (.int .u8 0) := by
  obtain ⟨c0, c1, c2, c3, c4, c5⟩ := h.cells
  have f4 := h.free 4
  refine callsD_of_wpS Tryz.func63 rfl fun c₀ cs hu => ?_
  apply wpS_seq
  apply wpS_region
  simp [wpOpsS, go_sem, recoverD, hu, Tryz.ntmps63, Exit.thenS, hc, c4, f4]
  apply wpS_seq
  apply wpS_region
  simp [wpOpsS, go_sem, recoverD, hu, Exit.thenS]
  apply wpS_seq
  apply wpS_region
  simp [wpOpsS, go_sem, Exit.thenS]
  refine wpS_cond (t := false) (by simp [Act.eval, Array.replicate]) ?_
  simp only [Bool.false_eq_true, if_false]
  refine wpS_of_wp (wp_skip ?_)
  cases c₀
  simp_all [bodyPostS, results, Tryz.results63]

/-- goThrough's deferred function, where work waits. -/
theorem catch_wait {B : Nat} (h : Th F w a wk zs st O os ph k T) (hc : w.cell? ⟨B, 0, none⟩ = some (ptr a)) (hB : B ≠ a) :
    CallsD Tryz.prog 63 #[ptr B] (.panicking waitE) w fun e u' w' => e = .returned (.tuple #[]) ∧ u' = .panicking [{ v := waitV, recovered := true }] ∧ Below w.heap.size (w.setCell ⟨a, 4, none⟩ (.int .u8 0)) w' := by
  obtain ⟨c0, c1, c2, c3, c4, c5⟩ := h.cells
  have f4 := h.free 4
  have hc2 : (w.setCell ⟨a, 4, none⟩ (.int .u8 0)).cell? ⟨B, 0, none⟩ = some (ptr a) := by rw [World.cell?_setCell_other]; exact hc; intro e; injection e with e; exact hB e.symm
  refine callsD_of_wpS Tryz.func63 rfl fun c₀ cs hu => ?_
  apply wpS_seq
  apply wpS_region
  simp [wpOpsS, go_sem, recoverD, hu, Tryz.ntmps63, Exit.thenS, hc, c4, f4]
  apply wpS_seq
  apply wpS_region
  simp [wpOpsS, go_sem, recoverD, hu, Exit.thenS]
  apply wpS_seq
  apply wpS_region
  simp [wpOpsS, go_sem, Exit.thenS]
  refine wpS_cond (t := true) (by simp [Act.eval, Array.replicate]) ?_
  simp only [if_true]
  apply wpS_region
  generalize hW : w.setCell ⟨a, 4, none⟩ (.int .u8 0) = W at *
  simp [wpOpsS, go_sem, hc2]
  refine (stopped_walk _ W).mono ?_
  rintro e w1 ⟨rfl, hb⟩
  have hsz : W.heap.size = w.heap.size := by rw [← hW]; simp
  rw [hsz] at hb
  exact ⟨rfl, _, rfl, .tuple #[], by simp [results, Tryz.results63, go_sem], rfl, rfl, hb⟩
end

/-- A function without results: what its slots hold doesn't matter where it leaves. -/
theorem leaves_tmps {P : Program} {fn : Func} {R : Ending → World → Prop} (hr : ∀ t t', results fn t = results fn t') : ∀ (ds : List Deferred) (u : FrameMode) (w : World) (t t' : Array Value), Leaves P fn t R ds u w → Leaves P fn t' R ds u w
  | [], .returning, w, t, t', h => by
    obtain ⟨v, h1, h2⟩ := h
    exact ⟨v, by rw [hr t' t]; exact h1, h2⟩
  | [], .panicking chain, w, t, t', h => h
  | [], .run, w, t, t', h => h
  | d :: ds, u, w, t, t', ⟨hu, fv, cap, f, args, h1, h2, h3⟩ => ⟨hu, fv, cap, f, args, h1, h2, h3.mono fun e u' w' h => by
      cases e with
      | returned v => exact leaves_tmps hr ds _ w' t t' h
      | panicked chain => exact leaves_tmps hr ds _ w' t t' h
      | outgrown => exact h⟩

theorem only_read {G : Nat → Prop} {w w' : World} {p : Addr} {v : Value} (h : Only G w w') (hn : ¬ G p.block) (hc : w.cell? p = some v) : w'.cell? p = some v := by
  unfold World.cell? at hc ⊢
  rw [h.block p.block (World.block_lt_of_cell? w p hc) hn]
  exact hc
theorem put_defers (s : Act) (d : Option Tmp) (v : Value) : (s.put d v).defers = s.defers := by cases d <;> rfl
abbrev RetP := (Nat → Prop) → List Int → List Int → Nat → World → Prop
abbrev WaitP := (Nat → Prop) → List Int → Nat → World → Prop
/-- What work comes to, gone through from its beginning: its end, with an answer; or it waits. -/
def WEnd (a : Nat) (wk : Value) (RP : RetP) (WP : WaitP) (G : Nat → Prop) (w1 : World) (e : Ending) (w2 : World) : Prop :=
  Only G w1 w2 ∧ ((∃ F' T' zs' st' k' ph A n c ws, e = .returned (.slice A n c) ∧ Sl w2 A n c ws ∧ ws.length ≤ 1000 ∧ ph ≠ 4 ∧ ph < 200 ∧ Th F' w2 a wk zs' st' (.slice none 0 0) [] ph k' T' ∧ RP F' ws zs' st' w2) ∨
    (∃ F' T' zs' st' k', e = .panicked waitE ∧ Th F' w2 a wk zs' st' (.slice none 0 0) [] 4 k' T' ∧ WP F' zs' st' w2))
/-- What the thread is behind that. -/
def Gone (a : Nat) (wk : Value) (RP : RetP) (WP : WaitP) (w' : World) : Prop :=
  (∃ w2 F' ws zs' st' k' F'' O', RP F' ws zs' st' w2 ∧ Th F'' w' a .nilFunc [] st' O' ws 0 k' (.slice none 0 0) ∧ Only (· = a) w2 w' ∧ ∀ b, F'' b → F' b ∨ w2.heap.size ≤ b) ∨
    (∃ w2 F' T' zs' st' k', WP F' zs' st' w2 ∧ Th F' w' a wk zs' st' (.slice none 0 0) [] 0 k' T' ∧ Only (· = a) w2 w')

section
variable {F G : Nat → Prop} {w w' : World} {a st ph k : Nat} {zs os : List Int} {T O : Value}
set_option maxHeartbeats 2000000 in
theorem goThrough_walk {RP : RetP} {WP : WaitP} {f : Nat} {cap args : Array Value} (hargs : #[ptr a] ++ cap = args) (hen : ∀ W : World, (callFunc f args).run Tryz.prog W = .ok (.enter f args) W)
    (h : Th F w a (.func (.func f) #[] cap) zs st (.slice none 0 0) [] 0 k T) (hG : ∀ b, G b → b < w.heap.size)
    (hw : ∀ w1, Th F w1 a (.func (.func f) #[] cap) zs st (.slice none 0 0) [] 1 0 T → Only (· = a) w w1 → Calls Tryz.prog f args w1 (WEnd a (.func (.func f) #[] cap) RP WP G w1)) :
    Calls Tryz.prog 48 #[ptr a] w fun e w' => e = .returned (.tuple #[]) ∧ Gone a (.func (.func f) #[] cap) RP WP w' := by
  have hmf := mk_fn
  obtain ⟨W0, B, hW0, hB, b0, d0⟩ : ∃ (W0 : World) (B : Nat), w.alloc (.cells #[ptr a] 42) = W0 ∧ w.heap.size = B ∧ Below w.heap.size w W0 ∧ W0.cell? ⟨B, 0, none⟩ = some (ptr a) := ⟨_, _, rfl, rfl, below_new _ _, c_new rfl rfl⟩
  have h0 := h.below b0
  have hBa : B ≠ a := by have := h.lt a h.fa; omega
  obtain ⟨c0, c1, c2, c3, c4, c5⟩ := h0.cells
  have f4 := h0.free 4
  have f5 := h0.free 5
  have HH := Lib.hid h0
  have HB := Lib.hid b0
  clear h b0 h0
  go_enter_defers Tryz.func48, Tryz.ntmps48
  go_wp2
  (try rw [hW0]); (try rw [hB])
  have hne : ¬ a = B := fun e => hBa e.symm
  go_region
  obtain ⟨W1, hW1, h1, q1, o1⟩ : ∃ W1 : World, ((W0.setCell ⟨a, 5, none⟩ (.int .i64 0)).setCell ⟨a, 4, none⟩ (.int .u8 1)).drew = W1 ∧ Th F W1 a (.func (.func f) #[] cap) zs st (.slice none 0 0) [] 1 0 T ∧ W1.cell? ⟨B, 0, none⟩ = some (ptr a) ∧ Only (· = a) W0 W1 :=
    ⟨_, rfl, ((HH.out.at_ 0).phase 1).drew, by
      show ((W0.setCell ⟨a, 5, none⟩ (.int .i64 0)).setCell ⟨a, 4, none⟩ (.int .u8 1)).cell? ⟨B, 0, none⟩ = _
      rw [World.cell?_setCell_other, World.cell?_setCell_other]
      · exact d0
      · intro e; injection e with e; exact hne e
      · intro e; injection e with e; exact hne e, ((only_set _ _ _ _).then (only_set _ _ _ _)).then (only_drew _ _)⟩
  rw [hW1]
  clear hW1 c0 c1 c2 c3 c4 c5 f4 f5 d0 hW0
  have HT := Lib.hid h1
  obtain ⟨c0, -, -, -, -, -⟩ := h1.cells
  have HC : Hid (∀ w', Below W1.heap.size W1 w' → w'.cell? ⟨B, 0, none⟩ = some (ptr a) ∧ w'.cell? ⟨a, 0, none⟩ = some (.func (.func f) #[] cap)) := fun w' h => ⟨below_read h q1, below_read h c0⟩
  clear h1
  go_wp2_with fail
  refine region_T (fun _ => false) (fun w' => w'.cell? ⟨B, 0, none⟩ = some (ptr a) ∧ w'.cell? ⟨a, 0, none⟩ = some (.func (.func f) #[] cap)) (by kernel_rfl) ?_
  obtain ⟨X0, hX0, hbX0⟩ : ∃ X0 : World, W1.drew = X0 ∧ Below W1.heap.size W1 X0 := ⟨_, rfl, (Below.refl _ W1).drew⟩
  rw [hX0]
  clear hX0
  have hC := HC.out X0 hbX0
  have hQ : ∀ (c : List PanicEntry) (s s' : Act) (w : World), s.defers = s'.defers → bodyPostD Tryz.prog Tryz.f48 (fun e w' => e = .returned (.tuple #[]) ∧ Gone a (.func (.func f) #[] cap) RP WP w') (.panic c) s w → bodyPostD Tryz.prog Tryz.f48 (fun e w' => e = .returned (.tuple #[]) ∧ Gone a (.func (.func f) #[] cap) RP WP w') (.panic c) s' w := by
    intro c s s' w hd hp
    unfold bodyPostD at hp ⊢
    dsimp only at hp ⊢
    rw [← hd]
    exact leaves_tmps (fun t t' => by simp [results, Tryz.results48]) _ _ _ _ _ hp
  refine takeT (i := 0) (v := ?_) rfl (by kernel_rfl) (by kernel_rfl) (by kernel_rfl) (by kernel_rfl) (fun c s w h => hQ c _ s w (put_defers s _ _) h) hC (by rfl) ?_ ?_
  rotate_left
  · intro w hSw; (try dsimp only at hSw); go_simp; try (with_reducible rfl)
  try simp only [Act.put, List.setIfInBounds_toArray, List.set_cons_zero, List.set_cons_succ]
  refine takeT (i := 4) (v := ?_) rfl (by kernel_rfl) (by kernel_rfl) (by kernel_rfl) (by kernel_rfl) (fun c s w h => hQ c _ s w (put_defers s _ _) h) hC (by rfl) ?_ ?_
  rotate_left
  · intro w hSw; (try dsimp only at hSw); go_simp; try (with_reducible rfl)
  try simp only [Act.put, List.setIfInBounds_toArray, List.set_cons_zero, List.set_cons_succ]
  refine takeT (i := 1) (v := ?_) rfl (by kernel_rfl) (by kernel_rfl) (by kernel_rfl) (by kernel_rfl) (fun c s w h => hQ c _ s w (put_defers s _ _) h) hC (by rfl) ?_ ?_
  rotate_left
  · intro w hSw; (try dsimp only at hSw); go_simp; try (with_reducible rfl)
  try simp only [Act.put, List.setIfInBounds_toArray, List.set_cons_zero, List.set_cons_succ]
  refine takeT (i := 2) (v := ?_) rfl (by kernel_rfl) (by kernel_rfl) (by kernel_rfl) (by kernel_rfl) (fun c s w h => hQ c _ s w (put_defers s _ _) h) hC (by rfl) ?_ ?_
  rotate_left
  · intro w hSw; (try dsimp only at hSw); go_simp; try (with_reducible rfl)
  try simp only [Act.put, List.setIfInBounds_toArray, List.set_cons_zero, List.set_cons_succ]
  refine takeT (i := 3) (v := ?_) rfl (by kernel_rfl) (by kernel_rfl) (by kernel_rfl) (by kernel_rfl) (fun c s w h => hQ c _ s w (put_defers s _ _) h) hC (by rfl) ?_ ?_
  rotate_left
  · intro w hSw; (try dsimp only at hSw); go_simp; try (with_reducible rfl)
  try simp only [Act.put, List.setIfInBounds_toArray, List.set_cons_zero, List.set_cons_succ]
  have hX := HT.out.below hbX0
  have hoX : Only (· = a) w X0 := ((Only.of_below _ HB.out).then o1).then (Only.of_below _ hbX0)
  have hwX := hw X0 hX hoX
  refine oneT (i := 5) (by kernel_rfl) rfl (by rfl) (fun K hK => ?_)
  go_simp
  refine hwX.mono ?_
  have hnG : ¬ G B := fun e => by have := hG B e; omega
  have hBX : B < X0.heap.size := World.block_lt_of_cell? X0 _ hC.1
  clear hwX hw hen hargs
  rintro e X1 ⟨hO, ⟨F', T', zs', st', k', ph, A, n, c, ws, rfl, hs, hl, hp4, hp, h1, hR⟩ | ⟨F', T', zs', st', k', rfl, h1, hR⟩⟩
  · have hbox := only_read hO hnG hC.1
    obtain ⟨g0, -, -, -, g4, -⟩ := h1.cells
    refine hK.out _ _ (fun _ => ⟨hbox, g0⟩) ?_
    clear hK K hC hQ HC HT HB HH hX hoX o1 hO
    try simp only [Act.put, List.setIfInBounds_toArray, List.set_cons_zero, List.set_cons_succ]
    refine oneT (i := 6) (by kernel_rfl) rfl (by rfl) (fun K hK => ?_)
    go_simp
    refine hK.out _ _ (fun _ => ⟨hbox, g0⟩) ?_
    clear hK K
    refine doneT (by kernel_rfl) ?_
    have p4 : ¬ (ph : Int) = 4 := by omega
    have HP : Hid (∀ W, W = X1 → Th F' W a (.func (.func f) #[] cap) zs' st' (.slice none 0 0) [] ph k' T') := fun W e => by subst e; exact h1
    have HS := Lib.hid hs
    have HR := Lib.hid hR
    clear h1 hs hR c0 q1
    generalize hpi : (ph : Int) = pi at *
    go_wp2_with fail
    refine (end_walk (HP.out X1 rfl) HS.out hl).mono ?_
    rintro e X2 ⟨rfl, F2, O2, h2, o2, l2⟩
    have hbox2 := only_read o2 (show ¬ B = a from hBa) hbox
    go_wp2_with fail
    refine leaves_cons (f := 63) (args := #[ptr B]) (by simp) (by simp [go_sem]) ?_
    refine (catch_idle h2 hbox2).mono ?_
    rintro e u' w'' ⟨rfl, rfl, rfl⟩
    refine ⟨.tuple #[], by simp [results, Tryz.results48, go_sem], rfl, .inl ?_⟩
    exact ⟨X1, F', ws, zs', st', k', F2, O2, HR.out, h2.phase 0, o2.then (only_set _ _ _ _), l2⟩
  · have hbox := only_read hO hnG hC.1
    refine leaves_cons (f := 63) (args := #[ptr B]) (by simp) (by simp [go_sem]) ?_
    refine (catch_wait h1 hbox hBa).mono ?_
    rintro e u' w'' ⟨rfl, rfl, hb⟩
    refine ⟨.tuple #[], by simp [results, Tryz.results48, go_sem], rfl, .inr ?_⟩
    exact ⟨X1, F', T', zs', st', k', hR, (h1.phase 0).below (by rw [World.size_setCell]; exact hb), (only_set _ _ _ _).then (Only.of_below _ (by rw [World.size_setCell]; exact hb))⟩

/-- Step. -/
theorem step_done (h : Th F w a .nilFunc zs st O os ph k T) : Calls Tryz.prog 29 #[ptr a] w fun e w' => e = .returned (.bool true) ∧ w = w' := by
  have hd := done_yes h
  clear h
  go_enter Tryz.func29, Tryz.ntmps29
  go_wp2_with fail
  refine hd.mono ?_
  rintro e w1 ⟨rfl, rfl⟩
  clear hd
  go_wp2
  go_ret
  exact ⟨rfl, rfl⟩
theorem step_nil (w : World) : Calls Tryz.prog 29 #[nilp] w fun e w' => e = .returned (.bool true) ∧ w = w' := by
  have hd := done_nil w
  go_enter Tryz.func29, Tryz.ntmps29
  go_wp2_with fail
  refine hd.mono ?_
  rintro e w1 ⟨rfl, rfl⟩
  clear hd
  go_wp2
  go_ret
  exact ⟨rfl, rfl⟩
/-- Step, of one that isn't at its end: what its work comes to tells which. -/
theorem step_walk {RP : RetP} {WP : WaitP} {f : Nat} {cap args : Array Value} (hargs : #[ptr a] ++ cap = args) (hen : ∀ W : World, (callFunc f args).run Tryz.prog W = .ok (.enter f args) W)
    (h : Th F w a (.func (.func f) #[] cap) zs st (.slice none 0 0) [] 0 k T) (hG : ∀ b, G b → b < w.heap.size)
    (hw : ∀ w1, Th F w1 a (.func (.func f) #[] cap) zs st (.slice none 0 0) [] 1 0 T → Only (· = a) w w1 → Calls Tryz.prog f args w1 (WEnd a (.func (.func f) #[] cap) RP WP G w1)) :
    Calls Tryz.prog 29 #[ptr a] w fun e w' => 
      (∃ w2 F' ws zs' st' k' F'' O', e = .returned (.bool true) ∧ RP F' ws zs' st' w2 ∧ Th F'' w' a .nilFunc [] st' O' ws 0 k' (.slice none 0 0) ∧ Only (· = a) w2 w' ∧ ∀ b, F'' b → F' b ∨ w2.heap.size ≤ b) ∨
      (∃ w2 F' T' zs' st' k', e = .returned (.bool false) ∧ WP F' zs' st' w2 ∧ Th F' w' a (.func (.func f) #[] cap) zs' st' (.slice none 0 0) [] 0 k' T' ∧ Only (· = a) w2 w') := by
  have hd := done_no h
  have hgo := goThrough_walk hargs hen h hG hw
  obtain ⟨c0, c1, c2, c3, c4, c5⟩ := h.cells
  clear h hw hen hargs c0 c1 c2 c3 c5
  go_enter Tryz.func29, Tryz.ntmps29
  go_wp2_with fail
  refine hd.mono ?_
  rintro e w1 ⟨rfl, rfl⟩
  clear hd
  go_wp2_with fail
  refine hgo.mono ?_
  rintro e w2 ⟨rfl, ⟨x, F', ws, zs', st', k', F'', O', h1, h2, h3, h4⟩ | ⟨x, F', T', zs', st', k', h1, h2, h3⟩⟩
  · clear hgo c4
    have hd := done_yes h2
    have HE : Hid (∃ w2_1 F' ws zs' st' k' F'' O', RP F' ws zs' st' w2_1 ∧ Th F'' w2 a .nilFunc [] st' O' ws 0 k' (.slice none 0 0) ∧ Only (· = a) w2_1 w2 ∧ ∀ b, F'' b → F' b ∨ w2_1.heap.size ≤ b) := ⟨x, F', ws, zs', st', k', F'', O', h1, h2, h3, h4⟩
    clear h1 h2 h3 h4
    go_wp2_with fail
    refine hd.mono ?_
    rintro e w1 ⟨rfl, rfl⟩
    clear hd
    go_wp2
    go_ret
    obtain ⟨x, F', ws, zs', st', k', F'', O', h1, h2, h3, h4⟩ := HE.out
    exact .inl ⟨x, F', ws, zs', st', k', F'', O', rfl, h1, h2, h3, h4⟩
  · clear hgo c4
    have hd := done_no h2
    have HE : Hid (∃ w2_1 F' T' zs' st' k', WP F' zs' st' w2_1 ∧ Th F' w2 a (.func (.func f) #[] cap) zs' st' (.slice none 0 0) [] 0 k' T' ∧ Only (· = a) w2_1 w2) := ⟨x, F', T', zs', st', k', h1, h2, h3⟩
    clear h1 h2 h3
    go_wp2_with fail
    refine hd.mono ?_
    rintro e w1 ⟨rfl, rfl⟩
    clear hd
    go_wp2
    go_ret
    obtain ⟨x, F', T', zs', st', k', h1, h2, h3⟩ := HE.out
    exact .inr ⟨x, F', T', zs', st', k', rfl, h1, h2, h3⟩
end
end Go.Proofs.YtcegianjpifnbaaGreat
namespace Go.Proofs.YtcegianjpifnbaaGreat
open Go.ChangeShapes Go.WideShapes Go.ChangeAt Go.RowKit
set_option linter.unusedVariables false
set_option linter.unusedSimpArgs false
set_option maxRecDepth 20000
section
variable {F G : Nat → Prop} {w w' : World} {a st ph k : Nat} {zs os : List Int} {wk T O : Value}
/-- next, where this Step's touch isn't done yet: it is done, and what it told is kept. -/
theorem next_freshM {S : Int → World → Prop} {f : Nat} {cap : Array Value} (hen : ∀ W : World, (callFunc f cap).run Tryz.prog W = .ok (.enter f cap) W) (h : Th F w a wk zs st (.slice none 0 0) os 1 k T) (hl : zs.length ≤ 1000) (hst : st ≤ 1000)
    (ht : Calls Tryz.prog f cap (w.setCell ⟨a, 4, none⟩ (.int .u8 2)) fun e w2 => ∃ z, e = .returned (.int .i64 z) ∧ Th F w2 a wk zs st (.slice none 0 0) os 2 k T ∧ S z w2) :
    Calls Tryz.prog 80 #[ptr a, .func (.func f) cap #[]] w fun e w' => e = .returned (.tuple #[]) ∧ ∃ z w2 F' T', S z w2 ∧ Th F' w' a wk (zs ++ [z]) (st + 1) (.slice none 0 0) os 3 k T' ∧ Only F w2 w' ∧ ∀ b, F' b → F b ∨ w2.heap.size ≤ b := by
  obtain ⟨c0, c1, c2, c3, c4, c5⟩ := h.cells
  have f4 := h.free 4
  clear h c1 c0 c2 c3 c5
  go_enter Tryz.func80, Tryz.ntmps80
  go_wp2_with fail
  refine ht.mono ?_
  rintro e w2 ⟨z, rfl, h2, hS⟩
  clear ht hen c4 f4
  obtain ⟨W3, hW3, h3, o3⟩ : ∃ W3 : World, w2.setCell ⟨a, 4, none⟩ (.int .u8 3) = W3 ∧ Th F W3 a wk zs st (.slice none 0 0) os 3 k T ∧ Only F w2 W3 := ⟨_, rfl, h2.phase 3, (only_set w2 a 4 _).mono fun b e => by subst e; exact h2.fa⟩
  obtain ⟨-, -, -, -, c4, -⟩ := h2.cells
  have f4 := h2.free 4
  obtain ⟨-, c1, c2, -, -, -⟩ := h3.cells
  obtain ⟨W4, s, hW4, hs, b4, e4⟩ : ∃ (W4 : World) (s : Nat), W3.alloc (.cells #[.int .i64 z] 2) = W4 ∧ W3.heap.size = s ∧ Below W3.heap.size W3 W4 ∧ W4.cell? ⟨s, 0, none⟩ = some (.int .i64 z) := ⟨_, _, rfl, rfl, below_new _ _, c_new rfl rfl⟩
  have h4 := h3.below b4
  obtain ⟨A', m', n', W5, hrun, r5, g5, l5⟩ := run_pushS h4.told (sl_one e4) (by simp; omega) (by simp)
  have hT : ∃ A n c, T = .slice A n c := h2.told.shape
  obtain ⟨A, n, c, rfl⟩ := hT
  obtain ⟨h6, o6, c6, f6⟩ := h4.pushed (n := 0) (c := 0) (A := none) r5 g5 l5
  obtain ⟨W6, hW6⟩ : ∃ W6 : World, W5.setCell ⟨a, 1, none⟩ (.slice A' m' n') = W6 := ⟨_, rfl⟩
  rw [hW6] at h6 o6
  have h7 := h6.stp (st + 1)
  obtain ⟨-, -, d2, -, -, -⟩ := h6.cells
  have f2 := h6.free 2
  have HE : Hid (∃ z w2_1 F' T'_1, S z w2_1 ∧ Th F' (W6.setCell ⟨a, 2, none⟩ (.int .i64 ((st + 1 : Nat) : Int))) a wk (zs ++ [z]) (st + 1) (.slice none 0 0) os 3 k T'_1 ∧ Only F w2_1 (W6.setCell ⟨a, 2, none⟩ (.int .i64 ((st + 1 : Nat) : Int))) ∧ ∀ b, F' b → F b ∨ w2_1.heap.size ≤ b) :=
    ⟨z, w2, _, _, hS, h7, ((o3.then (Only.of_below F b4)).then o6).then ((only_set W6 a 2 _).mono fun b e => by subst e; exact h2.fa), fun b e => by
      rcases e with e | e
      · exact .inl e
      rcases l5 b e with e | e
      · exact .inl (h4.ft b e)
      · right
        have h1 := o3.size
        have h2 := b4.size
        omega⟩
  clear h2 h3 h4 h6 h7 o3 o6 b4 r5 g5 l5 hS
  go_wp2_with (at_builtin; refine Lib.wpList_append_run _ rfl _ _ _ _ rfl _ _ rfl rfl _ _ hrun ?_)
  go_end0
  exact ⟨rfl, HE.out⟩

set_option maxHeartbeats 1000000 in
/-- Do, of this Step's touch: it is done. -/
theorem do_freshM {S : Int → World → Prop} {f : Nat} {cap : Array Value} (hen : ∀ W : World, (callFunc f cap).run Tryz.prog W = .ok (.enter f cap) W) (h : Th F w a wk zs st (.slice none 0 0) os 1 k T) (hk : k = zs.length) (hl : zs.length ≤ 900) (hst : st ≤ 1000)
    (ht : ∀ w1, Th F w1 a wk zs st (.slice none 0 0) os 2 k T → Only (· = a) w w1 → Calls Tryz.prog f cap w1 fun e w2 => ∃ z, e = .returned (.int .i64 z) ∧ Th F w2 a wk zs st (.slice none 0 0) os 2 k T ∧ S z w2) :
    Calls Tryz.prog 70 #[ptr a, .func (.func f) cap #[]] w fun e w' => ∃ z w2 F' T', e = .returned (.int .i64 z) ∧ S z w2 ∧ Th F' w' a wk (zs ++ [z]) (st + 1) (.slice none 0 0) os 3 (k + 1) T' ∧ Only F w2 w' ∧ ∀ b, F' b → F b ∨ w2.heap.size ≤ b := by
  have e2 := eq_touch
  have ha := atWork_walk h (by omega)
  obtain ⟨A, n, c, rfl⟩ := h.told.shape
  have hs := h.told.sl
  have hn := hs.len
  have HH := Lib.hid h
  obtain ⟨-, c1, -, -, -, c5⟩ := h.cells
  obtain rfl : k = n := by omega
  clear h hs
  go_enter Tryz.func70, Tryz.ntmps70
  go_wp2_with fail
  refine ha.mono ?_
  rintro e w1 ⟨rfl, rfl⟩
  clear ha
  go_wp2_with fail
  go_quiet (fail)
  go_wp2_with fail
  refine (next_freshM hen (HH.out.drewN nq) (by omega) hst (ht _ ((HH.out.drewN nq).phase 2) ((only_drewN _ _ _).then (only_set _ _ _ _)))).mono ?_
  rintro e W ⟨rfl, z, w2, F', T', hS, hT, hO, hF⟩
  clear c1 c5 ht hen HH
  have hfa : F' a := hT.fa
  obtain ⟨A', n', c', rfl⟩ := hT.told.shape
  obtain ⟨-, c1, -, -, -, c5⟩ := hT.cells
  have f5 := hT.free 5
  obtain ⟨W2, hW2, h2, hO2⟩ : ∃ W2 : World, W.setCell ⟨a, 5, none⟩ (.int .i64 ((k : Int) + 1)) = W2 ∧ Th F' W2 a wk (zs ++ [z]) (st + 1) (.slice none 0 0) os 3 (k + 1) (.slice A' n' c') ∧ Only (· = a) W W2 := ⟨_, rfl, hT.at_ (k + 1), only_set _ _ _ _⟩
  have hn' : n' = k + 1 := by have := h2.told.sl.len; rw [this, List.length_append, hk]; rfl
  obtain ⟨b, off, rfl, hb, hc⟩ := h2.told.sl.at0 (k := k) (by omega)
  have hz : (zs ++ [z]).getD k 0 = z := by subst hk; simp [List.getD]
  rw [hz] at hc
  clear hz
  have H2 := Lib.hid h2
  obtain ⟨-, q1, -, -, -, q5⟩ := h2.cells
  have q5' : W2.cell? ⟨a, 5, none⟩ = some (.int .i64 ((k : Int) + 1)) := q5
  have h3 : IntKind.i64.wrap ((k : Int) + 1 - 1) = (k : Int) := by rw [Int.add_sub_cancel]; exact IntWalk.i64_in _ (by omega)
  have i1 : (0 : Int) ≤ (k : Int) := by omega
  have i2 : (k : Int) < (n' : Int) := by omega
  have hka : k ≤ 900 := by omega
  have HE : Hid (∀ m, ∃ w2_1 F'_1 T', S z w2_1 ∧ Th F'_1 (W2.drewN m) a wk (zs ++ [z]) (st + 1) (.slice none 0 0) os 3 (k + 1) T' ∧ Only F w2_1 (W2.drewN m) ∧ ∀ b, F'_1 b → F b ∨ w2_1.heap.size ≤ b) := fun m => ⟨w2, F', _, hS, h2.drewN m, (hO.trans hO2 (fun b e => by subst e; exact (hF _ hfa))).then (only_drewN _ _ _), hF⟩
  clear hT h2 q5 hO hO2 hS hF hfa hn hk
  go_wp2_with fail
  go_quiet (fail)
  go_wp2
  go_ret
  obtain ⟨w2', F'', T'', r1, r2, r3, r4⟩ := HE.out nq
  exact ⟨z, w2', F'', T'', rfl, r1, r2, r3, r4⟩

end

def b2i (x : Bool) : Int := if x then 1 else 0
theorem b2i_ne (x : Bool) : (b2i x != 0) = x := by cases x <;> rfl
section
variable {F G F' : Nat → Prop} {w w' wr : World} {a st ph k Bk By : Nat} {zs os : List Int} {wk T O : Value} {v : Int} {x : Bool}
theorem ask1_walk {f : Nat} {cap : Array Value} {S : Bool → World → Prop} {Bx : Nat} (hen : ∀ W : World, (callFunc f cap).run Tryz.prog W = .ok (.enter f cap) W) (hc : w.cell? ⟨Bx, 0, none⟩ = some (.func (.func f) #[] cap))
    (ht : Calls Tryz.prog f cap w fun e w2 => ∃ b, e = .returned (.bool b) ∧ S b w2) :
    Calls Tryz.prog 143 #[ptr Bx] w fun e w2 => ∃ b, e = .returned (.int .i64 (b2i b)) ∧ S b w2 := by
  go_enter Tryz.func143, Tryz.ntmps143
  go_wp2_with fail
  refine ht.mono ?_
  clear ht
  rintro e w2 ⟨b, rfl, hS⟩
  have HS := Lib.hid hS
  clear hS hc hen
  cases b with
  | true =>
    go_wp2
    go_ret
    exact ⟨true, rfl, HS.out⟩
  | false =>
    go_wp2
    go_ret
    exact ⟨false, rfl, HS.out⟩

theorem ask_replay (f : Fn) (first cap : Array Value) (h : Th F w a wk zs st O os 1 k T) (hk : k < zs.length) (hl : zs.length ≤ 1000) : Calls Tryz.prog 120 #[ptr a, .func f first cap] w fun e w' => e = .returned (.bool (zs.getD k 0 != 0)) ∧ Th F w' a wk zs st O os 1 (k + 1) T ∧ Only (· = a) w w' := by
  have e2 := eq_ask
  have e3 := mk_fn
  have HH := Lib.hid (h.below (below_new w (.cells #[.func f first cap] 30)))
  have hdo := do_replay (.func 143) #[] #[ptr w.heap.size] HH.out hk hl
  clear h
  go_enter Tryz.func120, Tryz.ntmps120
  go_wp2_with fail
  refine hdo.mono ?_
  rintro e w1 ⟨rfl, h1, o1⟩
  have HE : Hid (Th F w1 a wk zs st O os 1 (k + 1) T ∧ Only (· = a) w w1) := ⟨h1, (Only.of_below _ (below_new w _)).then o1⟩
  clear hdo h1 o1
  obtain ⟨z, hz⟩ : ∃ z, zs.getD k 0 = z := ⟨_, rfl⟩
  rw [hz]
  have HZ := Lib.hid hz
  clear hz
  go_wp2
  go_ret
  exact ⟨by rw [HZ.out]; first | rfl | simp, HE.out.1, HE.out.2⟩

theorem ask_wait (f : Fn) (first cap : Array Value) (h : Th F w a wk zs st O os 3 k T) (hk : k = zs.length) (hl : zs.length ≤ 1000) : Calls Tryz.prog 120 #[ptr a, .func f first cap] w fun e w' => e = .panicked waitE ∧ Th F w' a wk zs st O os 4 k T ∧ Only (· = a) w w' := by
  have e2 := eq_ask
  have e3 := mk_fn
  have HH := Lib.hid (h.below (below_new w (.cells #[.func f first cap] 30)))
  have hdo := do_wait (.func 143) #[] #[ptr w.heap.size] HH.out hk hl
  clear h
  go_enter Tryz.func120, Tryz.ntmps120
  go_wp2_with fail
  refine hdo.mono ?_
  rintro e w1 ⟨rfl, h1, o1⟩
  exact ⟨rfl, rfl, h1, (Only.of_below _ (below_new w _)).then o1⟩

theorem ask_fresh {S : Bool → World → Prop} {f : Nat} {cap : Array Value} (hen : ∀ W : World, (callFunc f cap).run Tryz.prog W = .ok (.enter f cap) W) (h : Th F w a wk zs st (.slice none 0 0) os 1 k T) (hk : k = zs.length) (hl : zs.length ≤ 900) (hst : st ≤ 1000)
    (ht : ∀ w1, Th F w1 a wk zs st (.slice none 0 0) os 2 k T → Only (· = a) w w1 → Calls Tryz.prog f cap w1 fun e w2 => ∃ b, e = .returned (.bool b) ∧ Th F w2 a wk zs st (.slice none 0 0) os 2 k T ∧ S b w2) :
    Calls Tryz.prog 120 #[ptr a, .func (.func f) #[] cap] w fun e w' => ∃ b w2 F' T', e = .returned (.bool b) ∧ S b w2 ∧ Th F' w' a wk (zs ++ [b2i b]) (st + 1) (.slice none 0 0) os 3 (k + 1) T' ∧ Only F w2 w' ∧ ∀ b, F' b → F b ∨ w2.heap.size ≤ b := by
  have e2 := eq_ask
  have e3 := mk_fn
  have hlt : a < w.heap.size := h.lt a h.fa
  have bb := below_new w (.cells #[.func (.func f) #[] cap] 30)
  have cc : (w.alloc (.cells #[.func (.func f) #[] cap] 30)).cell? ⟨w.heap.size, 0, none⟩ = some (.func (.func f) #[] cap) := c_new rfl rfl
  have hdo := do_fresh (f := 143) (cap := #[ptr w.heap.size]) (S := fun z w2 => ∃ b, z = b2i b ∧ S b w2) (fun W => rfl) (h.below bb) hk hl hst (by
    intro w1 hT hO
    have hc1 := only_read hO (show ¬ w.heap.size = a by omega) cc
    refine (ask1_walk hen hc1 (ht w1 hT ((Only.of_below _ bb).then hO))).mono ?_
    rintro e w2 ⟨b, rfl, hT2, hS⟩
    exact ⟨b2i b, rfl, hT2, b, rfl, hS⟩)
  clear h ht bb cc hen
  go_enter Tryz.func120, Tryz.ntmps120
  go_wp2_with fail
  refine hdo.mono ?_
  clear hdo
  rintro e w1 ⟨z, w2, F', T', rfl, ⟨b, rfl, hS⟩, h1, o1, s1⟩
  have HE : Hid (∃ w2 F' T', S b w2 ∧ Th F' w1 a wk (zs ++ [b2i b]) (st + 1) (.slice none 0 0) os 3 (k + 1) T' ∧ Only F w2 w1 ∧ ∀ b, F' b → F b ∨ w2.heap.size ≤ b) := ⟨w2, F', T', hS, h1, o1, s1⟩
  clear hS h1 o1 s1
  have hbn := b2i_ne b
  have HBN := Lib.hid hbn
  clear hbn
  obtain ⟨zz, hzz⟩ : ∃ zz, b2i b = zz := ⟨_, rfl⟩
  rw [hzz] at HBN ⊢
  clear hzz
  go_wp2
  go_ret
  obtain ⟨w2, F', T', r1, r2, r3, r4⟩ := HE.out
  exact ⟨b, w2, F', T', by first | (rw [← HBN.out]; rfl) | (simp [← HBN.out]), r1, r2, r3, r4⟩

end
end Go.Proofs.YtcegianjpifnbaaGreat
