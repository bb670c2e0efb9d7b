/-
  A thread in memory; what thread's New, Done, Steps, Out, atWork, next, Do and Ask return, and what the thread is behind them.
-/
import Derived.Test.YtmnbdhngadjmiaaConcat8
import Derived.Test.YtmnbdhngadjmiaaTail
namespace Go.Proofs.Ytmnbdhngadjmiaa
open Go.ChangeShapes Go.WideShapes Go.ChangeAt Go.RowKit
set_option linter.unusedVariables false
set_option linter.unusedSimpArgs false
set_option maxRecDepth 20000

abbrev thT : TypeId := 116
abbrev cellsT (wk T : Value) (st : Nat) (O : Value) (ph k : Nat) : Array Value := #[wk, T, .int .i64 (st : Int), O, .int .u8 (ph : Int), .int .i64 (k : Int)]
/-- A thread at block a: its work, what was told, how many touches there were, its answer, how far a Step is, and how many touches work has come by. -/
structure Th (F : Nat → Prop) (w : World) (a : Nat) (wk : Value) (zs : List Int) (st : Nat) (O : Value) (os : List Int) (ph k : Nat) (T : Value) : Prop where
  head : w.heap[a]? = some (.cells (cellsT wk T st O ph k) thT (0, 0))
  told : Row 2 0 w T zs
  out : Row 2 0 w O os
  fa : F a
  ft : ∀ b, T.ownBlock = some b → F b
  fo : ∀ b, O.ownBlock = some b → F b
  lt : ∀ b, F b → b < w.heap.size
  ap : T = .slice none 0 0 ∨ O = .slice none 0 0

theorem ne_int : thT ≠ 2 := by decide
theorem heap_set {w : World} {a j : Nat} {cs : Array Value} {t : TypeId} (h : w.heap[a]? = some (.cells cs t (0, 0))) (v : Value) : (w.setCell ⟨a, j, none⟩ v).heap[a]? = some (.cells (cs.setIfInBounds j v) t (0, 0)) := by
  exact heap_setCell_same w a j cs t v h
section
variable {F G : Nat → Prop} {w w' : World} {a st ph k : Nat} {zs os : List Int} {wk T O : Value}
theorem Th.keep (h : Th F w a wk zs st O os ph k T) (hb : ∀ b, F b → w'.heap[b]? = w.heap[b]?) (hs : w.heap.size ≤ w'.heap.size) : Th F w' a wk zs st O os ph k T :=
  ⟨(hb a h.fa).trans h.head, own_at h.told fun b e => hb b (h.ft b e), own_at h.out fun b e => hb b (h.fo b e), h.fa, h.ft, h.fo, fun b e => Nat.lt_of_lt_of_le (h.lt b e) hs, h.ap⟩
theorem Th.below (h : Th F w a wk zs st O os ph k T) (hb : Below w.heap.size w w') : Th F w' a wk zs st O os ph k T := h.keep (fun b hF => hb.block b (h.lt b hF)) hb.size
theorem Th.only (h : Th F w a wk zs st O os ph k T) (hb : Only G w w') (hd : ∀ b, F b → ¬ G b) : Th F w' a wk zs st O os ph k T := h.keep (fun b hF => hb.block b (h.lt b hF) (hd b hF)) hb.size
theorem Th.drew (h : Th F w a wk zs st O os ph k T) : Th F w.drew a wk zs st O os ph k T := ⟨h.head, h.told, h.out, h.fa, h.ft, h.fo, h.lt, h.ap⟩
theorem Th.drewN (h : Th F w a wk zs st O os ph k T) (n : Nat) : Th F (w.drewN n) a wk zs st O os ph k T := ⟨h.head, h.told, h.out, h.fa, h.ft, h.fo, h.lt, h.ap⟩
theorem only_drewN (F : Nat → Prop) (w : World) (n : Nat) : Only F w (w.drewN n) := ⟨rfl, rfl, rfl, Nat.le_refl _, fun _ _ _ => rfl⟩
theorem only_drew (F : Nat → Prop) (w : World) : Only F w w.drew := ⟨rfl, rfl, rfl, Nat.le_refl _, fun _ _ _ => rfl⟩
theorem Th.cells (h : Th F w a wk zs st O os ph k T) : w.cell? ⟨a, 0, none⟩ = some wk ∧ w.cell? ⟨a, 1, none⟩ = some T ∧ w.cell? ⟨a, 2, none⟩ = some (.int .i64 (st : Int)) ∧ w.cell? ⟨a, 3, none⟩ = some O ∧ w.cell? ⟨a, 4, none⟩ = some (.int .u8 (ph : Int)) ∧ w.cell? ⟨a, 5, none⟩ = some (.int .i64 (k : Int)) :=
  ⟨by rw [cell_of_row w a _ _ _ (0, 0) h.head]; rfl, by rw [cell_of_row w a _ _ _ (0, 0) h.head]; rfl, by rw [cell_of_row w a _ _ _ (0, 0) h.head]; rfl, by rw [cell_of_row w a _ _ _ (0, 0) h.head]; rfl, by rw [cell_of_row w a _ _ _ (0, 0) h.head]; rfl, by rw [cell_of_row w a _ _ _ (0, 0) h.head]; rfl⟩
theorem Th.free (h : Th F w a wk zs st O os ph k T) (j : Nat) : w.frozen? ⟨a, j, none⟩ = false := frozen_of_row w a j _ _ h.head
/-- A store into one of the thread's own cells. -/
theorem Th.set (h : Th F w a wk zs st O os ph k T) (j : Nat) (v : Value) : (w.setCell ⟨a, j, none⟩ v).heap[a]? = some (.cells ((cellsT wk T st O ph k).setIfInBounds j v) thT (0, 0)) ∧ Row 2 0 (w.setCell ⟨a, j, none⟩ v) T zs ∧ Row 2 0 (w.setCell ⟨a, j, none⟩ v) O os :=
  ⟨heap_set h.head v, own_set h.told ⟨_, h.head⟩ ne_int v, own_set h.out ⟨_, h.head⟩ ne_int v⟩
theorem Th.phase (h : Th F w a wk zs st O os ph k T) (p : Nat) : Th F (w.setCell ⟨a, 4, none⟩ (.int .u8 (p : Int))) a wk zs st O os p k T :=
  ⟨(h.set 4 _).1, (h.set 4 _).2.1, (h.set 4 _).2.2, h.fa, h.ft, h.fo, fun b e => by simpa using h.lt b e, h.ap⟩
theorem Th.at_ (h : Th F w a wk zs st O os ph k T) (k' : Nat) : Th F (w.setCell ⟨a, 5, none⟩ (.int .i64 (k' : Int))) a wk zs st O os ph k' T :=
  ⟨(h.set 5 _).1, (h.set 5 _).2.1, (h.set 5 _).2.2, h.fa, h.ft, h.fo, fun b e => by simpa using h.lt b e, h.ap⟩
theorem Th.stp (h : Th F w a wk zs st O os ph k T) (k' : Nat) : Th F (w.setCell ⟨a, 2, none⟩ (.int .i64 (k' : Int))) a wk zs k' O os ph k T :=
  ⟨(h.set 2 _).1, (h.set 2 _).2.1, (h.set 2 _).2.2, h.fa, h.ft, h.fo, fun b e => by simpa using h.lt b e, h.ap⟩
theorem only_set (w : World) (a j : Nat) (v : Value) : Only (· = a) w (w.setCell ⟨a, j, none⟩ v) := Only.set (· = a) w (p := ⟨a, j, none⟩) rfl v
end

/-- New. -/
theorem th_new (w : World) (wk : Value) : Th (fun b => b = w.heap.size) (w.alloc (.cells #[wk, .slice none 0 0, .int .i64 0, .slice none 0 0, .int .u8 0, .int .i64 0] thT)) w.heap.size wk [] 0 (.slice none 0 0) [] 0 0 (.slice none 0 0) :=
  ⟨heap_alloc_new w _, Row.nil _ _ _, Row.nil _ _ _, rfl, fun b e => (by cases e), fun b e => (by cases e), fun b e => by subst e; simp, .inl rfl⟩
theorem new_func (fn : Fn) (first cap : Array Value) (w : World) : Calls Try.prog 56 #[.func fn first cap] w fun e w' => e = .returned (ptr w.heap.size) ∧ Th (fun b => b = w.heap.size) w' w.heap.size (.func fn first cap) [] 0 (.slice none 0 0) [] 0 0 (.slice none 0 0) ∧ Below w.heap.size w w' := by
  go_enter Try.func56, Try.ntmps56
  go_wp2
  go_ret
  exact ⟨rfl, th_new w _, below_new _ _⟩
theorem new_nil (w : World) : Calls Try.prog 56 #[.nilFunc] w fun e w' => e = .returned (ptr w.heap.size) ∧ Th (fun b => b = w.heap.size) w' w.heap.size .nilFunc [] 0 (.slice none 0 0) [] 0 0 (.slice none 0 0) ∧ Below w.heap.size w w' := by
  go_enter Try.func56, Try.ntmps56
  go_wp2
  go_ret
  exact ⟨rfl, th_new w _, below_new _ _⟩

theorem eq_work (fn : Fn) (first cap : Array Value) (w : World) : (binOp BinOp.eql 104 (.func fn first cap) .nilFunc).run Try.prog w = .ok (.bool false) w := by kernel_rfl
theorem eq_work_nil (w : World) : (binOp BinOp.eql 104 .nilFunc .nilFunc).run Try.prog w = .ok (.bool true) w := by kernel_rfl
theorem eq_touch (fn : Fn) (first cap : Array Value) (w : World) : (binOp BinOp.eql 46 (.func fn first cap) .nilFunc).run Try.prog w = .ok (.bool false) w := by kernel_rfl
theorem eq_touch_nil (w : World) : (binOp BinOp.eql 46 .nilFunc .nilFunc).run Try.prog w = .ok (.bool true) w := by kernel_rfl
theorem eq_ask (fn : Fn) (first cap : Array Value) (w : World) : (binOp BinOp.eql 22 (.func fn first cap) .nilFunc).run Try.prog w = .ok (.bool false) w := by kernel_rfl
theorem eq_ask_nil (w : World) : (binOp BinOp.eql 22 .nilFunc .nilFunc).run Try.prog w = .ok (.bool true) w := by kernel_rfl
theorem mk_fn (fn : Fn) (first cap : Array Value) (w : World) : (Instr.makeFunc fn first cap).run Try.prog w = .ok (.func fn first cap) w := rfl

section
variable {F G : Nat → Prop} {w w' : World} {a st ph k : Nat} {zs os : List Int} {wk T O : Value}
/-- Done. -/
theorem done_no {fn : Fn} {first cap : Array Value} (h : Th F w a (.func fn first cap) zs st O os ph k T) : Calls Try.prog 43 #[ptr a] w fun e w' => e = .returned (.bool false) ∧ w = w' := by
  obtain ⟨c0, c1, c2, c3, c4, c5⟩ := h.cells
  clear h c1 c2 c3 c4 c5
  have e1 := eq_work
  have e2 := eq_work_nil
  go_enter Try.func43, Try.ntmps43
  go_wp2
  go_ret
  exact ⟨rfl, rfl⟩
theorem done_yes (h : Th F w a .nilFunc zs st O os ph k T) : Calls Try.prog 43 #[ptr a] w fun e w' => e = .returned (.bool true) ∧ w = w' := by
  obtain ⟨c0, c1, c2, c3, c4, c5⟩ := h.cells
  clear h c1 c2 c3 c4 c5
  have e1 := eq_work
  have e2 := eq_work_nil
  go_enter Try.func43, Try.ntmps43
  go_wp2
  go_ret
  exact ⟨rfl, rfl⟩
theorem done_nil (w : World) : Calls Try.prog 43 #[nilp] w fun e w' => e = .returned (.bool true) ∧ w = w' := by
  go_enter Try.func43, Try.ntmps43
  go_wp2
  go_ret
  exact ⟨rfl, rfl⟩
/-- Out. -/
theorem out_nil (w : World) : Calls Try.prog 55 #[nilp] w fun e w' => e = .returned (.slice none 0 0) ∧ w = w' := by
  go_enter Try.func55, Try.ntmps55
  go_wp2
  go_ret
  exact ⟨rfl, rfl⟩
end
end Go.Proofs.Ytmnbdhngadjmiaa
