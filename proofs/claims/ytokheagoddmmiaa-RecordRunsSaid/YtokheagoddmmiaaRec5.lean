/-
  What record's New, Len, at, State, All, Set, SetAll return, and what the table is behind them.
-/
import Derived.Test.YtokheagoddmmiaaIt5
import Derived.Test.YtokheagoddmmiaaTail
namespace Go.Proofs.Ytokheagoddmmiaa
open Go.ChangeShapes Go.WideShapes Go.ChangeAt Go.RowKit
set_option linter.unusedVariables false
set_option linter.unusedSimpArgs false
set_option maxRecDepth 20000

abbrev nilp : Value := .pointer none
abbrev itT : TypeId := 59
/-- A table at block a: of m records at most, its items are l. -/
structure Tb (F : Nat → Prop) (w : World) (a m : Nat) (l : List It) (P : Value) : Prop where
  its : Its itT F w P l
  head : w.heap[a]? = some (.cells #[.int .i64 (m : Int), P] 56 (0, 0))
  fa : F a
def mostOf (m : Int) : Nat := (min (max m 0) 65536).toNat

theorem itT_ne : itT ≠ 30 ∧ itT ≠ 2 ∧ itT ≠ 56 := by decide
section
variable {F G : Nat → Prop} {w w' : World} {a m i : Nat} {l : List It} {P : Value} {x : It} {n : Int}
theorem Tb.keep (h : Tb F w a m l P) (hb : ∀ b, F b → w'.heap[b]? = w.heap[b]?) (hs : w.heap.size ≤ w'.heap.size) : Tb F w' a m l P := ⟨h.its.keep hb hs, (hb a h.fa).trans h.head, h.fa⟩
theorem Tb.below (h : Tb F w a m l P) (hb : Below w.heap.size w w') : Tb F w' a m l P := h.keep (fun b hF => hb.block b (h.its.lt b hF)) hb.size
theorem Tb.only (h : Tb F w a m l P) (hb : Only G w w') (hd : ∀ b, F b → ¬ G b) : Tb F w' a m l P := h.keep (fun b hF => hb.block b (h.its.lt b hF) (hd b hF)) hb.size
theorem Tb.lta (h : Tb F w a m l P) : a < w.heap.size := h.its.lt a h.fa
theorem Tb.cells (h : Tb F w a m l P) : w.cell? ⟨a, 0, none⟩ = some (.int .i64 (m : Int)) ∧ w.cell? ⟨a, 1, none⟩ = some P ∧ w.frozen? ⟨a, 1, none⟩ = false :=
  ⟨by rw [cell_of_row w a _ _ _ (0, 0) h.head]; rfl, by rw [cell_of_row w a _ _ _ (0, 0) h.head]; rfl, frozen_of_row w a 1 _ _ h.head⟩
/-- One cell of an item is written. -/
theorem Tb.setCell1 (h : Tb F w a m l P) (hi : l[i]? = some x) {g c : Nat} (hP : P = .slice (some ⟨g, 0, none⟩) l.length c) (hg : Ty w g itT) {j : Nat} (hj : j < 8) (u : Value) (y : It) (hc : cellsOf y = (cellsOf x).set j u) (hnv : y.nv = x.nv) (hiv : y.iv = x.iv) (hrc : y.rc = x.rc) :
    Tb F (w.setCell ⟨g, i * 8 + j, none⟩ u) a m (l.set i y) P :=
  ⟨h.its.setCell1 hi hP hj u y hc hnv hiv hrc itT_ne.1 itT_ne.2.1, (heap_setCell_other w ⟨g, i * 8 + j, none⟩ a u (fun e => by have e2 : a = g := e; subst e2; exact itT_ne.2.2 (hg.one ⟨_, h.head⟩))).trans h.head, h.fa⟩

theorem tb_new (w : World) (k : Int) (m : Nat) (hk : k = (m : Int)) : Tb (fun b => b = w.heap.size) (w.alloc (.cells #[.int .i64 k, .slice none 0 0] 56)) w.heap.size m [] (.slice none 0 0) := by
  subst hk
  exact ⟨⟨fun b hb => by subst hb; simp, World.ownsRow_nil _ _ _ _, fun b e => (by cases e), fun x hx => (by cases hx)⟩, heap_alloc_new w _, rfl⟩
set_option maxHeartbeats 400000 in
theorem new_walk (mo : Int) (w : World) :
    Calls Try.prog 10 #[.int .i64 mo] w fun e w' => e = .returned (ptr w.heap.size) ∧ Tb (fun b => b = w.heap.size) w' w.heap.size (mostOf mo) [] (.slice none 0 0) ∧ Below w.heap.size w w' := by
  go_enter Try.func10, Try.ntmps10
  go_wp2
  all_goals go_ret
  all_goals exact ⟨rfl, tb_new w _ _ (by unfold mostOf; omega), below_new _ _⟩

theorem len_walk (h : Tb F w a m l P) : Calls Try.prog 21 #[ptr a] w fun e w' => e = .returned (.int .i64 (l.length : Int)) ∧ w = w' := by
  obtain ⟨c0, c1, c2⟩ := h.cells
  obtain ⟨A, c, rfl, hlc, hcm⟩ := h.its.form
  clear h hlc hcm
  generalize l.length = n at *
  go_enter Try.func21, Try.ntmps21
  go_wp2
  go_ret
  exact ⟨rfl, rfl⟩
theorem len_nil (w : World) : Calls Try.prog 21 #[nilp] w fun e w' => e = .returned (.int .i64 0) ∧ w = w' := by
  go_enter Try.func21, Try.ntmps21
  go_wp2
  go_ret
  exact ⟨rfl, rfl⟩

theorem at_nil (n : Int) (w : World) : Calls Try.prog 23 #[nilp, .int .i64 n] w fun e w' => e = .returned nilp ∧ w = w' := by
  go_enter Try.func23, Try.ntmps23
  go_wp2
  go_ret
  exact ⟨rfl, rfl⟩
theorem at_no (h : Tb F w a m l P) (hn : n < 1 ∨ (l.length : Int) < n) : Calls Try.prog 23 #[ptr a, .int .i64 n] w fun e w' => e = .returned nilp ∧ w = w' := by
  obtain ⟨c0, c1, c2⟩ := h.cells
  obtain ⟨A, c, rfl, hlc, hcm⟩ := h.its.form
  clear h hlc hcm
  generalize l.length = k at *
  by_cases h1 : n < 1
  · go_enter Try.func23, Try.ntmps23
    go_wp2
    go_ret
    exact ⟨rfl, rfl⟩
  · have h2 : (k : Int) < n := by omega
    clear hn
    go_enter Try.func23, Try.ntmps23
    go_wp2
    go_ret
    exact ⟨rfl, rfl⟩
theorem at_yes (h : Tb F w a m l P) (hi : i < l.length) (hn : n = (i : Int) + 1) (hl : l.length ≤ 100000) : ∃ g c, P = .slice (some ⟨g, 0, none⟩) l.length c ∧ Calls Try.prog 23 #[ptr a, .int .i64 n] w fun e w' => e = .returned (.pointer (some ⟨g, i * 8, none⟩)) ∧ w = w' := by
  obtain ⟨c0, c1, c2⟩ := h.cells
  obtain ⟨g, c, rfl, -⟩ := h.its.cells (List.getElem?_eq_getElem hi)
  refine ⟨g, c, rfl, ?_⟩
  clear h
  generalize l.length = k at *
  subst hn
  have h1 : ¬ ((i : Int) + 1 < 1) := by omega
  have h2 : ¬ ((k : Int) < (i : Int) + 1) := by omega
  have h3 : IntKind.i64.wrap ((i : Int) + 1 - 1) = (i : Int) := by rw [Int.add_sub_cancel]; exact IntWalk.i64_in _ (by omega)
  have i0 : (0 : Int) ≤ (i : Int) := by omega
  have i1 : (i : Int) < (k : Int) := by omega
  go_enter Try.func23, Try.ntmps23
  go_wp2
  go_ret
  exact ⟨by first | rfl | simp, rfl⟩
/-- State, All: of a record; of others; of no table. -/
theorem state_yes (h : Tb F w a m l P) (hi : l[i]? = some x) (hn : n = (i : Int) + 1) (hl : l.length ≤ 100000) : Calls Try.prog 17 #[ptr a, .int .i64 n] w fun e w' => e = .returned (.int .u8 x.st) ∧ w = w' := by
  obtain ⟨g, c, rfl, -, -, -, -, -, -, -, -, -, -, -, c6, -⟩ := h.its.cells hi
  obtain ⟨g', c', e, hat⟩ := at_yes h (List.getElem?_eq_some_iff.1 hi).1 hn hl
  injection e with e1 e2 e3
  injection e1 with e1
  injection e1 with e1
  subst e1
  clear h e2 e3 hn hl
  go_enter Try.func17, Try.ntmps17
  go_wp2_with fail
  refine hat.mono ?_
  rintro e w1 ⟨rfl, rfl⟩
  go_wp2
  go_ret
  exact ⟨rfl, rfl⟩
theorem all_yes (h : Tb F w a m l P) (hi : l[i]? = some x) (hn : n = (i : Int) + 1) (hl : l.length ≤ 100000) : Calls Try.prog 19 #[ptr a, .int .i64 n] w fun e w' => e = .returned (.bool x.all) ∧ w = w' := by
  obtain ⟨g, c, rfl, -, -, -, -, -, -, -, -, -, -, -, -, c7, -⟩ := h.its.cells hi
  obtain ⟨g', c', e, hat⟩ := at_yes h (List.getElem?_eq_some_iff.1 hi).1 hn hl
  injection e with e1 e2 e3
  injection e1 with e1
  injection e1 with e1
  subst e1
  clear h e2 e3 hn hl
  go_enter Try.func19, Try.ntmps19
  go_wp2_with fail
  refine hat.mono ?_
  rintro e w1 ⟨rfl, rfl⟩
  go_wp2
  go_ret
  exact ⟨rfl, rfl⟩
theorem state_no (h : Tb F w a m l P) (hn : n < 1 ∨ (l.length : Int) < n) : Calls Try.prog 17 #[ptr a, .int .i64 n] w fun e w' => e = .returned (.int .u8 0) ∧ w = w' := by
  have hat := at_no h hn
  clear h hn
  go_enter Try.func17, Try.ntmps17
  go_wp2_with fail
  refine hat.mono ?_
  rintro e w1 ⟨rfl, rfl⟩
  go_wp2
  go_ret
  exact ⟨rfl, rfl⟩
theorem state_nil (n : Int) (w : World) : Calls Try.prog 17 #[nilp, .int .i64 n] w fun e w' => e = .returned (.int .u8 0) ∧ w = w' := by
  have hat := at_nil n w
  go_enter Try.func17, Try.ntmps17
  go_wp2_with fail
  refine hat.mono ?_
  rintro e w1 ⟨rfl, rfl⟩
  go_wp2
  go_ret
  exact ⟨rfl, rfl⟩
theorem all_no (h : Tb F w a m l P) (hn : n < 1 ∨ (l.length : Int) < n) : Calls Try.prog 19 #[ptr a, .int .i64 n] w fun e w' => e = .returned (.bool false) ∧ w = w' := by
  have hat := at_no h hn
  clear h hn
  go_enter Try.func19, Try.ntmps19
  go_wp2_with fail
  refine hat.mono ?_
  rintro e w1 ⟨rfl, rfl⟩
  go_wp2
  go_ret
  exact ⟨rfl, rfl⟩
theorem all_nil (n : Int) (w : World) : Calls Try.prog 19 #[nilp, .int .i64 n] w fun e w' => e = .returned (.bool false) ∧ w = w' := by
  have hat := at_nil n w
  go_enter Try.func19, Try.ntmps19
  go_wp2_with fail
  refine hat.mono ?_
  rintro e w1 ⟨rfl, rfl⟩
  go_wp2
  go_ret
  exact ⟨rfl, rfl⟩
theorem set_yes (h : Tb F w a m l P) (hi : l[i]? = some x) (hn : n = (i : Int) + 1) (hl : l.length ≤ 100000) (s : Int) : Calls Try.prog 18 #[ptr a, .int .i64 n, .int .u8 s] w fun e w' => e = .returned (.tuple #[]) ∧ Tb F w' a m (l.set i { x with st := s }) P ∧ Only F w w' := by
  obtain ⟨g, c, rfl, hgl, hFg, hty, -, -, c0, c1, c2, c3, c4, c5, c6, c7, hz⟩ := h.its.cells hi
  obtain ⟨g', c', e, hat⟩ := at_yes h (List.getElem?_eq_some_iff.1 hi).1 hn hl
  injection e with e1 e2 e3
  injection e1 with e1
  injection e1 with e1
  subst e1
  have HT := Lib.hid (h.setCell1 hi rfl hty (j := 6) (by omega) (.int .u8 s) { x with st := s } rfl rfl rfl rfl)
  have HO := Lib.hid (Only.set F w (p := ⟨g, i * 8 + 6, none⟩) hFg (.int .u8 s))
  have z := hz (i * 8 + 6)
  clear h e2 e3 hn hl hz c0 c1 c2 c3 c4 c5
  go_enter Try.func18, Try.ntmps18
  go_wp2_with fail
  refine hat.mono ?_
  rintro e w1 ⟨rfl, rfl⟩
  go_wp2
  ((try simp only [Exit.inBlock, Exit.then]); refine bodyPost_end (results_none rfl _ _ _) rfl ?_)
  exact ⟨rfl, HT.out, HO.out⟩
theorem set_no (h : Tb F w a m l P) (hn : n < 1 ∨ (l.length : Int) < n) (s : Int)  : Calls Try.prog 18 #[ptr a, .int .i64 n, .int .u8 s] w fun e w' => e = .returned (.tuple #[]) ∧ w = w' := by
  have hat := at_no h hn
  clear h hn
  go_enter Try.func18, Try.ntmps18
  go_wp2_with fail
  refine hat.mono ?_
  rintro e w1 ⟨rfl, rfl⟩
  go_wp2
  ((try simp only [Exit.inBlock, Exit.then]); refine bodyPost_end (results_none rfl _ _ _) rfl ?_)
  exact ⟨rfl, rfl⟩
theorem set_nil (n : Int) (s : Int) (w : World) : Calls Try.prog 18 #[nilp, .int .i64 n, .int .u8 s] w fun e w' => e = .returned (.tuple #[]) ∧ w = w' := by
  have hat := at_nil n w
  go_enter Try.func18, Try.ntmps18
  go_wp2_with fail
  refine hat.mono ?_
  rintro e w1 ⟨rfl, rfl⟩
  go_wp2
  ((try simp only [Exit.inBlock, Exit.then]); refine bodyPost_end (results_none rfl _ _ _) rfl ?_)
  exact ⟨rfl, rfl⟩
theorem setAll_yes (h : Tb F w a m l P) (hi : l[i]? = some x) (hn : n = (i : Int) + 1) (hl : l.length ≤ 100000) : Calls Try.prog 20 #[ptr a, .int .i64 n] w fun e w' => e = .returned (.tuple #[]) ∧ Tb F w' a m (l.set i { x with all := true }) P ∧ Only F w w' := by
  obtain ⟨g, c, rfl, hgl, hFg, hty, -, -, c0, c1, c2, c3, c4, c5, c6, c7, hz⟩ := h.its.cells hi
  obtain ⟨g', c', e, hat⟩ := at_yes h (List.getElem?_eq_some_iff.1 hi).1 hn hl
  injection e with e1 e2 e3
  injection e1 with e1
  injection e1 with e1
  subst e1
  have HT := Lib.hid (h.setCell1 hi rfl hty (j := 7) (by omega) (.bool true) { x with all := true } rfl rfl rfl rfl)
  have HO := Lib.hid (Only.set F w (p := ⟨g, i * 8 + 7, none⟩) hFg (.bool true))
  have z := hz (i * 8 + 7)
  clear h e2 e3 hn hl hz c0 c1 c2 c3 c4 c5
  go_enter Try.func20, Try.ntmps20
  go_wp2_with fail
  refine hat.mono ?_
  rintro e w1 ⟨rfl, rfl⟩
  go_wp2
  ((try simp only [Exit.inBlock, Exit.then]); refine bodyPost_end (results_none rfl _ _ _) rfl ?_)
  exact ⟨rfl, HT.out, HO.out⟩
theorem setAll_no (h : Tb F w a m l P) (hn : n < 1 ∨ (l.length : Int) < n)  : Calls Try.prog 20 #[ptr a, .int .i64 n] w fun e w' => e = .returned (.tuple #[]) ∧ w = w' := by
  have hat := at_no h hn
  clear h hn
  go_enter Try.func20, Try.ntmps20
  go_wp2_with fail
  refine hat.mono ?_
  rintro e w1 ⟨rfl, rfl⟩
  go_wp2
  ((try simp only [Exit.inBlock, Exit.then]); refine bodyPost_end (results_none rfl _ _ _) rfl ?_)
  exact ⟨rfl, rfl⟩
theorem setAll_nil (n : Int) (w : World) : Calls Try.prog 20 #[nilp, .int .i64 n] w fun e w' => e = .returned (.tuple #[]) ∧ w = w' := by
  have hat := at_nil n w
  go_enter Try.func20, Try.ntmps20
  go_wp2_with fail
  refine hat.mono ?_
  rintro e w1 ⟨rfl, rfl⟩
  go_wp2
  ((try simp only [Exit.inBlock, Exit.then]); refine bodyPost_end (results_none rfl _ _ _) rfl ?_)
  exact ⟨rfl, rfl⟩
end
end Go.Proofs.Ytokheagoddmmiaa
