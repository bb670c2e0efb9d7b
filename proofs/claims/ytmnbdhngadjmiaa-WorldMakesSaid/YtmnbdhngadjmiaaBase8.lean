/-
  Words for the memory of layer 7: slices and rows of numbers; what may change without touching them. No function of the program in sight.
-/
import Derived.Test.YtmnbdhngadjmiaaRows
import Derived.WalkKit
import Derived.Below
import Derived.Laws.OwnMore
import Derived.Lib.Hide
import Derived.Deep.Draws
import Derived.OwnWalk
import Derived.Laws.CopyOwn
import Derived.Deep.AppendLies
import Derived.Lib.AppendZeros
import Derived.ProofKit
import Derived.OpenShut
import Derived.WalkSpells
import Derived.BigQuiet
import Derived.Handy
import Derived.Deep.QuietTactic
import Derived.Deep.RegionHeld3
import Derived.Deep.DeepMust
import Derived.Deep.AppendSrc
import Derived.Deep.RegionLaw
namespace Go.Proofs.Ytmnbdhngadjmiaa
open Go.ChangeShapes Go.WideShapes Go.ChangeAt Go.RowKit
set_option linter.unusedVariables false
set_option maxRecDepth 20000
theorem below_drewN {B : Nat} {a w : World} (h : Below B a w) (n : Nat) : Below B a (w.drewN n) := ⟨h.os, h.tape, h.output, h.size, h.block⟩
abbrev ptr (a : Nat) : Value := .pointer (some ⟨a, 0, none⟩)


theorem take_snoc {α : Type} (l : List α) (k : Nat) (h : k < l.length) : l.take (k + 1) = l.take k ++ [l[k]] := by
  rw [List.take_succ_eq_append_getElem h]

/-- What the program says of a slice type sl whose elements el are numbers of one cell. -/
structure RowT (sl el : TypeId) : Prop where
  under : Try.prog.underlying sl = some (.slice el)
  under2 : Try.prog.underlying sl = some (.slice (Try.prog.elem sl))
  info : (Try.prog.info? el).map (fun i => (i.zero, i.size, i.bytes)) = some (some (.int .i64 0), 1, 8)
  elem : ∀ W : World, (sizeOf (Try.prog.elem sl)).run Try.prog W = .ok 1 W
theorem rowK : RowT 37 2 := ⟨Try.underlying37, by kernel_rfl, by kernel_rfl, fun W => by kernel_rfl⟩

def ints (zs : List Int) : List Value := zs.map (Value.int .i64)
theorem ints_length (zs : List Int) : (ints zs).length = zs.length := by simp [ints]
theorem ints_append (a b : List Int) : ints (a ++ b) = ints a ++ ints b := by simp [ints]
theorem ints_one (zs : List Int) : ∀ u ∈ ints zs, u.oneCell' = true := by intro u hu; simp [ints] at hu; obtain ⟨z, _, rfl⟩ := hu; rfl
theorem ints_at {zs : List Int} {i : Nat} {u : Value} (h : (ints zs)[i]? = some u) : ∃ z, zs[i]? = some z ∧ u = .int .i64 z := by
  simp [ints] at h; obtain ⟨z, hz, rfl⟩ := h; exact ⟨z, hz, rfl⟩

/-- A slice of n numbers at A, with room for c, reads as the list zs. -/
structure Sl (w : World) (A : Option Addr) (n c : Nat) (zs : List Int) : Prop where
  len : n = zs.length
  cap : n ≤ c
  none_ : A = none → c = 0
  cells : zs = [] ∨ ∃ b off, A = some ⟨b, off, none⟩ ∧ ∀ i z, zs[i]? = some z → w.cell? ⟨b, off + i, none⟩ = some (.int .i64 z)

section
variable {w w' : World} {A : Option Addr} {n c : Nat} {zs : List Int}

theorem Sl.nil (w : World) : Sl w none 0 0 [] := ⟨rfl, Nat.le_refl _, fun _ => rfl, .inl rfl⟩
theorem Sl.at_ (h : Sl w A n c zs) {k : Nat} (hk : k < zs.length) : ∃ b off, A = some ⟨b, off, none⟩ ∧ b < w.heap.size ∧ w.cell? ⟨b, off + k, none⟩ = some (.int .i64 zs[k]) := by
  rcases h.cells with rfl | ⟨b, off, rfl, hc⟩
  · simp at hk
  · have := hc k _ (List.getElem?_eq_getElem hk)
    exact ⟨b, off, rfl, World.block_lt_of_cell? w _ this, this⟩
theorem Sl.keep (h : Sl w A n c zs) (hk : ∀ p : Addr, p.block < w.heap.size → w'.cell? p = w.cell? p) : Sl w' A n c zs := by
  refine ⟨h.len, h.cap, h.none_, ?_⟩
  rcases h.cells with hn | ⟨b, off, rfl, hc⟩
  · exact .inl hn
  · refine .inr ⟨b, off, rfl, fun j u hu => ?_⟩
    have := hc j u hu
    rw [hk _ (World.block_lt_of_cell? w _ this)]
    exact this
theorem Sl.below (h : Sl w A n c zs) (hb : Below w.heap.size w w') : Sl w' A n c zs := h.keep fun _ hp => hb.cell hp
theorem Sl.alloc (h : Sl w A n c zs) (o : Obj) : Sl (w.alloc o) A n c zs := h.keep fun p hp => World.cell?_alloc_lt w o p hp
theorem Sl.drew (h : Sl w A n c zs) : Sl w.drew A n c zs := ⟨h.len, h.cap, h.none_, h.cells⟩
theorem Sl.drewN (h : Sl w A n c zs) (k : Nat) : Sl (w.drewN k) A n c zs := ⟨h.len, h.cap, h.none_, h.cells⟩

/-- A cut from a place on. -/
theorem Sl.from_ (h : Sl w A n c zs) {k : Nat} (hk : k ≤ n) : Sl w (if c = k then A else A.map (·.add k)) (n - k) (c - k) (zs.drop k) := by
  refine ⟨by rw [List.length_drop, h.len], by have := h.cap; omega, ?_, ?_⟩
  · intro e
    have : A = none := by
      split at e
      · exact e
      · simpa using e
    rw [h.none_ this]; omega
  · by_cases h0 : k = n
    · exact .inl (List.drop_eq_nil_of_le (by have := h.len; omega))
    · rw [if_neg (by have := h.cap; omega)]
      rcases h.cells with rfl | ⟨b, off, rfl, hcell⟩
      · exact .inl (by simp)
      · refine .inr ⟨b, off + k, ?_, fun j u hu => ?_⟩
        · simp only [Option.map_some, Addr.add]
          split
          · rename_i e; rw [e]; rfl
          · rfl
        · rw [List.getElem?_drop] at hu
          have := hcell (k + j) u hu
          rw [← Nat.add_assoc] at this
          exact this
/-- A cut up to a place. -/
theorem Sl.upto (h : Sl w A n c zs) {k : Nat} (hk : k ≤ n) : Sl w A k c (zs.take k) := by
  refine ⟨by rw [List.length_take]; have := h.len; omega, by have := h.cap; omega, h.none_, ?_⟩
  rcases h.cells with rfl | ⟨b, off, rfl, hcell⟩
  · exact .inl (by simp)
  · refine .inr ⟨b, off, rfl, fun j u hu => hcell j u ?_⟩
    rw [List.getElem?_take] at hu
    split at hu
    · exact hu
    · cases hu
end

section
variable {sl el : TypeId} (R : RowT sl el) {w : World} {A : Option Addr} {n c : Nat} {zs : List Int}
include R
/-- 's[k:]': its address under one name. -/
theorem cut_from (h : Sl w A n c zs) (k : Nat) (hk : k ≤ n) :
    ∃ A' : Option Addr, Sl w A' (n - k) (c - k) (zs.drop k) ∧ ∀ W : World, (Instr.slice sl (.slice A n c) (some (.int .i64 (k : Int))) none none).run Try.prog W = .ok (.slice A' (n - k) (c - k)) W := by
  refine ⟨_, h.from_ hk, fun W => ?_⟩
  rw [run_slice_l (P := Try.prog) (t := sl) _ _ _ _ R.under2 .i64 (k : Int) (by omega) (by omega), R.elem W]
  simp [Result.andThen, sliced]
/-- 's[:k]'. -/
theorem cut_upto (h : Sl w A n c zs) (k : Nat) (hk : k ≤ n) :
    ∃ A' : Option Addr, Sl w A' k c (zs.take k) ∧ ∀ W : World, (Instr.slice sl (.slice A n c) none (some (.int .i64 (k : Int))) none).run Try.prog W = .ok (.slice A' k c) W := by
  refine ⟨A, h.upto hk, fun W => ?_⟩
  have := h.cap
  rw [run_slice_h (P := Try.prog) (t := sl) _ _ _ _ R.under2 .i64 (k : Int) (by omega) (by omega), R.elem W]
  have e : A.map (fun x => x.add 0) = A := by cases A <;> simp [Addr.add]
  simp [Result.andThen, sliced, e]
end

/-- v is a row of elements el that lies at block base or above, and reads as zs. -/
def Row (el : TypeId) (base : Nat) (w : World) (v : Value) (zs : List Int) : Prop := w.ownsRow base el 1 v zs.length (ints zs)

section
variable {el : TypeId} {base : Nat} {w w' : World} {v : Value} {zs : List Int}
theorem Row.nil (el : TypeId) (base : Nat) (w : World) : Row el base w (.slice none 0 0) [] := World.ownsRow_nil _ _ _ _
theorem Row.empty (el : TypeId) {base : Nat} (w : World) (hb : base ≤ w.heap.size) : Row el base (w.alloc (.cells #[] el)) (.slice (some ⟨w.heap.size, 0, none⟩) 0 0) [] :=
  World.ownsRow_made w #[] 0 hb (Nat.zero_le _) rfl
theorem Row.alloc (h : Row el base w v zs) (o : Obj) : Row el base (w.alloc o) v zs := World.ownsRow.alloc h o
theorem Row.drew (h : Row el base w v zs) : Row el base w.drew v zs := h
theorem Row.drewN (h : Row el base w v zs) (k : Nat) : Row el base (w.drewN k) v zs := h
theorem Row.lower {base' : Nat} (h : Row el base w v zs) (hb : base' ≤ base) : Row el base' w v zs := by
  obtain ⟨h1, h2⟩ := h
  refine ⟨h1, ?_⟩
  rcases h2 with h2 | ⟨g, cap, cur, e, hg, r⟩
  · exact .inl h2
  · exact .inr ⟨g, cap, cur, e, Nat.le_trans hb hg, r⟩
theorem Row.next (h : Row el base w v zs) (hb : Below w.heap.size w w') : Row el base w' v zs := by
  refine World.ownsRow.kept (row := none) h ⟨hb.os, hb.tape, hb.output, hb.size, fun k hk _ => hb.block k hk⟩ ?_
  cases v.ownBlock with
  | none => exact .inl rfl
  | some _ => exact .inr (by simp)
theorem Row.set_below (h : Row el base w v zs) {p : Addr} (hp : p.block < base) (u : Value) : Row el base (w.setCell p u) v zs := ownsRow_setCell_below h hp u
theorem Row.grown (h : Row el base w v zs) {row : Option Nat} (hg : w.grownBy w' row) (hne : v.ownBlock = none ∨ v.ownBlock ≠ row) : Row el base w' v zs := World.ownsRow.kept h hg hne
/-- Its form. -/
theorem Row.form (h : Row el base w v zs) : ∃ A c, v = .slice A zs.length c ∧ Sl w A zs.length c zs := by
  have hl := h
  rcases h.2 with ⟨rfl, h0⟩ | ⟨g, cap, cur, rfl, _, _, h1, h2, _⟩
  · have e : zs = [] := List.eq_nil_of_length_eq_zero h0
    subst e
    exact ⟨none, 0, rfl, Sl.nil _⟩
  · refine ⟨_, cap, rfl, rfl, h1, fun e => (by cases e), .inr ⟨g, 0, rfl, fun i z hi => ?_⟩⟩
    have hlt : i < zs.length := (List.getElem?_eq_some_iff.1 hi).1
    rw [Nat.zero_add, World.ownsRow.cellAt hl i (by omega)]
    simp [ints, hi]
/-- Its form, the length under a name of its own. -/
theorem Row.shape (h : Row el base w v zs) : ∃ A n c, v = .slice A n c := by
  obtain ⟨A, c, e, _⟩ := h.form
  exact ⟨A, _, c, e⟩
/-- Its block, where it has one. -/
theorem Row.block (h : Row el base w v zs) : v.ownBlock = none ∨ ∃ g cur, v.ownBlock = some g ∧ base ≤ g ∧ w.heap[g]? = some (.cells cur el (0, 0)) := by
  rcases h.2 with ⟨rfl, h0⟩ | ⟨g, cap, cur, rfl, hb, hg, _⟩
  · exact .inl rfl
  · exact .inr ⟨g, cur, rfl, hb, hg⟩
/-- Rows of unlike elements are apart. -/
theorem Row.apart {el' : TypeId} {base' : Nat} {v' : Value} {zs' : List Int} (h : Row el base w v zs) (h' : Row el' base' w v' zs') (hne : el ≠ el') : v.ownBlock = none ∨ v.ownBlock ≠ v'.ownBlock := by
  rcases h.block with h0 | ⟨g, cur, e, _, hg⟩
  · exact .inl h0
  · right
    rcases h'.block with h0 | ⟨g', cur', e', _, hg'⟩
    · rw [e, h0]; simp
    · rw [e, e']
      intro e2
      injection e2 with e2
      subst e2
      rw [hg] at hg'
      injection hg' with hg'
      injection hg' with _ ht
      exact hne ht
/-- An element written: where it lies, and what the row is behind that. -/
theorem Row.put (h : Row el base w v zs) {k : Nat} (hk : k < zs.length) : ∃ g c u, v = .slice (some ⟨g, 0, none⟩) zs.length c ∧ base ≤ g ∧ g < w.heap.size ∧ zs.length ≤ c ∧ w.cell? ⟨g, k, none⟩ = some u ∧ w.frozen? ⟨g, k, none⟩ = false ∧
    ∀ z, Row el base (w.setCell ⟨g, k, none⟩ (.int .i64 z)) v (zs.set k z) ∧ w.grownBy (w.setCell ⟨g, k, none⟩ (.int .i64 z)) (some g) := by
  have hl := h
  rcases h.2 with ⟨rfl, h0⟩ | ⟨g, cap, cur, rfl, hb, hg, h1, _⟩
  · omega
  · refine ⟨g, cap, .int .i64 zs[k], rfl, hb, (Array.getElem?_eq_some_iff.1 hg).1, h1, ?_, World.ownsRow.frozenAt hl k, fun z => ?_⟩
    · rw [World.ownsRow.cellAt hl k (by omega)]
      simp [ints, hk]
    · have := World.ownsRow.stored hl k (.int .i64 z)
      refine ⟨?_, this.2⟩
      have h3 := this.1
      unfold Row ints
      rw [List.map_set, List.length_set]
      exact h3
end

section
variable {sl el : TypeId} (R : RowT sl el) {ops : Array Oper} {rest : List Oper} {o : Oper} {a : Act} {Q : Exit → Act → World → Prop} {base : Nat} {w : World}
include R

/-- The run of 'append(out, src...)': numbers that are read at their place, behind a row of the call's own. -/
theorem run_pushAll (ty : TypeId) (v : Value) (zs : List Int) (hown : Row el base w v zs) (A : Option Addr) (n c : Nat) (ms : List Int) (hm : Sl w A n c ms) (hlen : zs.length + ms.length ≤ 100000) (hb : base ≤ w.heap.size) :
    ∃ v' w', (Builtin.append_ #[sl, sl] ty #[v, .slice A n c]).run Try.prog w = .ok v' w' ∧ Row el base w' v' (zs ++ ms) ∧ w.grownBy w' v.ownBlock := by
  obtain ⟨i0, hi0, hz0, hz1, hz2⟩ := info_parts R.info
  have hn := hm.len
  cases A with
  | none =>
    have e : ms = [] := by
      rcases hm.cells with e | ⟨_, _, e, _⟩
      · exact e
      · cases e
    subst e
    obtain rfl : c = 0 := hm.none_ rfl
    obtain rfl : n = 0 := by simpa using hn
    exact ⟨v, w, run_append_owned_none (P := Try.prog) w base sl ty el i0 1 R.under hi0 v zs.length (ints zs) hown, by simpa using hown, World.grownBy.refl _ _⟩
  | some ad =>
    obtain ⟨v', w', h1, h2, h3, _⟩ := run_append_own (P := Try.prog) w base sl ty el i0 _ 1 8 R.under hi0 hz0 hz1 hz2 rfl (by omega) v zs.length (ints zs) hown ad n c (ints ms) (by rw [ints_length, hn]; omega)
      (by
        intro j u hj
        rcases hm.cells with e | ⟨b, off, e, hc⟩
        · subst e; simp [ints] at hj
        · have e := Option.some.inj e
          subst e
          obtain ⟨z, hz, rfl⟩ := ints_at hj
          have := hc j z hz
          unfold Addr.add
          split
          · rename_i e0; subst e0; exact this
          · exact this) (ints_one _) (by unfold maxLen; omega) (by omega) hb
    refine ⟨v', w', h1, ?_, h3⟩
    unfold Row
    rw [List.length_append, ← hn, ints_append]
    exact h2

/-- 'append(out, src...)' in a plain region. -/
theorem pushN (hg : o.guard = none) (s x : Operand) (ho : o.op = .call { callee := .builtin .append, args := #[s, x], argTypes := #[sl, sl] })
    (v : Value) (zs : List Int) (hs : a.eval s = v) (hown : Row el base w v zs) (A : Option Addr) (n c : Nat) (ms : List Int) (hx : a.eval x = .slice A n c) (hm : Sl w A n c ms) (hlen : zs.length + ms.length ≤ 100000) (hb : base ≤ w.heap.size)
    (h : ∀ v' w', Row el base w' v' (zs ++ ms) → w.grownBy w' v.ownBlock → wpList Try.prog ops Q rest (a.put o.dst v') w') :
    wpList Try.prog ops Q (o :: rest) a w := by
  obtain ⟨v', w', hr, h1, h2⟩ := run_pushAll R o.type v zs hown A n c ms hm hlen hb
  exact Lib.wpList_append_run (P := Try.prog) w hg s x sl sl ho v _ hs hx v' w' hr (h v' w' h1 h2)

/-- 'append(out, src...)' at a step of a region that draws. -/
theorem step_pushAll {K : Act → World → Prop} {E : Prop} (hg : o.guard = none) (s x : Operand) (ho : o.op = .call { callee := .builtin .append, args := #[s, x], argTypes := #[sl, sl] })
    (v : Value) (zs : List Int) (hs : a.eval s = v) (hown : Row el base w v zs) (A : Option Addr) (n c : Nat) (ms : List Int) (hx : a.eval x = .slice A n c) (hm : Sl w A n c ms) (hlen : zs.length + ms.length ≤ 100000) (hb : base ≤ w.heap.size)
    (h : ∀ v' w', Row el base w' v' (zs ++ ms) → w.grownBy w' v.ownBlock → K (a.put o.dst v') w') :
    if Region.wanted o (yielded ops a.tmps) = true then Oper.wp Try.prog o a w K Q else E := by
  have hw : Region.wanted o (yielded ops a.tmps) = true := by simp [Region.wanted, hg]
  rw [if_pos hw]
  obtain ⟨v', w', hr, h1, h2⟩ := run_pushAll R o.type v zs hown A n c ms hm hlen hb
  exact Lib.wp_append_run (P := Try.prog) w s x sl sl ho v _ hs hx v' w' hr (h v' w' h1 h2)
end

theorem sl_one {W : World} {g : Nat} {x : Int} (h1 : W.cell? ⟨g, 0, none⟩ = some (.int .i64 x)) : Sl W (some ⟨g, 0, none⟩) 1 1 [x] := by
  refine ⟨rfl, Nat.le_refl _, fun e => (by cases e), .inr ⟨g, 0, rfl, fun j u hj => ?_⟩⟩
  match j, hj with
  | 0, hj => simp at hj; subst hj; exact h1
theorem ret_int {k : IntKind} {a b : Int} (h : a = b) : Ending.returned (.int k a) = .returned (.int k b) := by rw [h]
theorem ret_bool {a b : Bool} (h : a = b) : Ending.returned (.bool a) = .returned (.bool b) := by rw [h]
theorem Sl.at0 {w : World} {A : Option Addr} {n c : Nat} {zs : List Int} (h : Sl w A n c zs) {k : Nat} (hk : k < n) : ∃ b off, A = some ⟨b, off, none⟩ ∧ b < w.heap.size ∧ w.cell? ⟨b, off + k, none⟩ = some (.int .i64 (zs.getD k 0)) := by
  have hl : k < zs.length := by rw [← h.len]; exact hk
  obtain ⟨b, off, e, hb, hc⟩ := h.at_ hl
  exact ⟨b, off, e, hb, by rw [hc]; simp [List.getD, hl]⟩
theorem Row.sl {el : TypeId} {base : Nat} {w : World} {A : Option Addr} {n c : Nat} {zs : List Int} (h : Row el base w (.slice A n c) zs) : Sl w A n c zs := by
  obtain ⟨_, _, e, s⟩ := h.form
  injection e with e1 e2 e3
  subst e1 e2 e3
  exact s
theorem below_new (w : World) (o : Obj) : Below w.heap.size w (w.alloc o) := (Below.refl _ w).alloc (Nat.le_refl _) o

/-- Cells of blocks that were made just now. -/
theorem c_new {w : World} {cs : Array Value} {t : TypeId} {b j : Nat} {v : Value} (h : w.heap.size = b) (hj : cs[j]? = some v) : (w.alloc (.cells cs t)).cell? ⟨b, j, none⟩ = some v := by
  subst h
  rw [cell_of_row _ _ _ cs t (0, 0) (heap_alloc_new w _)]
  exact hj
theorem c_old {w : World} {o : Obj} {p : Addr} {v : Value} (h : w.cell? p = some v) : (w.alloc o).cell? p = some v := (World.cell?_alloc_lt w o p (World.block_lt_of_cell? w p h)).trans h
theorem c_top {w : World} {cs : Array Value} {t : TypeId} {b j : Nat} {v : Value} (h : w.heap.size = b) (hj : cs[j]? = some v) : (w.alloc (.cells cs t)).drew.cell? ⟨b, j, none⟩ = some v := c_new h hj
theorem c_one {w : World} {cs : Array Value} {t : TypeId} {b j : Nat} {v : Value} {o : Obj} (h : w.heap.size = b) (hj : cs[j]? = some v) : ((w.alloc (.cells cs t)).alloc o).drew.cell? ⟨b, j, none⟩ = some v := c_old (c_new h hj)
theorem c_two {w : World} {cs : Array Value} {t : TypeId} {b j : Nat} {v : Value} {o o' : Obj} (h : w.heap.size = b) (hj : cs[j]? = some v) : (((w.alloc (.cells cs t)).alloc o).alloc o').drew.cell? ⟨b, j, none⟩ = some v := c_old (c_old (c_new h hj))
theorem c_thr {w : World} {cs : Array Value} {t : TypeId} {b j : Nat} {v : Value} {o o' o'' : Obj} (h : w.heap.size = b) (hj : cs[j]? = some v) : ((((w.alloc (.cells cs t)).alloc o).alloc o').alloc o'').drew.cell? ⟨b, j, none⟩ = some v := c_old (c_old (c_old (c_new h hj)))
theorem below_read {W w' : World} {p : Addr} {v : Value} (hb : Below W.heap.size W w') (h : W.cell? p = some v) : w'.cell? p = some v := (hb.cell (World.block_lt_of_cell? W p h)).trans h

theorem h_new {w : World} {o : Obj} {b : Nat} (h : w.heap.size = b) : (w.alloc o).heap[b]? = some o := by subst h; exact heap_alloc_new w o
theorem h_old {w : World} {o o' : Obj} {b : Nat} (h : w.heap[b]? = some o) : (w.alloc o').heap[b]? = some o := (Below.heap_alloc w o' b (Array.getElem?_eq_some_iff.1 h).1).trans h
/-- A row without elements that was built at block g. -/
theorem Row.of_block {el : TypeId} {base g : Nat} {w : World} (h : w.heap[g]? = some (.cells #[] el (0, 0))) (hb : base ≤ g) : Row el base w (.slice (some ⟨g, 0, none⟩) 0 0) [] :=
  ⟨rfl, .inr ⟨g, 0, #[], rfl, hb, h, Nat.le_refl _, Nat.zero_le _, rfl, rfl⟩⟩

theorem h_newd {w : World} {o : Obj} {b : Nat} (h : w.heap.size = b) : (w.alloc o).drew.heap[b]? = some o := h_new h
theorem h_oldd {w : World} {o o' : Obj} {b : Nat} (h : w.heap[b]? = some o) : (w.alloc o').drew.heap[b]? = some o := h_old h

/-- 'append(out, src...)' at a step of a region that draws; what else there is of unlike rows stays. -/
theorem step_pushB {sl el : TypeId} (R : RowT sl el) {ops : Array Oper} {o : Oper} {a : Act} {Q : Exit → Act → World → Prop} {base : Nat} {w : World} {K : Act → World → Prop} {E : Prop} (hg : o.guard = none) (s x : Operand) (ho : o.op = .call { callee := .builtin .append, args := #[s, x], argTypes := #[sl, sl] })
    (v : Value) (zs : List Int) (hs : a.eval s = v) (hown : Row el base w v zs) (A : Option Addr) (n c : Nat) (ms : List Int) (hx : a.eval x = .slice A n c) (hm : Sl w A n c ms) (hlen : zs.length + ms.length ≤ 100000) (hb : base ≤ w.heap.size)
    (h : ∀ v' w', Row el base w' v' (zs ++ ms) → Below base w w' → (∀ el' b' v'' zs', el' ≠ el → Row el' b' w v'' zs' → Row el' b' w' v'' zs') → K (a.put o.dst v') w') :
    if Region.wanted o (yielded ops a.tmps) = true then Oper.wp Try.prog o a w K Q else E :=
  step_pushAll R hg s x ho v zs hs hown A n c ms hx hm hlen hb fun v' w' h1 h2 => h v' w' h1 ((Below.refl _ w).grown h2 hb fun k hk => (World.ownsRow.lt hown k hk).1) fun _ _ _ _ hne hr => hr.grown h2 (hr.apart hown hne)

theorem grown_set (w : World) (p : Addr) (u : Value) : w.grownBy (w.setCell p u) (some p.block) := ⟨rfl, rfl, rfl, by simp, fun k _ hk => heap_setCell_other w p k u (fun e => hk (by rw [e]))⟩

/-- From w to w' nothing has changed but in blocks of F, and new ones. -/
structure Only (F : Nat → Prop) (w w' : World) : Prop where
  os : w'.os = w.os
  tape : w'.tape = w.tape
  output : w'.output = w.output
  size : w.heap.size ≤ w'.heap.size
  block : ∀ k, k < w.heap.size → ¬ F k → w'.heap[k]? = w.heap[k]?
section
variable {F G : Nat → Prop} {w w' w2 : World}
theorem Only.refl (F : Nat → Prop) (w : World) : Only F w w := ⟨rfl, rfl, rfl, Nat.le_refl _, fun _ _ _ => rfl⟩
theorem Only.trans (h : Only F w w') (k : Only G w' w2) (hs : ∀ b, G b → F b ∨ w.heap.size ≤ b) : Only F w w2 :=
  ⟨k.os.trans h.os, k.tape.trans h.tape, k.output.trans h.output, Nat.le_trans h.size k.size, fun b hb hF => (k.block b (Nat.lt_of_lt_of_le hb h.size) (fun hG => by rcases hs b hG with h1 | h1; exact hF h1; omega)).trans (h.block b hb hF)⟩
theorem Only.then (h : Only F w w') (k : Only F w' w2) : Only F w w2 := h.trans k fun _ hb => .inl hb
theorem Only.mono (h : Only F w w') (hs : ∀ b, F b → G b) : Only G w w' := ⟨h.os, h.tape, h.output, h.size, fun b hb hG => h.block b hb fun hF => hG (hs b hF)⟩
theorem Only.of_below (F : Nat → Prop) (h : Below w.heap.size w w') : Only F w w' := ⟨h.os, h.tape, h.output, h.size, fun b hb _ => h.block b hb⟩
theorem Only.below (h : Only F w w') {B : Nat} (hF : ∀ b, F b → B ≤ b) (hB : B ≤ w.heap.size) : Below B w w' := ⟨h.os, h.tape, h.output, h.size, fun b hb => h.block b (by omega) fun hf => by have := hF b hf; omega⟩
theorem Only.set (F : Nat → Prop) (w : World) {p : Addr} (hp : F p.block) (u : Value) : Only F w (w.setCell p u) := ⟨rfl, rfl, rfl, by simp, fun b _ hF => heap_setCell_other w p b u (fun e => hF (e ▸ hp))⟩
theorem Only.grown (F : Nat → Prop) {row : Option Nat} (h : w.grownBy w' row) (hr : ∀ b, row = some b → F b) : Only F w w' := ⟨h.os, h.tape, h.output, h.size, fun b hb hF => h.block b hb fun e => hF (hr b e.symm)⟩
end

section
variable {w w' : World} {base : Nat} {e : TypeId} {size : Nat} {v : Value} {n : Nat} {xs : List Value}
/-- A row lies as it lay, if its block does. -/
theorem own_at (h : w.ownsRow base e size v n xs) (hb : ∀ b, v.ownBlock = some b → w'.heap[b]? = w.heap[b]?) : w'.ownsRow base e size v n xs := by
  refine ⟨h.1, ?_⟩
  rcases h.2 with h0 | ⟨g, cap, cur, rfl, h1, h2, r⟩
  · exact .inl h0
  · exact .inr ⟨g, cap, cur, rfl, h1, (hb g rfl).trans h2, r⟩
/-- A block's kind of cells. -/
def Ty (w : World) (b : Nat) (t : TypeId) : Prop := ∃ cur, w.heap[b]? = some (.cells cur t (0, 0))
theorem Ty.one {b : Nat} {t t' : TypeId} (h : Ty w b t) (h' : Ty w b t') : t = t' := by
  obtain ⟨c, h⟩ := h; obtain ⟨c', h'⟩ := h'
  rw [h] at h'; injection h' with h'; injection h'
theorem own_ty (h : w.ownsRow base e size v n xs) {b : Nat} (hb : v.ownBlock = some b) : Ty w b e := by
  rcases h.2 with ⟨rfl, _⟩ | ⟨g, cap, cur, rfl, h1, h2, r⟩
  · cases hb
  · injection hb with hb; subst hb; exact ⟨cur, h2⟩
/-- A store elsewhere, into a block of another kind. -/
theorem own_set (h : w.ownsRow base e size v n xs) {p : Addr} {t : TypeId} (hp : Ty w p.block t) (hne : t ≠ e) (u : Value) : (w.setCell p u).ownsRow base e size v n xs :=
  own_at h fun b hb => heap_setCell_other w p b u fun eb => hne (hp.one (eb ▸ own_ty h hb))
theorem own_lower {base' : Nat} (h : w.ownsRow base e size v n xs) (hb : base' ≤ base) : w.ownsRow base' e size v n xs := by
  obtain ⟨h1, h2⟩ := h
  refine ⟨h1, ?_⟩
  rcases h2 with h2 | ⟨g, cap, cur, e, hg, r⟩
  · exact .inl h2
  · exact .inr ⟨g, cap, cur, e, Nat.le_trans hb hg, r⟩
end

section
variable {w : World} {e : TypeId} {size : Nat}
/-- 'append' to a row: where the row lies then. -/
theorem run_push (t ty e : TypeId) (i : TypeInfo) (z : Value) (size bytes : Nat) (ht : Try.prog.underlying t = some (.slice e)) (hi : Try.prog.info? e = some i) (hz : i.zero = some z)
    (hsize : i.size = size) (hby : i.bytes = bytes) (hzs : z.cells.size = size) (hsz : 0 < size)
    (v : Value) (n : Nat) (xs : List Value) (hown : w.ownsRow 0 e size v n xs)
    (a : Addr) (m c : Nat) (news : List Value) (hl : news.length = m * size) (hnews : ∀ j u, news[j]? = some u → w.cell? (a.add j) = some u) (h1 : ∀ u ∈ news, u.oneCell' = true)
    (h63 : n + m ≤ maxLen) (hbytes : (n + m) * bytes ≤ 140737488355328) :
    ∃ v' w', (Builtin.append_ #[t, t] ty #[v, .slice (some a) m c]).run Try.prog w = .ok v' w' ∧ w'.ownsRow 0 e size v' (n + m) (xs ++ news) ∧ w.grownBy w' v.ownBlock ∧
      ∀ b, v'.ownBlock = some b → v.ownBlock = some b ∨ w.heap.size ≤ b := by
  obtain ⟨v', w', hr, h2, h3, _⟩ := run_append_own (P := Try.prog) w 0 t ty e i z size bytes ht hi hz hsize hby hzs hsz v n xs hown a m c news hl hnews h1 h63 hbytes (Nat.zero_le _)
  refine ⟨v', w', hr, h2, h3, fun b hb => ?_⟩
  rcases hown.2 with ⟨rfl, rfl⟩ | ⟨g, cap, cur, rfl, _, hg, hnc, hcm, hcs, htake⟩
  · have hx : xs = [] := List.eq_nil_of_length_eq_zero (by simpa using hown.1)
    subst hx
    obtain ⟨v2, w2, hr2, h22, _⟩ := run_append_own (P := Try.prog) w w.heap.size t ty e i z size bytes ht hi hz hsize hby hzs hsz _ 0 [] (World.ownsRow_nil _ _ _ _) a m c news hl hnews h1 h63 hbytes (Nat.le_refl _)
    rw [hr] at hr2
    injection hr2 with e1 e2
    subst e1
    exact .inr (h22.lt b hb).1
  · subst hsize
    subst hby
    by_cases hroom : n + m ≤ cap
    · have hfit : n * i.size + news.length ≤ cur.size := by rw [hl, hcs, ← Nat.add_mul]; exact Nat.mul_le_mul_right _ hroom
      have hr2 := run_append_room (P := Try.prog) w t ty e i ht hi g n cap cur hg a m c news hl hnews h1 hroom hfit
      rw [hr] at hr2
      injection hr2 with e1 e2
      subst e1
      exact .inl hb
    · have holds : ∀ j u, xs[j]? = some u → w.cell? ((⟨g, 0, none⟩ : Addr).add j) = some u := hown.cells (g := g) rfl
      have hr2 := run_append_grow (P := Try.prog) w t ty e i z ht hi hz ⟨g, 0, none⟩ n cap xs hown.1 holds a m c news hl hnews (by omega) (by simp only [maxLen] at h63; omega) (growslice_fits (by omega) hbytes)
      rw [hr] at hr2
      injection hr2 with e1 e2
      subst e1
      simp [Value.ownBlock] at hb
      exact .inr (by omega)
end

theorem add_lit0 (g off j : Nat) : (⟨g, off, none⟩ : Addr).add j = ⟨g, off + j, none⟩ := by unfold Addr.add; split <;> simp_all

theorem set_mid {α : Type} {A M B : List α} {k j : Nat} (hA : A.length = k) (hj : j < M.length) (u : α) : (A ++ (M ++ B)).set (k + j) u = A ++ (M.set j u ++ B) := by
  rw [List.set_append_right _ _ (by omega), show k + j - A.length = j from by omega, List.set_append_left _ _ hj]

theorem grown_two {w w1 w2 : World} {r : Option Nat} (h : w.grownBy w1 r) (k : w1.grownBy w2 r) : w.grownBy w2 r := ⟨k.os.trans h.os, k.tape.trans h.tape, k.output.trans h.output, Nat.le_trans h.size k.size, fun b hb hr => (k.block b (Nat.lt_of_lt_of_le hb h.size) hr).trans (h.block b hb hr)⟩
abbrev nilp : Value := .pointer none
theorem rowR : RowT 38 30 := ⟨Try.underlying38, by kernel_rfl, by kernel_rfl, fun W => by kernel_rfl⟩
end Go.Proofs.Ytmnbdhngadjmiaa
