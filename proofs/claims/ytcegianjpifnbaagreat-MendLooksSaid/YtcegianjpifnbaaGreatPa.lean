/-
  Memory, slices, the arena's calls.
-/
import Derived.Test.YtcegianjpifnbaaGreatRows
import Derived.WalkKit
import Derived.Below
import Derived.Laws.OwnMore
import Derived.Lib.Hide
import Derived.Deep.Draws
import Derived.OwnWalk
import Derived.Laws.CopyOwn
import Derived.Deep.AppendLies
import Derived.Lib.AppendZeros
import Derived.ProofKit
import Derived.OpenShut
import Derived.WalkSpells
import Derived.BigQuiet
import Derived.Handy
import Derived.Deep.QuietTactic
import Derived.Deep.RegionHeld3
import Derived.Deep.DeepMust
import Derived.Deep.AppendSrc
import Derived.Deep.RegionLaw
import Derived.Laws.Bits64
import Derived.Laws.BitsAllLaws
import Derived.OrdersHeld
import Derived.RegionTactic
namespace Go.Proofs.YtcegianjpifnbaaGreat
open Go.ChangeShapes Go.WideShapes Go.ChangeAt Go.RowKit
set_option linter.unusedVariables false
set_option maxRecDepth 20000
theorem below_drewN {B : Nat} {a w : World} (h : Below B a w) (n : Nat) : Below B a (w.drewN n) := ⟨h.os, h.tape, h.output, h.size, h.block⟩
abbrev ptr (a : Nat) : Value := .pointer (some ⟨a, 0, none⟩)


theorem take_snoc {α : Type} (l : List α) (k : Nat) (h : k < l.length) : l.take (k + 1) = l.take k ++ [l[k]] := by
  rw [List.take_succ_eq_append_getElem h]

/-- What the program says of a slice type sl whose elements el are numbers of one cell. -/
structure RowT (sl el : TypeId) : Prop where
  under : Tryz.prog.underlying sl = some (.slice el)
  under2 : Tryz.prog.underlying sl = some (.slice (Tryz.prog.elem sl))
  info : (Tryz.prog.info? el).map (fun i => (i.zero, i.size, i.bytes)) = some (some (.int .i64 0), 1, 8)
  elem : ∀ W : World, (sizeOf (Tryz.prog.elem sl)).run Tryz.prog W = .ok 1 W
theorem rowK : RowT 24 2 := ⟨Tryz.underlying24, by kernel_rfl, by kernel_rfl, fun W => by kernel_rfl⟩

def ints (zs : List Int) : List Value := zs.map (Value.int .i64)
theorem ints_length (zs : List Int) : (ints zs).length = zs.length := by simp [ints]
theorem ints_append (a b : List Int) : ints (a ++ b) = ints a ++ ints b := by simp [ints]
theorem ints_one (zs : List Int) : ∀ u ∈ ints zs, u.oneCell' = true := by intro u hu; simp [ints] at hu; obtain ⟨z, _, rfl⟩ := hu; rfl
theorem ints_at {zs : List Int} {i : Nat} {u : Value} (h : (ints zs)[i]? = some u) : ∃ z, zs[i]? = some z ∧ u = .int .i64 z := by
  simp [ints] at h; obtain ⟨z, hz, rfl⟩ := h; exact ⟨z, hz, rfl⟩

/-- A slice of n numbers at A, with room for c, reads as the list zs. -/
structure Sl (w : World) (A : Option Addr) (n c : Nat) (zs : List Int) : Prop where
  len : n = zs.length
  cap : n ≤ c
  none_ : A = none → c = 0
  cells : zs = [] ∨ ∃ b off, A = some ⟨b, off, none⟩ ∧ ∀ i z, zs[i]? = some z → w.cell? ⟨b, off + i, none⟩ = some (.int .i64 z)

section
variable {w w' : World} {A : Option Addr} {n c : Nat} {zs : List Int}

theorem Sl.nil (w : World) : Sl w none 0 0 [] := ⟨rfl, Nat.le_refl _, fun _ => rfl, .inl rfl⟩
theorem Sl.at_ (h : Sl w A n c zs) {k : Nat} (hk : k < zs.length) : ∃ b off, A = some ⟨b, off, none⟩ ∧ b < w.heap.size ∧ w.cell? ⟨b, off + k, none⟩ = some (.int .i64 zs[k]) := by
  rcases h.cells with rfl | ⟨b, off, rfl, hc⟩
  · simp at hk
  · have := hc k _ (List.getElem?_eq_getElem hk)
    exact ⟨b, off, rfl, World.block_lt_of_cell? w _ this, this⟩
theorem Sl.keep (h : Sl w A n c zs) (hk : ∀ p : Addr, p.block < w.heap.size → w'.cell? p = w.cell? p) : Sl w' A n c zs := by
  refine ⟨h.len, h.cap, h.none_, ?_⟩
  rcases h.cells with hn | ⟨b, off, rfl, hc⟩
  · exact .inl hn
  · refine .inr ⟨b, off, rfl, fun j u hu => ?_⟩
    have := hc j u hu
    rw [hk _ (World.block_lt_of_cell? w _ this)]
    exact this
theorem Sl.below (h : Sl w A n c zs) (hb : Below w.heap.size w w') : Sl w' A n c zs := h.keep fun _ hp => hb.cell hp
theorem Sl.alloc (h : Sl w A n c zs) (o : Obj) : Sl (w.alloc o) A n c zs := h.keep fun p hp => World.cell?_alloc_lt w o p hp
theorem Sl.drew (h : Sl w A n c zs) : Sl w.drew A n c zs := ⟨h.len, h.cap, h.none_, h.cells⟩
theorem Sl.drewN (h : Sl w A n c zs) (k : Nat) : Sl (w.drewN k) A n c zs := ⟨h.len, h.cap, h.none_, h.cells⟩

/-- A cut from a place on. -/
theorem Sl.from_ (h : Sl w A n c zs) {k : Nat} (hk : k ≤ n) : Sl w (if c = k then A else A.map (·.add k)) (n - k) (c - k) (zs.drop k) := by
  refine ⟨by rw [List.length_drop, h.len], by have := h.cap; omega, ?_, ?_⟩
  · intro e
    have : A = none := by
      split at e
      · exact e
      · simpa using e
    rw [h.none_ this]; omega
  · by_cases h0 : k = n
    · exact .inl (List.drop_eq_nil_of_le (by have := h.len; omega))
    · rw [if_neg (by have := h.cap; omega)]
      rcases h.cells with rfl | ⟨b, off, rfl, hcell⟩
      · exact .inl (by simp)
      · refine .inr ⟨b, off + k, ?_, fun j u hu => ?_⟩
        · simp only [Option.map_some, Addr.add]
          split
          · rename_i e; rw [e]; rfl
          · rfl
        · rw [List.getElem?_drop] at hu
          have := hcell (k + j) u hu
          rw [← Nat.add_assoc] at this
          exact this
/-- A cut up to a place. -/
theorem Sl.upto (h : Sl w A n c zs) {k : Nat} (hk : k ≤ n) : Sl w A k c (zs.take k) := by
  refine ⟨by rw [List.length_take]; have := h.len; omega, by have := h.cap; omega, h.none_, ?_⟩
  rcases h.cells with rfl | ⟨b, off, rfl, hcell⟩
  · exact .inl (by simp)
  · refine .inr ⟨b, off, rfl, fun j u hu => hcell j u ?_⟩
    rw [List.getElem?_take] at hu
    split at hu
    · exact hu
    · cases hu
end

section
variable {sl el : TypeId} (R : RowT sl el) {w : World} {A : Option Addr} {n c : Nat} {zs : List Int}
include R
/-- 's[k:]': its address under one name. -/
theorem cut_from (h : Sl w A n c zs) (k : Nat) (hk : k ≤ n) :
    ∃ A' : Option Addr, Sl w A' (n - k) (c - k) (zs.drop k) ∧ ∀ W : World, (Instr.slice sl (.slice A n c) (some (.int .i64 (k : Int))) none none).run Tryz.prog W = .ok (.slice A' (n - k) (c - k)) W := by
  refine ⟨_, h.from_ hk, fun W => ?_⟩
  rw [run_slice_l (P := Tryz.prog) (t := sl) _ _ _ _ R.under2 .i64 (k : Int) (by omega) (by omega), R.elem W]
  simp [Result.andThen, sliced]
/-- 's[:k]'. -/
theorem cut_upto (h : Sl w A n c zs) (k : Nat) (hk : k ≤ n) :
    ∃ A' : Option Addr, Sl w A' k c (zs.take k) ∧ ∀ W : World, (Instr.slice sl (.slice A n c) none (some (.int .i64 (k : Int))) none).run Tryz.prog W = .ok (.slice A' k c) W := by
  refine ⟨A, h.upto hk, fun W => ?_⟩
  have := h.cap
  rw [run_slice_h (P := Tryz.prog) (t := sl) _ _ _ _ R.under2 .i64 (k : Int) (by omega) (by omega), R.elem W]
  have e : A.map (fun x => x.add 0) = A := by cases A <;> simp [Addr.add]
  simp [Result.andThen, sliced, e]
end

/-- v is a row of elements el that lies at block base or above, and reads as zs. -/
def Row (el : TypeId) (base : Nat) (w : World) (v : Value) (zs : List Int) : Prop := w.ownsRow base el 1 v zs.length (ints zs)

section
variable {el : TypeId} {base : Nat} {w w' : World} {v : Value} {zs : List Int}
theorem Row.nil (el : TypeId) (base : Nat) (w : World) : Row el base w (.slice none 0 0) [] := World.ownsRow_nil _ _ _ _
theorem Row.empty (el : TypeId) {base : Nat} (w : World) (hb : base ≤ w.heap.size) : Row el base (w.alloc (.cells #[] el)) (.slice (some ⟨w.heap.size, 0, none⟩) 0 0) [] :=
  World.ownsRow_made w #[] 0 hb (Nat.zero_le _) rfl
theorem Row.alloc (h : Row el base w v zs) (o : Obj) : Row el base (w.alloc o) v zs := World.ownsRow.alloc h o
theorem Row.drew (h : Row el base w v zs) : Row el base w.drew v zs := h
theorem Row.drewN (h : Row el base w v zs) (k : Nat) : Row el base (w.drewN k) v zs := h
theorem Row.lower {base' : Nat} (h : Row el base w v zs) (hb : base' ≤ base) : Row el base' w v zs := by
  obtain ⟨h1, h2⟩ := h
  refine ⟨h1, ?_⟩
  rcases h2 with h2 | ⟨g, cap, cur, e, hg, r⟩
  · exact .inl h2
  · exact .inr ⟨g, cap, cur, e, Nat.le_trans hb hg, r⟩
theorem Row.next (h : Row el base w v zs) (hb : Below w.heap.size w w') : Row el base w' v zs := by
  refine World.ownsRow.kept (row := none) h ⟨hb.os, hb.tape, hb.output, hb.size, fun k hk _ => hb.block k hk⟩ ?_
  cases v.ownBlock with
  | none => exact .inl rfl
  | some _ => exact .inr (by simp)
theorem Row.set_below (h : Row el base w v zs) {p : Addr} (hp : p.block < base) (u : Value) : Row el base (w.setCell p u) v zs := ownsRow_setCell_below h hp u
theorem Row.grown (h : Row el base w v zs) {row : Option Nat} (hg : w.grownBy w' row) (hne : v.ownBlock = none ∨ v.ownBlock ≠ row) : Row el base w' v zs := World.ownsRow.kept h hg hne
/-- Its form. -/
theorem Row.form (h : Row el base w v zs) : ∃ A c, v = .slice A zs.length c ∧ Sl w A zs.length c zs := by
  have hl := h
  rcases h.2 with ⟨rfl, h0⟩ | ⟨g, cap, cur, rfl, _, _, h1, h2, _⟩
  · have e : zs = [] := List.eq_nil_of_length_eq_zero h0
    subst e
    exact ⟨none, 0, rfl, Sl.nil _⟩
  · refine ⟨_, cap, rfl, rfl, h1, fun e => (by cases e), .inr ⟨g, 0, rfl, fun i z hi => ?_⟩⟩
    have hlt : i < zs.length := (List.getElem?_eq_some_iff.1 hi).1
    rw [Nat.zero_add, World.ownsRow.cellAt hl i (by omega)]
    simp [ints, hi]
/-- Its form, the length under a name of its own. -/
theorem Row.shape (h : Row el base w v zs) : ∃ A n c, v = .slice A n c := by
  obtain ⟨A, c, e, _⟩ := h.form
  exact ⟨A, _, c, e⟩
/-- Its block, where it has one. -/
theorem Row.block (h : Row el base w v zs) : v.ownBlock = none ∨ ∃ g cur, v.ownBlock = some g ∧ base ≤ g ∧ w.heap[g]? = some (.cells cur el (0, 0)) := by
  rcases h.2 with ⟨rfl, h0⟩ | ⟨g, cap, cur, rfl, hb, hg, _⟩
  · exact .inl rfl
  · exact .inr ⟨g, cur, rfl, hb, hg⟩
/-- Rows of unlike elements are apart. -/
theorem Row.apart {el' : TypeId} {base' : Nat} {v' : Value} {zs' : List Int} (h : Row el base w v zs) (h' : Row el' base' w v' zs') (hne : el ≠ el') : v.ownBlock = none ∨ v.ownBlock ≠ v'.ownBlock := by
  rcases h.block with h0 | ⟨g, cur, e, _, hg⟩
  · exact .inl h0
  · right
    rcases h'.block with h0 | ⟨g', cur', e', _, hg'⟩
    · rw [e, h0]; simp
    · rw [e, e']
      intro e2
      injection e2 with e2
      subst e2
      rw [hg] at hg'
      injection hg' with hg'
      injection hg' with _ ht
      exact hne ht
/-- An element written: where it lies, and what the row is behind that. -/
theorem Row.put (h : Row el base w v zs) {k : Nat} (hk : k < zs.length) : ∃ g c u, v = .slice (some ⟨g, 0, none⟩) zs.length c ∧ base ≤ g ∧ g < w.heap.size ∧ zs.length ≤ c ∧ w.cell? ⟨g, k, none⟩ = some u ∧ w.frozen? ⟨g, k, none⟩ = false ∧
    ∀ z, Row el base (w.setCell ⟨g, k, none⟩ (.int .i64 z)) v (zs.set k z) ∧ w.grownBy (w.setCell ⟨g, k, none⟩ (.int .i64 z)) (some g) := by
  have hl := h
  rcases h.2 with ⟨rfl, h0⟩ | ⟨g, cap, cur, rfl, hb, hg, h1, _⟩
  · omega
  · refine ⟨g, cap, .int .i64 zs[k], rfl, hb, (Array.getElem?_eq_some_iff.1 hg).1, h1, ?_, World.ownsRow.frozenAt hl k, fun z => ?_⟩
    · rw [World.ownsRow.cellAt hl k (by omega)]
      simp [ints, hk]
    · have := World.ownsRow.stored hl k (.int .i64 z)
      refine ⟨?_, this.2⟩
      have h3 := this.1
      unfold Row ints
      rw [List.map_set, List.length_set]
      exact h3
end

section
variable {sl el : TypeId} (R : RowT sl el) {ops : Array Oper} {rest : List Oper} {o : Oper} {a : Act} {Q : Exit → Act → World → Prop} {base : Nat} {w : World}
include R

/-- The run of 'append(out, src...)': numbers that are read at their place, behind a row of the call's own. -/
theorem run_pushAll (ty : TypeId) (v : Value) (zs : List Int) (hown : Row el base w v zs) (A : Option Addr) (n c : Nat) (ms : List Int) (hm : Sl w A n c ms) (hlen : zs.length + ms.length ≤ 100000) (hb : base ≤ w.heap.size) :
    ∃ v' w', (Builtin.append_ #[sl, sl] ty #[v, .slice A n c]).run Tryz.prog w = .ok v' w' ∧ Row el base w' v' (zs ++ ms) ∧ w.grownBy w' v.ownBlock := by
  obtain ⟨i0, hi0, hz0, hz1, hz2⟩ := info_parts R.info
  have hn := hm.len
  cases A with
  | none =>
    have e : ms = [] := by
      rcases hm.cells with e | ⟨_, _, e, _⟩
      · exact e
      · cases e
    subst e
    obtain rfl : c = 0 := hm.none_ rfl
    obtain rfl : n = 0 := by simpa using hn
    exact ⟨v, w, run_append_owned_none (P := Tryz.prog) w base sl ty el i0 1 R.under hi0 v zs.length (ints zs) hown, by simpa using hown, World.grownBy.refl _ _⟩
  | some ad =>
    obtain ⟨v', w', h1, h2, h3, _⟩ := run_append_own (P := Tryz.prog) w base sl ty el i0 _ 1 8 R.under hi0 hz0 hz1 hz2 rfl (by omega) v zs.length (ints zs) hown ad n c (ints ms) (by rw [ints_length, hn]; omega)
      (by
        intro j u hj
        rcases hm.cells with e | ⟨b, off, e, hc⟩
        · subst e; simp [ints] at hj
        · have e := Option.some.inj e
          subst e
          obtain ⟨z, hz, rfl⟩ := ints_at hj
          have := hc j z hz
          unfold Addr.add
          split
          · rename_i e0; subst e0; exact this
          · exact this) (ints_one _) (by unfold maxLen; omega) (by omega) hb
    refine ⟨v', w', h1, ?_, h3⟩
    unfold Row
    rw [List.length_append, ← hn, ints_append]
    exact h2

/-- 'append(out, src...)' in a plain region. -/
theorem pushN (hg : o.guard = none) (s x : Operand) (ho : o.op = .call { callee := .builtin .append, args := #[s, x], argTypes := #[sl, sl] })
    (v : Value) (zs : List Int) (hs : a.eval s = v) (hown : Row el base w v zs) (A : Option Addr) (n c : Nat) (ms : List Int) (hx : a.eval x = .slice A n c) (hm : Sl w A n c ms) (hlen : zs.length + ms.length ≤ 100000) (hb : base ≤ w.heap.size)
    (h : ∀ v' w', Row el base w' v' (zs ++ ms) → w.grownBy w' v.ownBlock → wpList Tryz.prog ops Q rest (a.put o.dst v') w') :
    wpList Tryz.prog ops Q (o :: rest) a w := by
  obtain ⟨v', w', hr, h1, h2⟩ := run_pushAll R o.type v zs hown A n c ms hm hlen hb
  exact Lib.wpList_append_run (P := Tryz.prog) w hg s x sl sl ho v _ hs hx v' w' hr (h v' w' h1 h2)

/-- 'append(out, src...)' at a step of a region that draws. -/
theorem step_pushAll {K : Act → World → Prop} {E : Prop} (hg : o.guard = none) (s x : Operand) (ho : o.op = .call { callee := .builtin .append, args := #[s, x], argTypes := #[sl, sl] })
    (v : Value) (zs : List Int) (hs : a.eval s = v) (hown : Row el base w v zs) (A : Option Addr) (n c : Nat) (ms : List Int) (hx : a.eval x = .slice A n c) (hm : Sl w A n c ms) (hlen : zs.length + ms.length ≤ 100000) (hb : base ≤ w.heap.size)
    (h : ∀ v' w', Row el base w' v' (zs ++ ms) → w.grownBy w' v.ownBlock → K (a.put o.dst v') w') :
    if Region.wanted o (yielded ops a.tmps) = true then Oper.wp Tryz.prog o a w K Q else E := by
  have hw : Region.wanted o (yielded ops a.tmps) = true := by simp [Region.wanted, hg]
  rw [if_pos hw]
  obtain ⟨v', w', hr, h1, h2⟩ := run_pushAll R o.type v zs hown A n c ms hm hlen hb
  exact Lib.wp_append_run (P := Tryz.prog) w s x sl sl ho v _ hs hx v' w' hr (h v' w' h1 h2)
end

theorem sl_one {W : World} {g : Nat} {x : Int} (h1 : W.cell? ⟨g, 0, none⟩ = some (.int .i64 x)) : Sl W (some ⟨g, 0, none⟩) 1 1 [x] := by
  refine ⟨rfl, Nat.le_refl _, fun e => (by cases e), .inr ⟨g, 0, rfl, fun j u hj => ?_⟩⟩
  match j, hj with
  | 0, hj => simp at hj; subst hj; exact h1
theorem ret_int {k : IntKind} {a b : Int} (h : a = b) : Ending.returned (.int k a) = .returned (.int k b) := by rw [h]
theorem ret_bool {a b : Bool} (h : a = b) : Ending.returned (.bool a) = .returned (.bool b) := by rw [h]
theorem Sl.at0 {w : World} {A : Option Addr} {n c : Nat} {zs : List Int} (h : Sl w A n c zs) {k : Nat} (hk : k < n) : ∃ b off, A = some ⟨b, off, none⟩ ∧ b < w.heap.size ∧ w.cell? ⟨b, off + k, none⟩ = some (.int .i64 (zs.getD k 0)) := by
  have hl : k < zs.length := by rw [← h.len]; exact hk
  obtain ⟨b, off, e, hb, hc⟩ := h.at_ hl
  exact ⟨b, off, e, hb, by rw [hc]; simp [List.getD, hl]⟩
theorem Row.sl {el : TypeId} {base : Nat} {w : World} {A : Option Addr} {n c : Nat} {zs : List Int} (h : Row el base w (.slice A n c) zs) : Sl w A n c zs := by
  obtain ⟨_, _, e, s⟩ := h.form
  injection e with e1 e2 e3
  subst e1 e2 e3
  exact s
theorem below_new (w : World) (o : Obj) : Below w.heap.size w (w.alloc o) := (Below.refl _ w).alloc (Nat.le_refl _) o

/-- Cells of blocks that were made just now. -/
theorem c_new {w : World} {cs : Array Value} {t : TypeId} {b j : Nat} {v : Value} (h : w.heap.size = b) (hj : cs[j]? = some v) : (w.alloc (.cells cs t)).cell? ⟨b, j, none⟩ = some v := by
  subst h
  rw [cell_of_row _ _ _ cs t (0, 0) (heap_alloc_new w _)]
  exact hj
theorem c_old {w : World} {o : Obj} {p : Addr} {v : Value} (h : w.cell? p = some v) : (w.alloc o).cell? p = some v := (World.cell?_alloc_lt w o p (World.block_lt_of_cell? w p h)).trans h
theorem c_top {w : World} {cs : Array Value} {t : TypeId} {b j : Nat} {v : Value} (h : w.heap.size = b) (hj : cs[j]? = some v) : (w.alloc (.cells cs t)).drew.cell? ⟨b, j, none⟩ = some v := c_new h hj
theorem c_one {w : World} {cs : Array Value} {t : TypeId} {b j : Nat} {v : Value} {o : Obj} (h : w.heap.size = b) (hj : cs[j]? = some v) : ((w.alloc (.cells cs t)).alloc o).drew.cell? ⟨b, j, none⟩ = some v := c_old (c_new h hj)
theorem c_two {w : World} {cs : Array Value} {t : TypeId} {b j : Nat} {v : Value} {o o' : Obj} (h : w.heap.size = b) (hj : cs[j]? = some v) : (((w.alloc (.cells cs t)).alloc o).alloc o').drew.cell? ⟨b, j, none⟩ = some v := c_old (c_old (c_new h hj))
theorem c_thr {w : World} {cs : Array Value} {t : TypeId} {b j : Nat} {v : Value} {o o' o'' : Obj} (h : w.heap.size = b) (hj : cs[j]? = some v) : ((((w.alloc (.cells cs t)).alloc o).alloc o').alloc o'').drew.cell? ⟨b, j, none⟩ = some v := c_old (c_old (c_old (c_new h hj)))
theorem below_read {W w' : World} {p : Addr} {v : Value} (hb : Below W.heap.size W w') (h : W.cell? p = some v) : w'.cell? p = some v := (hb.cell (World.block_lt_of_cell? W p h)).trans h

theorem h_new {w : World} {o : Obj} {b : Nat} (h : w.heap.size = b) : (w.alloc o).heap[b]? = some o := by subst h; exact heap_alloc_new w o
theorem h_old {w : World} {o o' : Obj} {b : Nat} (h : w.heap[b]? = some o) : (w.alloc o').heap[b]? = some o := (Below.heap_alloc w o' b (Array.getElem?_eq_some_iff.1 h).1).trans h
/-- A row without elements that was built at block g. -/
theorem Row.of_block {el : TypeId} {base g : Nat} {w : World} (h : w.heap[g]? = some (.cells #[] el (0, 0))) (hb : base ≤ g) : Row el base w (.slice (some ⟨g, 0, none⟩) 0 0) [] :=
  ⟨rfl, .inr ⟨g, 0, #[], rfl, hb, h, Nat.le_refl _, Nat.zero_le _, rfl, rfl⟩⟩

theorem h_newd {w : World} {o : Obj} {b : Nat} (h : w.heap.size = b) : (w.alloc o).drew.heap[b]? = some o := h_new h
theorem h_oldd {w : World} {o o' : Obj} {b : Nat} (h : w.heap[b]? = some o) : (w.alloc o').drew.heap[b]? = some o := h_old h

/-- 'append(out, src...)' at a step of a region that draws; what else there is of unlike rows stays. -/
theorem step_pushB {sl el : TypeId} (R : RowT sl el) {ops : Array Oper} {o : Oper} {a : Act} {Q : Exit → Act → World → Prop} {base : Nat} {w : World} {K : Act → World → Prop} {E : Prop} (hg : o.guard = none) (s x : Operand) (ho : o.op = .call { callee := .builtin .append, args := #[s, x], argTypes := #[sl, sl] })
    (v : Value) (zs : List Int) (hs : a.eval s = v) (hown : Row el base w v zs) (A : Option Addr) (n c : Nat) (ms : List Int) (hx : a.eval x = .slice A n c) (hm : Sl w A n c ms) (hlen : zs.length + ms.length ≤ 100000) (hb : base ≤ w.heap.size)
    (h : ∀ v' w', Row el base w' v' (zs ++ ms) → Below base w w' → (∀ el' b' v'' zs', el' ≠ el → Row el' b' w v'' zs' → Row el' b' w' v'' zs') → K (a.put o.dst v') w') :
    if Region.wanted o (yielded ops a.tmps) = true then Oper.wp Tryz.prog o a w K Q else E :=
  step_pushAll R hg s x ho v zs hs hown A n c ms hx hm hlen hb fun v' w' h1 h2 => h v' w' h1 ((Below.refl _ w).grown h2 hb fun k hk => (World.ownsRow.lt hown k hk).1) fun _ _ _ _ hne hr => hr.grown h2 (hr.apart hown hne)

theorem grown_set (w : World) (p : Addr) (u : Value) : w.grownBy (w.setCell p u) (some p.block) := ⟨rfl, rfl, rfl, by simp, fun k _ hk => heap_setCell_other w p k u (fun e => hk (by rw [e]))⟩

/-- From w to w' nothing has changed but in blocks of F, and new ones. -/
structure Only (F : Nat → Prop) (w w' : World) : Prop where
  os : w'.os = w.os
  tape : w'.tape = w.tape
  output : w'.output = w.output
  size : w.heap.size ≤ w'.heap.size
  block : ∀ k, k < w.heap.size → ¬ F k → w'.heap[k]? = w.heap[k]?
section
variable {F G : Nat → Prop} {w w' w2 : World}
theorem Only.refl (F : Nat → Prop) (w : World) : Only F w w := ⟨rfl, rfl, rfl, Nat.le_refl _, fun _ _ _ => rfl⟩
theorem Only.trans (h : Only F w w') (k : Only G w' w2) (hs : ∀ b, G b → F b ∨ w.heap.size ≤ b) : Only F w w2 :=
  ⟨k.os.trans h.os, k.tape.trans h.tape, k.output.trans h.output, Nat.le_trans h.size k.size, fun b hb hF => (k.block b (Nat.lt_of_lt_of_le hb h.size) (fun hG => by rcases hs b hG with h1 | h1; exact hF h1; omega)).trans (h.block b hb hF)⟩
theorem Only.then (h : Only F w w') (k : Only F w' w2) : Only F w w2 := h.trans k fun _ hb => .inl hb
theorem Only.mono (h : Only F w w') (hs : ∀ b, F b → G b) : Only G w w' := ⟨h.os, h.tape, h.output, h.size, fun b hb hG => h.block b hb fun hF => hG (hs b hF)⟩
theorem Only.of_below (F : Nat → Prop) (h : Below w.heap.size w w') : Only F w w' := ⟨h.os, h.tape, h.output, h.size, fun b hb _ => h.block b hb⟩
theorem Only.below (h : Only F w w') {B : Nat} (hF : ∀ b, F b → B ≤ b) (hB : B ≤ w.heap.size) : Below B w w' := ⟨h.os, h.tape, h.output, h.size, fun b hb => h.block b (by omega) fun hf => by have := hF b hf; omega⟩
theorem Only.set (F : Nat → Prop) (w : World) {p : Addr} (hp : F p.block) (u : Value) : Only F w (w.setCell p u) := ⟨rfl, rfl, rfl, by simp, fun b _ hF => heap_setCell_other w p b u (fun e => hF (e ▸ hp))⟩
theorem Only.grown (F : Nat → Prop) {row : Option Nat} (h : w.grownBy w' row) (hr : ∀ b, row = some b → F b) : Only F w w' := ⟨h.os, h.tape, h.output, h.size, fun b hb hF => h.block b hb fun e => hF (hr b e.symm)⟩
end

section
variable {w w' : World} {base : Nat} {e : TypeId} {size : Nat} {v : Value} {n : Nat} {xs : List Value}
/-- A row lies as it lay, if its block does. -/
theorem own_at (h : w.ownsRow base e size v n xs) (hb : ∀ b, v.ownBlock = some b → w'.heap[b]? = w.heap[b]?) : w'.ownsRow base e size v n xs := by
  refine ⟨h.1, ?_⟩
  rcases h.2 with h0 | ⟨g, cap, cur, rfl, h1, h2, r⟩
  · exact .inl h0
  · exact .inr ⟨g, cap, cur, rfl, h1, (hb g rfl).trans h2, r⟩
/-- A block's kind of cells. -/
def Ty (w : World) (b : Nat) (t : TypeId) : Prop := ∃ cur, w.heap[b]? = some (.cells cur t (0, 0))
theorem Ty.one {b : Nat} {t t' : TypeId} (h : Ty w b t) (h' : Ty w b t') : t = t' := by
  obtain ⟨c, h⟩ := h; obtain ⟨c', h'⟩ := h'
  rw [h] at h'; injection h' with h'; injection h'
theorem own_ty (h : w.ownsRow base e size v n xs) {b : Nat} (hb : v.ownBlock = some b) : Ty w b e := by
  rcases h.2 with ⟨rfl, _⟩ | ⟨g, cap, cur, rfl, h1, h2, r⟩
  · cases hb
  · injection hb with hb; subst hb; exact ⟨cur, h2⟩
/-- A store elsewhere, into a block of another kind. -/
theorem own_set (h : w.ownsRow base e size v n xs) {p : Addr} {t : TypeId} (hp : Ty w p.block t) (hne : t ≠ e) (u : Value) : (w.setCell p u).ownsRow base e size v n xs :=
  own_at h fun b hb => heap_setCell_other w p b u fun eb => hne (hp.one (eb ▸ own_ty h hb))
theorem own_lower {base' : Nat} (h : w.ownsRow base e size v n xs) (hb : base' ≤ base) : w.ownsRow base' e size v n xs := by
  obtain ⟨h1, h2⟩ := h
  refine ⟨h1, ?_⟩
  rcases h2 with h2 | ⟨g, cap, cur, e, hg, r⟩
  · exact .inl h2
  · exact .inr ⟨g, cap, cur, e, Nat.le_trans hb hg, r⟩
end

section
variable {w : World} {e : TypeId} {size : Nat}
/-- 'append' to a row: where the row lies then. -/
theorem run_push (t ty e : TypeId) (i : TypeInfo) (z : Value) (size bytes : Nat) (ht : Tryz.prog.underlying t = some (.slice e)) (hi : Tryz.prog.info? e = some i) (hz : i.zero = some z)
    (hsize : i.size = size) (hby : i.bytes = bytes) (hzs : z.cells.size = size) (hsz : 0 < size)
    (v : Value) (n : Nat) (xs : List Value) (hown : w.ownsRow 0 e size v n xs)
    (a : Addr) (m c : Nat) (news : List Value) (hl : news.length = m * size) (hnews : ∀ j u, news[j]? = some u → w.cell? (a.add j) = some u) (h1 : ∀ u ∈ news, u.oneCell' = true)
    (h63 : n + m ≤ maxLen) (hbytes : (n + m) * bytes ≤ 140737488355328) :
    ∃ v' w', (Builtin.append_ #[t, t] ty #[v, .slice (some a) m c]).run Tryz.prog w = .ok v' w' ∧ w'.ownsRow 0 e size v' (n + m) (xs ++ news) ∧ w.grownBy w' v.ownBlock ∧
      ∀ b, v'.ownBlock = some b → v.ownBlock = some b ∨ w.heap.size ≤ b := by
  obtain ⟨v', w', hr, h2, h3, _⟩ := run_append_own (P := Tryz.prog) w 0 t ty e i z size bytes ht hi hz hsize hby hzs hsz v n xs hown a m c news hl hnews h1 h63 hbytes (Nat.zero_le _)
  refine ⟨v', w', hr, h2, h3, fun b hb => ?_⟩
  rcases hown.2 with ⟨rfl, rfl⟩ | ⟨g, cap, cur, rfl, _, hg, hnc, hcm, hcs, htake⟩
  · have hx : xs = [] := List.eq_nil_of_length_eq_zero (by simpa using hown.1)
    subst hx
    obtain ⟨v2, w2, hr2, h22, _⟩ := run_append_own (P := Tryz.prog) w w.heap.size t ty e i z size bytes ht hi hz hsize hby hzs hsz _ 0 [] (World.ownsRow_nil _ _ _ _) a m c news hl hnews h1 h63 hbytes (Nat.le_refl _)
    rw [hr] at hr2
    injection hr2 with e1 e2
    subst e1
    exact .inr (h22.lt b hb).1
  · subst hsize
    subst hby
    by_cases hroom : n + m ≤ cap
    · have hfit : n * i.size + news.length ≤ cur.size := by rw [hl, hcs, ← Nat.add_mul]; exact Nat.mul_le_mul_right _ hroom
      have hr2 := run_append_room (P := Tryz.prog) w t ty e i ht hi g n cap cur hg a m c news hl hnews h1 hroom hfit
      rw [hr] at hr2
      injection hr2 with e1 e2
      subst e1
      exact .inl hb
    · have holds : ∀ j u, xs[j]? = some u → w.cell? ((⟨g, 0, none⟩ : Addr).add j) = some u := hown.cells (g := g) rfl
      have hr2 := run_append_grow (P := Tryz.prog) w t ty e i z ht hi hz ⟨g, 0, none⟩ n cap xs hown.1 holds a m c news hl hnews (by omega) (by simp only [maxLen] at h63; omega) (growslice_fits (by omega) hbytes)
      rw [hr] at hr2
      injection hr2 with e1 e2
      subst e1
      simp [Value.ownBlock] at hb
      exact .inr (by omega)
end

theorem add_lit0 (g off j : Nat) : (⟨g, off, none⟩ : Addr).add j = ⟨g, off + j, none⟩ := by unfold Addr.add; split <;> simp_all

theorem set_mid {α : Type} {A M B : List α} {k j : Nat} (hA : A.length = k) (hj : j < M.length) (u : α) : (A ++ (M ++ B)).set (k + j) u = A ++ (M.set j u ++ B) := by
  rw [List.set_append_right _ _ (by omega), show k + j - A.length = j from by omega, List.set_append_left _ _ hj]

theorem grown_two {w w1 w2 : World} {r : Option Nat} (h : w.grownBy w1 r) (k : w1.grownBy w2 r) : w.grownBy w2 r := ⟨k.os.trans h.os, k.tape.trans h.tape, k.output.trans h.output, Nat.le_trans h.size k.size, fun b hb hr => (k.block b (Nat.lt_of_lt_of_le hb h.size) hr).trans (h.block b hb hr)⟩
abbrev nilp : Value := .pointer none
theorem rowR : RowT 25 53 := ⟨Tryz.underlying25, by kernel_rfl, by kernel_rfl, fun W => by kernel_rfl⟩
end Go.Proofs.YtcegianjpifnbaaGreat
namespace Go.Proofs.YtcegianjpifnbaaGreat
open Go.RowKit

/-- The cells of pairs: key, value, key, value .. -/
def cellsP : List (Int × Int) → List Value
  | [] => []
  | p :: l => .int .i64 p.1 :: .int .i64 p.2 :: cellsP l

theorem cellsP_length (l : List (Int × Int)) : (cellsP l).length = l.length * 2 := by
  induction l with
  | nil => rfl
  | cons p l ih => simp [cellsP, ih]; omega

theorem cellsP_append (a b : List (Int × Int)) : cellsP (a ++ b) = cellsP a ++ cellsP b := by
  induction a with
  | nil => rfl
  | cons p l ih => simp [cellsP, ih]

theorem cellsP_oneCell (l : List (Int × Int)) : ∀ u ∈ cellsP l, u.oneCell' = true := by
  induction l with
  | nil => simp [cellsP]
  | cons p l ih =>
    intro u hu
    simp only [cellsP, List.mem_cons] at hu
    rcases hu with rfl | rfl | hu
    · rfl
    · rfl
    · exact ih u hu

theorem cellsP_key {l : List (Int × Int)} {i : Nat} {p : Int × Int} (h : l[i]? = some p) : (cellsP l)[i * 2]? = some (.int .i64 p.1) := by
  induction l generalizing i with
  | nil => simp at h
  | cons q l ih =>
    cases i with
    | zero => simp at h; subst h; rfl
    | succ i => rw [Nat.succ_mul]; simp at h; simpa [cellsP] using ih h

theorem cellsP_value {l : List (Int × Int)} {i : Nat} {p : Int × Int} (h : l[i]? = some p) : (cellsP l)[i * 2 + 1]? = some (.int .i64 p.2) := by
  induction l generalizing i with
  | nil => simp at h
  | cons q l ih =>
    cases i with
    | zero => simp at h; subst h; rfl
    | succ i => rw [Nat.succ_mul]; simp at h; simpa [cellsP] using ih h

/-- A slice of n pairs at A reads as the list l. -/
def Lf (w : World) (A : Option Addr) (n : Nat) (l : List (Int × Int)) : Prop :=
  n = l.length ∧ (l = [] ∨ ∃ b off, A = some ⟨b, off, none⟩ ∧ ∀ j u, (cellsP l)[j]? = some u → w.cell? ⟨b, off + j, none⟩ = some u)

section
variable {w w' : World} {A : Option Addr} {n : Nat} {l : List (Int × Int)}

theorem Lf.nil (w : World) (A : Option Addr) : Lf w A 0 [] := ⟨rfl, .inl rfl⟩

theorem Lf.len (h : Lf w A n l) : n = l.length := h.1

/-- The cells of the element at a place. -/
theorem Lf.at_ (h : Lf w A n l) {k : Nat} (hk : k < l.length) :
    ∃ b off, A = some ⟨b, off, none⟩ ∧ b < w.heap.size ∧ w.cell? ⟨b, off + k * 2, none⟩ = some (.int .i64 l[k].1) ∧ w.cell? ⟨b, off + k * 2 + 1, none⟩ = some (.int .i64 l[k].2) := by
  rcases h.2 with rfl | ⟨b, off, rfl, hc⟩
  · simp at hk
  · have e : l[k]? = some l[k] := List.getElem?_eq_getElem hk
    have c1 := hc _ _ (cellsP_key e)
    have c2 := hc _ _ (cellsP_value e)
    rw [← Nat.add_assoc] at c2
    exact ⟨b, off, rfl, World.block_lt_of_cell? w _ c1, c1, c2⟩

theorem Lf.keep (h : Lf w A n l) (hk : ∀ p : Addr, p.block < w.heap.size → w'.cell? p = w.cell? p) : Lf w' A n l := by
  refine ⟨h.1, ?_⟩
  rcases h.2 with hn | ⟨b, off, rfl, hc⟩
  · exact .inl hn
  · refine .inr ⟨b, off, rfl, fun j u hu => ?_⟩
    have := hc j u hu
    rw [hk _ (World.block_lt_of_cell? w _ this)]
    exact this

theorem Lf.below (h : Lf w A n l) (hb : Below w.heap.size w w') : Lf w' A n l := h.keep fun _ hp => hb.cell hp
theorem Lf.drewN (h : Lf w A n l) (k : Nat) : Lf (w.drewN k) A n l := h
theorem Lf.drew (h : Lf w A n l) : Lf w.drew A n l := h
theorem Lf.alloc (h : Lf w A n l) (o : Obj) : Lf (w.alloc o) A n l := h.keep fun p hp => World.cell?_alloc_lt w o p hp

/-- What a call has made of its own reads as pairs. -/
theorem Lf.of_own {base : Nat} {e : TypeId} {c : Nat} (h : w.ownsRow base e 2 (.slice A n c) n (cellsP l)) : Lf w A n l := by
  have hl : n = l.length := by have := h.1; rw [cellsP_length] at this; omega
  refine ⟨hl, ?_⟩
  rcases h.2 with ⟨_, h0⟩ | ⟨g, cap, cur, hv, _⟩
  · exact .inl (List.eq_nil_of_length_eq_zero (by omega))
  · injection hv with hA
    subst hA
    refine .inr ⟨g, 0, rfl, fun j u hu => ?_⟩
    have hj : j < (cellsP l).length := (List.getElem?_eq_some_iff.1 hu).1
    rw [Nat.zero_add, ← hu]
    exact h.cellAt j (by rw [cellsP_length] at hj; omega)

/-- A cut from a place on. -/
theorem Lf.from_ (h : Lf w A n l) {k c : Nat} (hk : k ≤ n) (hc : n ≤ c) : Lf w (if c = k then A else A.map (·.add (k * 2))) (n - k) (l.drop k) := by
  refine ⟨by rw [List.length_drop, h.1], ?_⟩
  by_cases h0 : k = n
  · exact .inl (List.drop_eq_nil_of_le (by have := h.1; omega))
  · rw [if_neg (by omega)]
    rcases h.2 with rfl | ⟨b, off, rfl, hcell⟩
    · exact .inl (by simp)
    · refine .inr ⟨b, off + k * 2, ?_, fun j u hu => ?_⟩
      · simp only [Option.map_some, Addr.add]
        split
        · rename_i e; rw [e]; rfl
        · rfl
      · have e : cellsP l = cellsP (l.take k) ++ cellsP (l.drop k) := by rw [← cellsP_append, List.take_append_drop]
        have hl : (cellsP (l.take k)).length = k * 2 := by rw [cellsP_length, List.length_take]; have := h.1; omega
        have := hcell (k * 2 + j) u (by rw [e, List.getElem?_append_right (by omega), hl, Nat.add_sub_cancel_left]; exact hu)
        rw [← Nat.add_assoc] at this
        exact this

/-- A cut up to a place. -/
theorem Lf.upto (h : Lf w A n l) {k : Nat} (hk : k ≤ n) : Lf w A k (l.take k) := by
  refine ⟨by rw [List.length_take]; have := h.1; omega, ?_⟩
  rcases h.2 with rfl | ⟨b, off, rfl, hcell⟩
  · exact .inl (by simp)
  · refine .inr ⟨b, off, rfl, fun j u hu => hcell j u ?_⟩
    have e : cellsP l = cellsP (l.take k) ++ cellsP (l.drop k) := by rw [← cellsP_append, List.take_append_drop]
    rw [e, List.getElem?_append_left (List.getElem?_eq_some_iff.1 hu).1]
    exact hu
end

/-- The cells below are read as they were. -/
theorem bcell {W w1 : World} (hb : Below W.heap.size W w1) : (∀ b o, b < W.heap.size → w1.cell? ⟨b, o, none⟩ = W.cell? ⟨b, o, none⟩) ∧ (∀ b o, b < W.heap.size → w1.frozen? ⟨b, o, none⟩ = W.frozen? ⟨b, o, none⟩) :=
  ⟨fun b o h => hb.cell (p := ⟨b, o, none⟩) h, fun b o h => hb.frozen (p := ⟨b, o, none⟩) h⟩
end Go.Proofs.YtcegianjpifnbaaGreat
namespace Go.Proofs.YtcegianjpifnbaaGreat
open Go.RowKit

theorem pair_info : (Tryz.prog.info? 65).map (fun i => (i.zero, i.size, i.bytes)) = some (some (.agg #[.int .i64 0, .int .i64 0]), 2, 16) := by kernel_rfl
theorem int64_info : (Tryz.prog.info? 2).map (fun i => (i.zero, i.size, i.bytes)) = some (some (.int .i64 0), 1, 8) := by kernel_rfl
theorem pair_size : (Tryz.prog.info? 65).map (·.size) = some 2 := by kernel_rfl

/-- v is a row that was made since w0, and reads as l; what lay in w0 lies as it lay. -/
def Own (w0 w : World) (v : Value) (l : List (Int × Int)) : Prop :=
  w.ownsRow w0.heap.size 65 2 v l.length (cellsP l) ∧ Below w0.heap.size w0 w

section
variable {w0 w w' : World} {v : Value} {l : List (Int × Int)}
theorem Own.nil (w0 : World) : Own w0 w0 (.slice none 0 0) [] := ⟨World.ownsRow_nil _ _ _ _, Below.refl _ _⟩
theorem Own.nil' (h : Below w0.heap.size w0 w) : Own w0 w (.slice none 0 0) [] := ⟨World.ownsRow_nil _ _ _ _, h⟩
theorem Own.below (h : Own w0 w v l) : Below w0.heap.size w0 w := h.2
theorem Own.size (h : Own w0 w v l) : w0.heap.size ≤ w.heap.size := h.2.size
theorem Own.alloc (h : Own w0 w v l) (o : Obj) : Own w0 (w.alloc o) v l := ⟨h.1.alloc o, h.2.alloc h.2.size o⟩
theorem Own.drewN (h : Own w0 w v l) (n : Nat) : Own w0 (w.drewN n) v l := ⟨h.1, below_drewN h.2 n⟩
/-- The row lies below what comes next. -/
theorem Own.block_lt (h : Own w0 w v l) : ∀ k, v.ownBlock = some k → w0.heap.size ≤ k ∧ k < w.heap.size := h.1.lt
theorem Own.next (h : Own w0 w v l) (hb : Below w.heap.size w w') : Own w0 w' v l := by
  refine ⟨h.1.kept (row := none) ⟨hb.os, hb.tape, hb.output, hb.size, fun k hk _ => hb.block k hk⟩ ?_, h.2.trans (hb.mono h.2.size)⟩
  cases v.ownBlock with
  | none => exact .inl rfl
  | some _ => exact .inr (by simp)
/-- Its form. -/
theorem Own.form (h : Own w0 w v l) : ∃ A c, v = .slice A l.length c ∧ l.length ≤ c ∧ c ≤ maxLen ∧ Lf w A l.length l := by
  have hl := h.1
  rcases h.1.2 with ⟨rfl, h0⟩ | ⟨g, cap, cur, rfl, _, _, h1, h2, _⟩
  · have e : l = [] := List.eq_nil_of_length_eq_zero h0
    subst e
    exact ⟨none, 0, rfl, Nat.le_refl _, Nat.zero_le _, Lf.nil _ _⟩
  · exact ⟨_, cap, rfl, h1, h2, Lf.of_own hl⟩
end

/-- Counted from an earlier world on. -/
theorem Own.since {w0 w1 w2 : World} {v : Value} {l : List (Int × Int)} (h : Own w1 w2 v l) (hb : Below w0.heap.size w0 w1) : Own w0 w2 v l := by
  obtain ⟨⟨h1, h2⟩, h3⟩ := h
  refine ⟨⟨h1, ?_⟩, hb.trans (h3.mono hb.size)⟩
  rcases h2 with h2 | ⟨g, cap, cur, e, hg, r⟩
  · exact .inl h2
  · exact .inr ⟨g, cap, cur, e, Nat.le_trans hb.size hg, r⟩

section
variable {ops : Array Oper} {rest : List Oper} {o : Oper} {a : Act} {Q : Exit → Act → World → Prop}

/-- 'append(out, p)': a pair behind a row of the call's own. -/
theorem push {w0 w : World} (hg : o.guard = none) (s x : Operand) (ho : o.op = .call { callee := .builtin .append, args := #[s, x], argTypes := #[23, 23] })
    (v : Value) (l : List (Int × Int)) (hs : a.eval s = v) (hown : Own w0 w v l) (g : Nat) (p : Int × Int) (hx : a.eval x = .slice (some ⟨g, 0, none⟩) 1 1)
    (h1 : w.cell? ⟨g, 0, none⟩ = some (.int .i64 p.1)) (h2 : w.cell? ⟨g, 1, none⟩ = some (.int .i64 p.2)) (hlen : l.length ≤ 100000)
    (h : ∀ v' w', Own w0 w' v' (l ++ [p]) → (∀ b o', w0.heap.size ≤ b → b < w.heap.size → v.ownBlock ≠ some b → w'.cell? ⟨b, o', none⟩ = w.cell? ⟨b, o', none⟩) → w.heap.size ≤ w'.heap.size → wpList Tryz.prog ops Q rest (a.put o.dst v') w') :
    wpList Tryz.prog ops Q (o :: rest) a w := by
  obtain ⟨i0, hi0, hz0, hz1, hz2⟩ := info_parts pair_info
  refine wpList_append_own _ hg s x _ ho w0.heap.size 65 i0 _ 2 16 Tryz.underlying23 hi0 hz0 hz1 hz2 rfl (by omega) v l.length (cellsP l) hs hown.1 ⟨g, 0, none⟩ 1 1 (cellsP [p]) hx rfl ?_ (cellsP_oneCell _) ?_ ?_ hown.size ?_
  · intro j u hj
    match j, hj with
    | 0, hj => simp [cellsP] at hj; subst hj; exact h1
    | 1, hj => simp [cellsP] at hj; subst hj; exact h2
  · unfold maxLen; omega
  · omega
  · intro v' w' h3 h4 _
    refine h v' w' ⟨by simpa [cellsP_append] using h3, hown.2.grown h4 hown.size fun k hk => (hown.1.lt k hk).1⟩ (fun b o' _ hb hne => ?_) h4.size
    exact World.cell?_of_block (w := w) (h4.block b hb (fun e => hne e.symm))

/-- 'append(out, src...)': pairs that are read at their place, behind a row of the call's own. -/
theorem pushAll {w0 w : World} (hg : o.guard = none) (s x : Operand) (ho : o.op = .call { callee := .builtin .append, args := #[s, x], argTypes := #[23, 23] })
    (v : Value) (l : List (Int × Int)) (hs : a.eval s = v) (hown : Own w0 w v l) (A : Option Addr) (n c : Nat) (m : List (Int × Int)) (hx : a.eval x = .slice A n c) (hm : Lf w A n m) (hlen : l.length + m.length ≤ 100000)
    (hne : m = [] → A = none → c = 0)
    (h : ∀ v' w', Own w0 w' v' (l ++ m) → (∀ b o', w0.heap.size ≤ b → b < w.heap.size → v.ownBlock ≠ some b → w'.cell? ⟨b, o', none⟩ = w.cell? ⟨b, o', none⟩) → w.heap.size ≤ w'.heap.size → wpList Tryz.prog ops Q rest (a.put o.dst v') w') :
    wpList Tryz.prog ops Q (o :: rest) a w := by
  obtain ⟨i0, hi0, hz0, hz1, hz2⟩ := info_parts pair_info
  have hn := hm.1
  cases A with
  | none =>
    have e : m = [] := by
      rcases hm.2 with e | ⟨_, _, e, _⟩
      · exact e
      · cases e
    subst e
    obtain rfl : c = 0 := hne rfl rfl
    obtain rfl : n = 0 := by simpa using hn
    have hr := run_append_owned_none (P := Tryz.prog) w w0.heap.size 23 o.type 65 i0 2 Tryz.underlying23 hi0 v l.length (cellsP l) hown.1
    refine wpList_plain hg fun K hK => ?_
    unfold Oper.wp execOp
    simp only [ho, resolve, invoke, builtin, Sem.run_bind, Sem.run_pure, Result.andThen_ok, List.map_toArray, List.map_cons, List.map_nil, hs, hx, hr]
    exact hK _ _ (h v w (by simpa using hown) (fun _ _ _ _ _ => rfl) (Nat.le_refl _))
  | some ad =>
    refine wpList_append_own _ hg s x _ ho w0.heap.size 65 i0 _ 2 16 Tryz.underlying23 hi0 hz0 hz1 hz2 rfl (by omega) v l.length (cellsP l) hs hown.1 ad n c (cellsP m) hx (by rw [cellsP_length, hn]) ?_ (cellsP_oneCell _) ?_ ?_ hown.size ?_
    · intro j u hj
      rcases hm.2 with e | ⟨b, off, e, hc⟩
      · subst e; simp [cellsP] at hj
      · have e := Option.some.inj e
        subst e
        have := hc j u hj
        unfold Addr.add
        split
        · rename_i e0; subst e0; exact this
        · exact this
    · unfold maxLen; omega
    · omega
    · intro v' w' h3 h4 _
      refine h v' w' ⟨by simpa [cellsP_append, hn] using h3, hown.2.grown h4 hown.size fun k hk => (hown.1.lt k hk).1⟩ (fun b o' _ hb hne => ?_) h4.size
      exact World.cell?_of_block (w := w) (h4.block b hb (fun e => hne e.symm))
end
end Go.Proofs.YtcegianjpifnbaaGreat
namespace Go.Proofs.YtcegianjpifnbaaGreat
open Go.ChangeShapes Go.WideShapes Go.ChangeAt Go.RowKit
set_option linter.unusedVariables false

/-- A place and a count as a reference. -/
def mk (p c : Int) : Int := c % 8388608 * 1099511627776 + (p + 1) % 1099511627776
/-- A reference's place. -/
def pl (r : Int) : Int := r % 1099511627776 - 1
/-- A reference's count. -/
def ct (r : Int) : Int := r / 1099511627776 % 8388608

theorem low_mask (a : Int) (h0 : 0 ≤ a) (h1 : a < 18446744073709551616) : bits .and .u64 a 1099511627775 = a % 1099511627776 := by
  rw [u64_and a _ h0 h1 (by decide) (by decide)]
  have e : a.toNat &&& (1099511627775 : Int).toNat = a.toNat % 1099511627776 := Nat.and_two_pow_sub_one_eq_mod a.toNat 40
  rw [e]
  omega

theorem count_mask (a : Int) (h0 : 0 ≤ a) (h1 : a < 18446744073709551616) : bits .and .u64 a 8388607 = a % 8388608 := by
  rw [u64_and a _ h0 h1 (by decide) (by decide)]
  have e : a.toNat &&& (8388607 : Int).toNat = a.toNat % 8388608 := Nat.and_two_pow_sub_one_eq_mod a.toNat 23
  rw [e]
  omega

theorem count_mask32 (a : Int) (h0 : 0 ≤ a) (h1 : a < 4294967296) : bits .and .u32 a 8388607 = a % 8388608 := by
  rw [u32_and a _ h0 h1 (by decide) (by decide)]
  have e : a.toNat &&& (8388607 : Int).toNat = a.toNat % 8388608 := Nat.and_two_pow_sub_one_eq_mod a.toNat 23
  rw [e]
  omega

theorem both_join (h l : Int) (h0 : 0 ≤ h) (h1 : h < 8388608) (l0 : 0 ≤ l) (l1 : l < 1099511627776) : bits .or .u64 (h * 1099511627776) l = h * 1099511627776 + l := by
  rw [u64_or _ _ (by omega) (by omega) l0 (by omega)]
  have e : (h * 1099511627776).toNat ||| l.toNat = (h * 1099511627776).toNat + l.toNat := nat_join 40 _ _ (by omega) (by omega)
  rw [e]
  omega

theorem of_plain (p c : Int) (hc : 0 ≤ c ∧ c ≤ 4294967295) :
    wrap64 (bits BinOp.or IntKind.u64 (IntKind.u64.wrap (bits BinOp.and IntKind.u64 c 8388607 * 1099511627776))
      (bits BinOp.and IntKind.u64 (IntKind.u64.wrap (IntKind.u64.wrap p + 1)) 1099511627775)) = mk p c := by
  unfold mk
  simp only [IntKind.wrap_u64]
  rw [count_mask c (by omega) (by omega), low_mask _ (by omega) (by omega)]
  have e : c % 8388608 * 1099511627776 % 18446744073709551616 = c % 8388608 * 1099511627776 := by omega
  rw [e, both_join _ _ (by omega) (by omega) (by omega) (by omega), IntWalk.wrap64_in _ (by omega)]
  omega

theorem place_plain (r : Int) :
    wrap64 (wrap64 (bits BinOp.and IntKind.u64 (IntKind.u64.wrap r) 1099511627775) - 1) = pl r := by
  unfold pl
  simp only [IntKind.wrap_u64]
  rw [low_mask _ (by omega) (by omega)]
  rw [IntWalk.wrap64_in (r % 18446744073709551616 % 1099511627776) (by omega), IntWalk.wrap64_in _ (by omega)]
  omega

theorem count_plain (r : Int) :
    bits BinOp.and IntKind.u32 (IntKind.u64.wrap r / 1099511627776 % 4294967296) 8388607 = ct r := by
  unfold ct
  simp only [IntKind.wrap_u64]
  rw [count_mask32 _ (by omega) (by omega)]
  omega

theorem tmod_two (a m : Int) : (0 ≤ a ∧ a.tmod m = a % m) ∨ (a < 0 ∧ a.tmod m = -(-a % m)) := by
  by_cases h : 0 ≤ a
  · exact .inl ⟨h, Int.tmod_eq_emod_of_nonneg h⟩
  · refine .inr ⟨by omega, ?_⟩
    rw [← Int.tmod_eq_emod_of_nonneg (show 0 ≤ -a by omega), Int.neg_tmod, Int.neg_neg]

theorem tdiv_two (a m : Int) : (0 ≤ a ∧ a.tdiv m = a / m) ∨ (a < 0 ∧ a.tdiv m = -(-a / m)) := by
  by_cases h : 0 ≤ a
  · exact .inl ⟨h, Int.tdiv_eq_ediv_of_nonneg h⟩
  · refine .inr ⟨by omega, ?_⟩
    rw [← Int.tdiv_eq_ediv_of_nonneg (show 0 ≤ -a by omega), Int.neg_tdiv, Int.neg_neg]

theorem mk_range (p c : Int) : 0 ≤ mk p c ∧ mk p c ≤ 9223372036854775807 := by unfold mk; omega
theorem pl_mk (p c : Int) : pl (mk p c) = (p + 1) % 1099511627776 - 1 := by unfold pl mk; omega
theorem ct_mk (p c : Int) : ct (mk p c) = c % 8388608 := by unfold ct mk; omega
theorem of_walk (p c : Int) (hc : 0 ≤ c ∧ c ≤ 4294967295) (w : World) :
    Calls Tryz.prog 56 #[.int .i64 p, .int .u32 c] w fun e w' => e = .returned (.int .i64 (mk p c)) ∧ w = w' := by
  rw [← of_plain p c hc]
  go_enter Tryz.func56, Tryz.ntmps56
  go_wp2
  go_ret
  exact ⟨rfl, rfl⟩

theorem place_walk (r : Int) (w : World) :
    Calls Tryz.prog 57 #[.int .i64 r] w fun e w' => e = .returned (.int .i64 (pl r)) ∧ w = w' := by
  rw [← place_plain r]
  go_enter Tryz.func57, Tryz.ntmps57
  go_wp2
  go_ret
  exact ⟨rfl, rfl⟩

end Go.Proofs.YtcegianjpifnbaaGreat
namespace Go.Proofs.YtcegianjpifnbaaGreat
open Go.ChangeShapes Go.WideShapes Go.ChangeAt Go.RowKit
set_option linter.unusedVariables false
set_option maxRecDepth 20000

/-- Slices of numbers that lie one behind the other in block g. -/
abbrev Part := Option Addr × Nat × Nat × List Int
def Pts (w : World) (g : Nat) (ps : List Part) : Prop := ∀ j p, ps[j]? = some p → w.cell? ⟨g, j, none⟩ = some (.slice p.1 p.2.1 p.2.2.1) ∧ Sl w p.1 p.2.1 p.2.2.1 p.2.2.2
def catL (ps : List Part) : List Int := ps.flatMap (·.2.2.2)
theorem catL_snoc (ps : List Part) (k : Nat) (h : k < ps.length) : catL (ps.take (k + 1)) = catL (ps.take k) ++ ps[k].2.2.2 := by
  unfold catL; rw [take_snoc ps k h, List.flatMap_append]; simp
theorem catL_le (ps : List Part) (k : Nat) : (catL (ps.take k)).length ≤ (catL ps).length := by
  have : catL ps = catL (ps.take k) ++ catL (ps.drop k) := by unfold catL; rw [← List.flatMap_append, List.take_append_drop]
  rw [this, List.length_append]; omega

/-- What a call that makes one row gives: the row, and nothing that was there has changed. -/
def Made (el : TypeId) (w : World) (zs : List Int) (e : Ending) (w' : World) : Prop := ∃ v, e = .returned v ∧ Row el w.heap.size w' v zs ∧ Below w.heap.size w w'

theorem info_int : (Tryz.prog.underlying 3) = some (.int .i64) := Tryz.underlying3

set_option maxHeartbeats 1000000 in
theorem growK_walk (n : Nat) (w : World) (hn : n ≤ 100000) :
    Calls Tryz.prog 66 #[.slice none 0 0, .int .i64 (n : Int)] w (Made 2 w []) := by
  obtain ⟨i0, hi0, hz0, hz1, hz2⟩ := info_parts rowK.info
  by_cases h0 : n = 0
  · subst h0
    go_enter Tryz.func66, Tryz.ntmps66
    go_wp2
    go_ret
    exact ⟨_, rfl, Row.nil _ _ _, Below.refl _ _⟩
  · have hp : (0 : Int) < (n : Int) := by omega
    have hr : ∀ ty, (Builtin.append_ #[24, 3] ty #[.slice none 0 0, .int .i64 (n : Int)]).run Tryz.prog w =
        .ok (.slice (some ⟨w.heap.size, 0, none⟩) n (grownCap w n 0 2)) (w.drew.alloc (.cells (Builtin.zeroCells (Value.int .i64 0).cells n ++ Builtin.zeroCells (Value.int .i64 0).cells (grownCap w n 0 2 - n)) 2)) := fun ty =>
      Lib.run_append_nil_zeros w 24 3 ty 2 i0 _ .i64 .i64 rowK.under info_int hi0 hz0 n (by omega) (by omega) (by omega) (by rw [hz2]; omega)
    have hG1 := grownCap_ge w n 0 2
    have hG2 := grownCap_le_maxLen w n 0 2 (by unfold maxLen; omega)
    have hG3 : ((grownCap w n 0 2 : Nat) : Int) ≤ 9223372036854775807 := by unfold maxLen at hG2; omega
    generalize grownCap w n 0 2 = G at *
    have HR : Hid (Row 2 w.heap.size (w.drew.alloc (.cells (Builtin.zeroCells (Value.int .i64 0).cells n ++ Builtin.zeroCells (Value.int .i64 0).cells (G - n)) 2)) (.slice (some ⟨w.heap.size, 0, none⟩) 0 G) []) :=
      World.ownsRow_made w.drew _ G (Nat.le_refl _) hG2 (by rw [Array.size_append, size_zeroCells, size_zeroCells, show (Value.int .i64 0).cells.size = 1 from rfl]; omega)
    have HB : Hid (Below w.heap.size w (w.drew.alloc (.cells (Builtin.zeroCells (Value.int .i64 0).cells n ++ Builtin.zeroCells (Value.int .i64 0).cells (G - n)) 2))) := ((Below.refl _ w).drew).alloc (Nat.le_refl _) _
    clear hG2
    go_enter Tryz.func66, Tryz.ntmps66
    go_wp2_with (at_builtin; refine Lib.wpList_append_run _ rfl _ _ _ _ rfl _ _ rfl rfl _ _ (hr _) ?_)
    go_ret
    exact ⟨_, rfl, HR.out, HB.out⟩

set_option maxHeartbeats 1000000 in
theorem concatK_walk (g m c : Nat) (ps : List Part) (w : World) (h : Pts w g ps) (hm : ps.length = m) (hN : (catL ps).length ≤ 100000) (hm2 : m ≤ 1000) :
    Calls Tryz.prog 49 #[.slice (some ⟨g, 0, none⟩) m c] w (Made 2 w (catL ps)) := by
  have HM := Lib.hid hm
  clear hm
  go_enter Tryz.func49, Tryz.ntmps49
  go_wp2
  go_loop [3, 11] (fun s i => ∃ k : Nat, k ≤ m ∧ i = .int .i64 k ∧ s = .int .i64 ((catL (ps.take k)).length : Nat)) (fun _ i => m - (intOf i).toNat)
  case atStart => exact ⟨0, Nat.zero_le _, rfl, rfl⟩
  case round =>
    obtain ⟨k, hk, rfl, rfl⟩ := hrel
    by_cases hlt : k < m
    · have hkl : k < ps.length := by have := HM.out; omega
      obtain ⟨h1, h2⟩ := h k _ (List.getElem?_eq_getElem hkl)
      have HS : Hid ((catL (ps.take (k + 1))).length = (catL (ps.take k)).length + ps[k].2.1) := by show _ = _; rw [catL_snoc ps k hkl, List.length_append, h2.len]
      have hb1 := catL_le ps (k + 1)
      rw [HS.out] at hb1
      clear h2
      generalize ps[k] = p at *
      generalize (catL (ps.take k)).length = s at *
      obtain ⟨pA, pn, pc, pl⟩ := p
      simp only at h1 hb1 HS
      go_wp2
      go_round
      case rel => exact ⟨k + 1, by omega, by go_num, by rw [HS.out]; go_num⟩
      case measure => simp [intOf]; omega
    · have hall : ps.take k = ps := List.take_of_length_le (by have := HM.out; omega)
      rw [hall]
      clear hall
      generalize hN0 : (catL ps).length = N at *
      have HN0 := Lib.hid hN0
      clear hN0
      go_wp2_with fail
      refine (growK_walk N w hN).mono ?_
      rintro e w1 ⟨v, rfl, hrow, hb⟩
      go_wp2
      go_loopw [6, 27] (fun u i wr => ∃ (k : Nat), k ≤ m ∧ i = .int .i64 k ∧ Row 2 w.heap.size wr u (catL (ps.take k)) ∧ Below w.heap.size w wr) (fun _ i _ => m - (intOf i).toNat)
      case atStart => exact ⟨0, Nat.zero_le _, rfl, hrow, hb⟩
      case round =>
        clear hk hrow hb
        obtain ⟨k, hk, rfl, hrow, hb⟩ := hrel
        by_cases hlt : k < m
        · have hkl : k < ps.length := by have := HM.out; omega
          obtain ⟨h1, h2⟩ := h k _ (List.getElem?_eq_getElem hkl)
          have hg1 : g < w.heap.size := World.block_lt_of_cell? w _ h1
          have d1 := (hb.cell (p := ⟨g, k, none⟩) hg1).trans h1
          have HS : Hid (catL (ps.take (k + 1)) = catL (ps.take k) ++ ps[k].2.2.2) := catL_snoc ps k hkl
          have hb1 := catL_le ps (k + 1)
          rw [HS.out, List.length_append, HN0.out] at hb1
          have HL : Hid (Sl wr ps[k].1 ps[k].2.1 ps[k].2.2.1 ps[k].2.2.2) := h2.below hb
          clear h2 h1
          generalize ps[k] = p at *
          obtain ⟨pA, pn, pc, pl⟩ := p
          simp only at d1 hb1 HS HL
          generalize catL (ps.take k) = s at *
          go_wp2_with (at_builtin; refine pushN rowK (base := w.heap.size) rfl (.tmp 31) (.tmp 32) rfl _ s rfl hrow pA pn pc pl rfl HL.out (by omega) hb.size ?_; intro u2 w2 hrow2 hgr2)
          go_roundw
          case rel => exact ⟨k + 1, by omega, by go_num, by rw [HS.out]; exact hrow2, hb.grown hgr2 hb.size (fun k hk => (World.ownsRow.lt hrow k hk).1)⟩
          case measure => simp [intOf]; omega
        · have hall : ps.take k = ps := List.take_of_length_le (by have := HM.out; omega)
          rw [hall] at hrow
          go_wp2
          go_ret
          exact ⟨_, rfl, hrow, hb⟩

theorem concatK1 (g : Nat) (A : Option Addr) (n c : Nat) (zs : List Int) (w : World) (h1 : w.cell? ⟨g, 0, none⟩ = some (.slice A n c)) (s1 : Sl w A n c zs) (hn : zs.length ≤ 1000) :
    Calls Tryz.prog 49 #[.slice (some ⟨g, 0, none⟩) 1 1] w (Made 2 w zs) := by
  have h : Pts w g [(A, n, c, zs)] := by
    intro j p hj
    match j, hj with
    | 0, hj => simp at hj; subst hj; exact ⟨h1, s1⟩
  have := concatK_walk g 1 1 _ w h rfl (by simp [catL]; omega) (by omega)
  simpa [catL] using this
theorem concatK2 (g : Nat) (A B : Option Addr) (n c m d : Nat) (zs ys : List Int) (w : World) (h1 : w.cell? ⟨g, 0, none⟩ = some (.slice A n c)) (h2 : w.cell? ⟨g, 1, none⟩ = some (.slice B m d)) (s1 : Sl w A n c zs) (s2 : Sl w B m d ys) (hn : zs.length + ys.length ≤ 1000) :
    Calls Tryz.prog 49 #[.slice (some ⟨g, 0, none⟩) 2 2] w (Made 2 w (zs ++ ys)) := by
  have h : Pts w g [(A, n, c, zs), (B, m, d, ys)] := by
    intro j p hj
    match j, hj with
    | 0, hj => simp at hj; subst hj; exact ⟨h1, s1⟩
    | 1, hj => simp at hj; subst hj; exact ⟨h2, s2⟩
  have := concatK_walk g 2 2 _ w h rfl (by simp [catL]; omega) (by omega)
  simpa [catL] using this
theorem concatK3 (g : Nat) (A B C : Option Addr) (n c m d p q : Nat) (zs ys xs : List Int) (w : World) (h1 : w.cell? ⟨g, 0, none⟩ = some (.slice A n c)) (h2 : w.cell? ⟨g, 1, none⟩ = some (.slice B m d)) (h3 : w.cell? ⟨g, 2, none⟩ = some (.slice C p q)) (s1 : Sl w A n c zs) (s2 : Sl w B m d ys) (s3 : Sl w C p q xs) (hn : zs.length + ys.length + xs.length ≤ 1000) :
    Calls Tryz.prog 49 #[.slice (some ⟨g, 0, none⟩) 3 3] w (Made 2 w (zs ++ (ys ++ xs))) := by
  have h : Pts w g [(A, n, c, zs), (B, m, d, ys), (C, p, q, xs)] := by
    intro j p hj
    match j, hj with
    | 0, hj => simp at hj; subst hj; exact ⟨h1, s1⟩
    | 1, hj => simp at hj; subst hj; exact ⟨h2, s2⟩
    | 2, hj => simp at hj; subst hj; exact ⟨h3, s3⟩
  have := concatK_walk g 3 3 _ w h rfl (by simp [catL]; omega) (by omega)
  simpa [catL] using this

set_option maxHeartbeats 1000000 in
theorem growR_walk (n : Nat) (w : World) (hn : n ≤ 100000) :
    Calls Tryz.prog 68 #[.slice none 0 0, .int .i64 (n : Int)] w (Made 53 w []) := by
  obtain ⟨i0, hi0, hz0, hz1, hz2⟩ := info_parts rowR.info
  by_cases h0 : n = 0
  · subst h0
    go_enter Tryz.func68, Tryz.ntmps68
    go_wp2
    go_ret
    exact ⟨_, rfl, Row.nil _ _ _, Below.refl _ _⟩
  · have hp : (0 : Int) < (n : Int) := by omega
    have hr : ∀ ty, (Builtin.append_ #[25, 3] ty #[.slice none 0 0, .int .i64 (n : Int)]).run Tryz.prog w =
        .ok (.slice (some ⟨w.heap.size, 0, none⟩) n (grownCap w n 0 53)) (w.drew.alloc (.cells (Builtin.zeroCells (Value.int .i64 0).cells n ++ Builtin.zeroCells (Value.int .i64 0).cells (grownCap w n 0 53 - n)) 53)) := fun ty =>
      Lib.run_append_nil_zeros w 25 3 ty 53 i0 _ .i64 .i64 rowR.under info_int hi0 hz0 n (by omega) (by omega) (by omega) (by rw [hz2]; omega)
    have hG1 := grownCap_ge w n 0 53
    have hG2 := grownCap_le_maxLen w n 0 53 (by unfold maxLen; omega)
    have hG3 : ((grownCap w n 0 53 : Nat) : Int) ≤ 9223372036854775807 := by unfold maxLen at hG2; omega
    generalize grownCap w n 0 53 = G at *
    have HR : Hid (Row 53 w.heap.size (w.drew.alloc (.cells (Builtin.zeroCells (Value.int .i64 0).cells n ++ Builtin.zeroCells (Value.int .i64 0).cells (G - n)) 53)) (.slice (some ⟨w.heap.size, 0, none⟩) 0 G) []) :=
      World.ownsRow_made w.drew _ G (Nat.le_refl _) hG2 (by rw [Array.size_append, size_zeroCells, size_zeroCells, show (Value.int .i64 0).cells.size = 1 from rfl]; omega)
    have HB : Hid (Below w.heap.size w (w.drew.alloc (.cells (Builtin.zeroCells (Value.int .i64 0).cells n ++ Builtin.zeroCells (Value.int .i64 0).cells (G - n)) 53))) := ((Below.refl _ w).drew).alloc (Nat.le_refl _) _
    clear hG2
    go_enter Tryz.func68, Tryz.ntmps68
    go_wp2_with (at_builtin; refine Lib.wpList_append_run _ rfl _ _ _ _ rfl _ _ rfl rfl _ _ (hr _) ?_)
    go_ret
    exact ⟨_, rfl, HR.out, HB.out⟩

set_option maxHeartbeats 1000000 in
theorem concatR_walk (g m c : Nat) (ps : List Part) (w : World) (h : Pts w g ps) (hm : ps.length = m) (hN : (catL ps).length ≤ 100000) (hm2 : m ≤ 1000) :
    Calls Tryz.prog 55 #[.slice (some ⟨g, 0, none⟩) m c] w (Made 53 w (catL ps)) := by
  have HM := Lib.hid hm
  clear hm
  go_enter Tryz.func55, Tryz.ntmps55
  go_wp2
  go_loop [3, 11] (fun s i => ∃ k : Nat, k ≤ m ∧ i = .int .i64 k ∧ s = .int .i64 ((catL (ps.take k)).length : Nat)) (fun _ i => m - (intOf i).toNat)
  case atStart => exact ⟨0, Nat.zero_le _, rfl, rfl⟩
  case round =>
    obtain ⟨k, hk, rfl, rfl⟩ := hrel
    by_cases hlt : k < m
    · have hkl : k < ps.length := by have := HM.out; omega
      obtain ⟨h1, h2⟩ := h k _ (List.getElem?_eq_getElem hkl)
      have HS : Hid ((catL (ps.take (k + 1))).length = (catL (ps.take k)).length + ps[k].2.1) := by show _ = _; rw [catL_snoc ps k hkl, List.length_append, h2.len]
      have hb1 := catL_le ps (k + 1)
      rw [HS.out] at hb1
      clear h2
      generalize ps[k] = p at *
      generalize (catL (ps.take k)).length = s at *
      obtain ⟨pA, pn, pc, pl⟩ := p
      simp only at h1 hb1 HS
      go_wp2
      go_round
      case rel => exact ⟨k + 1, by omega, by go_num, by rw [HS.out]; go_num⟩
      case measure => simp [intOf]; omega
    · have hall : ps.take k = ps := List.take_of_length_le (by have := HM.out; omega)
      rw [hall]
      clear hall
      generalize hN0 : (catL ps).length = N at *
      have HN0 := Lib.hid hN0
      clear hN0
      go_wp2_with fail
      refine (growR_walk N w hN).mono ?_
      rintro e w1 ⟨v, rfl, hrow, hb⟩
      go_wp2
      go_loopw [6, 27] (fun u i wr => ∃ (k : Nat), k ≤ m ∧ i = .int .i64 k ∧ Row 53 w.heap.size wr u (catL (ps.take k)) ∧ Below w.heap.size w wr) (fun _ i _ => m - (intOf i).toNat)
      case atStart => exact ⟨0, Nat.zero_le _, rfl, hrow, hb⟩
      case round =>
        clear hk hrow hb
        obtain ⟨k, hk, rfl, hrow, hb⟩ := hrel
        by_cases hlt : k < m
        · have hkl : k < ps.length := by have := HM.out; omega
          obtain ⟨h1, h2⟩ := h k _ (List.getElem?_eq_getElem hkl)
          have hg1 : g < w.heap.size := World.block_lt_of_cell? w _ h1
          have d1 := (hb.cell (p := ⟨g, k, none⟩) hg1).trans h1
          have HS : Hid (catL (ps.take (k + 1)) = catL (ps.take k) ++ ps[k].2.2.2) := catL_snoc ps k hkl
          have hb1 := catL_le ps (k + 1)
          rw [HS.out, List.length_append, HN0.out] at hb1
          have HL : Hid (Sl wr ps[k].1 ps[k].2.1 ps[k].2.2.1 ps[k].2.2.2) := h2.below hb
          clear h2 h1
          generalize ps[k] = p at *
          obtain ⟨pA, pn, pc, pl⟩ := p
          simp only at d1 hb1 HS HL
          generalize catL (ps.take k) = s at *
          go_wp2_with (at_builtin; refine pushN rowR (base := w.heap.size) rfl (.tmp 31) (.tmp 32) rfl _ s rfl hrow pA pn pc pl rfl HL.out (by omega) hb.size ?_; intro u2 w2 hrow2 hgr2)
          go_roundw
          case rel => exact ⟨k + 1, by omega, by go_num, by rw [HS.out]; exact hrow2, hb.grown hgr2 hb.size (fun k hk => (World.ownsRow.lt hrow k hk).1)⟩
          case measure => simp [intOf]; omega
        · have hall : ps.take k = ps := List.take_of_length_le (by have := HM.out; omega)
          rw [hall] at hrow
          go_wp2
          go_ret
          exact ⟨_, rfl, hrow, hb⟩

theorem concatR1 (g : Nat) (A : Option Addr) (n c : Nat) (zs : List Int) (w : World) (h1 : w.cell? ⟨g, 0, none⟩ = some (.slice A n c)) (s1 : Sl w A n c zs) (hn : zs.length ≤ 1000) :
    Calls Tryz.prog 55 #[.slice (some ⟨g, 0, none⟩) 1 1] w (Made 53 w zs) := by
  have h : Pts w g [(A, n, c, zs)] := by
    intro j p hj
    match j, hj with
    | 0, hj => simp at hj; subst hj; exact ⟨h1, s1⟩
  have := concatR_walk g 1 1 _ w h rfl (by simp [catL]; omega) (by omega)
  simpa [catL] using this
theorem concatR2 (g : Nat) (A B : Option Addr) (n c m d : Nat) (zs ys : List Int) (w : World) (h1 : w.cell? ⟨g, 0, none⟩ = some (.slice A n c)) (h2 : w.cell? ⟨g, 1, none⟩ = some (.slice B m d)) (s1 : Sl w A n c zs) (s2 : Sl w B m d ys) (hn : zs.length + ys.length ≤ 1000) :
    Calls Tryz.prog 55 #[.slice (some ⟨g, 0, none⟩) 2 2] w (Made 53 w (zs ++ ys)) := by
  have h : Pts w g [(A, n, c, zs), (B, m, d, ys)] := by
    intro j p hj
    match j, hj with
    | 0, hj => simp at hj; subst hj; exact ⟨h1, s1⟩
    | 1, hj => simp at hj; subst hj; exact ⟨h2, s2⟩
  have := concatR_walk g 2 2 _ w h rfl (by simp [catL]; omega) (by omega)
  simpa [catL] using this
theorem concatR3 (g : Nat) (A B C : Option Addr) (n c m d p q : Nat) (zs ys xs : List Int) (w : World) (h1 : w.cell? ⟨g, 0, none⟩ = some (.slice A n c)) (h2 : w.cell? ⟨g, 1, none⟩ = some (.slice B m d)) (h3 : w.cell? ⟨g, 2, none⟩ = some (.slice C p q)) (s1 : Sl w A n c zs) (s2 : Sl w B m d ys) (s3 : Sl w C p q xs) (hn : zs.length + ys.length + xs.length ≤ 1000) :
    Calls Tryz.prog 55 #[.slice (some ⟨g, 0, none⟩) 3 3] w (Made 53 w (zs ++ (ys ++ xs))) := by
  have h : Pts w g [(A, n, c, zs), (B, m, d, ys), (C, p, q, xs)] := by
    intro j p hj
    match j, hj with
    | 0, hj => simp at hj; subst hj; exact ⟨h1, s1⟩
    | 1, hj => simp at hj; subst hj; exact ⟨h2, s2⟩
    | 2, hj => simp at hj; subst hj; exact ⟨h3, s3⟩
  have := concatR_walk g 3 3 _ w h rfl (by simp [catL]; omega) (by omega)
  simpa [catL] using this

/-- A row of pairs that lies at block base or above, and reads as l. -/
def Prs (base : Nat) (w : World) (v : Value) (l : List (Int × Int)) : Prop := w.ownsRow base 65 2 v l.length (cellsP l)
/-- A slice of n pairs at A, with room for c. -/
structure Lp (w : World) (A : Option Addr) (n c : Nat) (l : List (Int × Int)) : Prop where
  lf : Lf w A n l
  cap : n ≤ c
  none_ : A = none → c = 0
theorem Lp.nil (w : World) : Lp w none 0 0 [] := ⟨Lf.nil _ _, Nat.le_refl _, fun _ => rfl⟩
theorem Lp.below {w w' : World} {A : Option Addr} {n c : Nat} {l : List (Int × Int)} (h : Lp w A n c l) (hb : Below w.heap.size w w') : Lp w' A n c l := ⟨h.lf.below hb, h.cap, h.none_⟩
theorem Lp.keep {w w' : World} {A : Option Addr} {n c : Nat} {l : List (Int × Int)} (h : Lp w A n c l) (hk : ∀ p : Addr, p.block < w.heap.size → w'.cell? p = w.cell? p) : Lp w' A n c l := ⟨h.lf.keep hk, h.cap, h.none_⟩
theorem Lp.len {w : World} {A : Option Addr} {n c : Nat} {l : List (Int × Int)} (h : Lp w A n c l) : n = l.length := h.lf.len
theorem Prs.nil (base : Nat) (w : World) : Prs base w (.slice none 0 0) [] := World.ownsRow_nil _ _ _ _
theorem Prs.form {base : Nat} {w : World} {v : Value} {l : List (Int × Int)} (h : Prs base w v l) : ∃ A c, v = .slice A l.length c ∧ Lp w A l.length c l := by
  have hl : w.ownsRow base 65 2 v l.length (cellsP l) := h
  rcases h.2 with ⟨rfl, h0⟩ | ⟨g, cap, cur, rfl, _, _, h1, h2, _⟩
  · have e : l = [] := List.eq_nil_of_length_eq_zero h0
    subst e
    exact ⟨none, 0, rfl, Lp.nil _⟩
  · exact ⟨_, cap, rfl, Lf.of_own hl, h1, fun e => by cases e⟩
theorem Prs.shape {base : Nat} {w : World} {v : Value} {l : List (Int × Int)} (h : Prs base w v l) : ∃ A n c, v = .slice A n c := by
  obtain ⟨A, c, e, _⟩ := h.form
  exact ⟨A, _, c, e⟩
theorem Prs.lp {base : Nat} {w : World} {A : Option Addr} {n c : Nat} {l : List (Int × Int)} (h : Prs base w (.slice A n c) l) : Lp w A n c l := by
  obtain ⟨_, _, e, s⟩ := h.form
  injection e with e1 e2 e3
  subst e1 e2 e3
  exact s
theorem Prs.lower {base base' : Nat} {w : World} {v : Value} {l : List (Int × Int)} (h : Prs base w v l) (hb : base' ≤ base) : Prs base' w v l := by
  obtain ⟨h1, h2⟩ := h
  refine ⟨h1, ?_⟩
  rcases h2 with h2 | ⟨g, cap, cur, e, hg, r⟩
  · exact .inl h2
  · exact .inr ⟨g, cap, cur, e, Nat.le_trans hb hg, r⟩
theorem Prs.grown {base : Nat} {w w' : World} {v : Value} {l : List (Int × Int)} (h : Prs base w v l) {row : Option Nat} (hg : w.grownBy w' row) (hne : v.ownBlock = none ∨ v.ownBlock ≠ row) : Prs base w' v l := World.ownsRow.kept h hg hne
theorem Prs.next {base : Nat} {w w' : World} {v : Value} {l : List (Int × Int)} (h : Prs base w v l) (hb : Below w.heap.size w w') : Prs base w' v l := by
  refine World.ownsRow.kept (row := none) h ⟨hb.os, hb.tape, hb.output, hb.size, fun k hk _ => hb.block k hk⟩ ?_
  cases v.ownBlock with
  | none => exact .inl rfl
  | some _ => exact .inr (by simp)

/-- The run of 'append(out, src...)' over pairs. -/
theorem run_pushP {base : Nat} {w : World} (ty : TypeId) (v : Value) (l : List (Int × Int)) (hown : Prs base w v l) (A : Option Addr) (n c : Nat) (ms : List (Int × Int)) (hm : Lp w A n c ms) (hlen : l.length + ms.length ≤ 100000) (hb : base ≤ w.heap.size) :
    ∃ v' w', (Builtin.append_ #[23, 23] ty #[v, .slice A n c]).run Tryz.prog w = .ok v' w' ∧ Prs base w' v' (l ++ ms) ∧ w.grownBy w' v.ownBlock := by
  obtain ⟨i0, hi0, hz0, hz1, hz2⟩ := info_parts pair_info
  have hn := hm.len
  cases A with
  | none =>
    have e : ms = [] := by
      rcases hm.lf.2 with e | ⟨_, _, e, _⟩
      · exact e
      · cases e
    subst e
    obtain rfl : c = 0 := hm.none_ rfl
    obtain rfl : n = 0 := by simpa using hn
    exact ⟨v, w, run_append_owned_none (P := Tryz.prog) w base 23 ty 65 i0 2 Tryz.underlying23 hi0 v l.length (cellsP l) hown, by simpa using hown, World.grownBy.refl _ _⟩
  | some ad =>
    obtain ⟨v', w', h1, h2, h3, _⟩ := run_append_own (P := Tryz.prog) w base 23 ty 65 i0 _ 2 16 Tryz.underlying23 hi0 hz0 hz1 hz2 rfl (by omega) v l.length (cellsP l) hown ad n c (cellsP ms) (by rw [cellsP_length, hn])
      (by
        intro j u hj
        rcases hm.lf.2 with e | ⟨b, off, e, hc⟩
        · subst e; simp [cellsP] at hj
        · have e := Option.some.inj e
          subst e
          have := hc j u hj
          unfold Addr.add
          split
          · rename_i e0; subst e0; exact this
          · exact this) (cellsP_oneCell _) (by unfold maxLen; omega) (by omega) hb
    refine ⟨v', w', h1, ?_, h3⟩
    unfold Prs
    rw [List.length_append, ← hn, cellsP_append]
    exact h2
section
variable {ops : Array Oper} {rest : List Oper} {o : Oper} {a : Act} {Q : Exit → Act → World → Prop} {base : Nat} {w : World}
theorem pushP (hg : o.guard = none) (s x : Operand) (ho : o.op = .call { callee := .builtin .append, args := #[s, x], argTypes := #[23, 23] })
    (v : Value) (zs : List (Int × Int)) (hs : a.eval s = v) (hown : Prs base w v zs) (A : Option Addr) (n c : Nat) (ms : List (Int × Int)) (hx : a.eval x = .slice A n c) (hm : Lp w A n c ms) (hlen : zs.length + ms.length ≤ 100000) (hb : base ≤ w.heap.size)
    (h : ∀ v' w', Prs base w' v' (zs ++ ms) → w.grownBy w' v.ownBlock → wpList Tryz.prog ops Q rest (a.put o.dst v') w') :
    wpList Tryz.prog ops Q (o :: rest) a w := by
  obtain ⟨v', w', hr, h1, h2⟩ := run_pushP o.type v zs hown A n c ms hm hlen hb
  exact Lib.wpList_append_run (P := Tryz.prog) w hg s x 23 23 ho v _ hs hx v' w' hr (h v' w' h1 h2)
end

def MadeP (w : World) (l : List (Int × Int)) (e : Ending) (w' : World) : Prop := ∃ v, e = .returned v ∧ Prs w.heap.size w' v l ∧ Below w.heap.size w w'

set_option maxHeartbeats 1000000 in
theorem growP_walk (n : Nat) (w : World) (hn : n ≤ 100000) :
    Calls Tryz.prog 76 #[.slice none 0 0, .int .i64 (n : Int)] w (MadeP w []) := by
  obtain ⟨i0, hi0, hz0, hz1, hz2⟩ := info_parts pair_info
  by_cases h0 : n = 0
  · subst h0
    go_enter Tryz.func76, Tryz.ntmps76
    go_wp2
    go_ret
    exact ⟨_, rfl, Prs.nil _ _, Below.refl _ _⟩
  · have hp : (0 : Int) < (n : Int) := by omega
    have hr : ∀ ty, (Builtin.append_ #[23, 3] ty #[.slice none 0 0, .int .i64 (n : Int)]).run Tryz.prog w =
        .ok (.slice (some ⟨w.heap.size, 0, none⟩) n (grownCap w n 0 65)) (w.drew.alloc (.cells (Builtin.zeroCells (Value.agg #[.int .i64 0, .int .i64 0]).cells n ++ Builtin.zeroCells (Value.agg #[.int .i64 0, .int .i64 0]).cells (grownCap w n 0 65 - n)) 65)) := fun ty =>
      Lib.run_append_nil_zeros w 23 3 ty 65 i0 _ .i64 .i64 Tryz.underlying23 info_int hi0 hz0 n (by omega) (by omega) (by omega) (by rw [hz2]; omega)
    have hG1 := grownCap_ge w n 0 65
    have hG2 := grownCap_le_maxLen w n 0 65 (by unfold maxLen; omega)
    have hG3 : ((grownCap w n 0 65 : Nat) : Int) ≤ 9223372036854775807 := by unfold maxLen at hG2; omega
    generalize grownCap w n 0 65 = G at *
    have HR : Hid (Prs w.heap.size (w.drew.alloc (.cells (Builtin.zeroCells (Value.agg #[.int .i64 0, .int .i64 0]).cells n ++ Builtin.zeroCells (Value.agg #[.int .i64 0, .int .i64 0]).cells (G - n)) 65)) (.slice (some ⟨w.heap.size, 0, none⟩) 0 G) []) :=
      World.ownsRow_made w.drew _ G (Nat.le_refl _) hG2 (by rw [Array.size_append, size_zeroCells, size_zeroCells, show (Value.agg #[.int .i64 0, .int .i64 0]).cells.size = 2 from rfl]; omega)
    have HB : Hid (Below w.heap.size w (w.drew.alloc (.cells (Builtin.zeroCells (Value.agg #[.int .i64 0, .int .i64 0]).cells n ++ Builtin.zeroCells (Value.agg #[.int .i64 0, .int .i64 0]).cells (G - n)) 65))) := ((Below.refl _ w).drew).alloc (Nat.le_refl _) _
    clear hG2
    go_enter Tryz.func76, Tryz.ntmps76
    go_wp2_with (at_builtin; refine Lib.wpList_append_run _ rfl _ _ _ _ rfl _ _ rfl rfl _ _ (hr _) ?_)
    go_ret
    exact ⟨_, rfl, HR.out, HB.out⟩

set_option maxHeartbeats 1000000 in
theorem concatP1 (g : Nat) (A : Option Addr) (n c : Nat) (l : List (Int × Int)) (w : World) (h1 : w.cell? ⟨g, 0, none⟩ = some (.slice A n c)) (s1 : Lp w A n c l) (hn : l.length ≤ 1000) :
    Calls Tryz.prog 67 #[.slice (some ⟨g, 0, none⟩) 1 1] w (MadeP w l) := by
  have hln := Lib.hid s1.len
  have hn1 : n ≤ 1000 := by have := s1.len; omega
  go_enter Tryz.func67, Tryz.ntmps67
  go_wp2
  go_loop [3, 11] (fun s i => ∃ k : Nat, k ≤ 1 ∧ i = .int .i64 k ∧ s = .int .i64 (k * n : Nat)) (fun _ i => 1 - (intOf i).toNat)
  case atStart => exact ⟨0, Nat.zero_le _, rfl, by simp⟩
  case round =>
    obtain ⟨k, hk, rfl, rfl⟩ := hrel
    by_cases hlt : k < 1
    · obtain rfl : k = 0 := by omega
      rw [Nat.zero_mul]
      go_wp2
      go_round
      case rel => exact ⟨1, by omega, by go_num, by go_num⟩
      case measure => simp [intOf]
    · obtain rfl : k = 1 := by omega
      rw [Nat.one_mul]
      go_wp2_with fail
      refine (growP_walk n w (by omega)).mono ?_
      rintro e w1 ⟨v, rfl, hrow, hb⟩
      go_wp2
      go_loopw [6, 27] (fun u i wr => ∃ (k : Nat), k ≤ 1 ∧ i = .int .i64 k ∧ Prs w.heap.size wr u (if k = 0 then [] else l) ∧ Below w.heap.size w wr) (fun _ i _ => 1 - (intOf i).toNat)
      case atStart => exact ⟨0, Nat.zero_le _, rfl, hrow, hb⟩
      case round =>
        clear hk hrow hb
        obtain ⟨k, hk, rfl, hrow, hb⟩ := hrel
        by_cases hlt : k < 1
        · obtain rfl : k = 0 := by omega
          have hg1 : g < w.heap.size := World.block_lt_of_cell? w _ h1
          have d1 := (hb.cell (p := ⟨g, 0, none⟩) hg1).trans h1
          have HL : Hid (Lp wr A n c l) := s1.keep fun p hp => hb.cell hp
          rw [if_pos rfl] at hrow
          go_wp2_with (at_builtin; refine pushP (base := w.heap.size) rfl (.tmp 31) (.tmp 32) rfl _ [] rfl hrow A n c l rfl HL.out (by simp; omega) hb.size ?_; intro u2 w2 hrow2 hgr2)
          go_roundw
          case rel => exact ⟨1, by omega, by go_num, by simpa using hrow2, hb.grown hgr2 hb.size (fun k hk => (World.ownsRow.lt hrow k hk).1)⟩
          case measure => simp [intOf]
        · obtain rfl : k = 1 := by omega
          rw [if_neg (by omega)] at hrow
          go_wp2
          go_ret
          exact ⟨_, rfl, hrow, hb⟩
end Go.Proofs.YtcegianjpifnbaaGreat
namespace Go.Proofs.YtcegianjpifnbaaGreat
open Go.ChangeShapes Go.WideShapes Go.ChangeAt Go.RowKit
set_option linter.unusedVariables false
set_option linter.unusedSimpArgs false
set_option maxRecDepth 20000

/-- An Inner as a value. -/
abbrev inn (A : Option Addr) (n c : Nat) (B : Option Addr) (m d : Nat) : Value := .agg #[.slice A n c, .slice B m d]

/-- What a call that makes an Inner gives: its keys' row and its ways' row, and nothing that was there has changed. -/
def MadeI (w : World) (ks ws : List Int) (e : Ending) (w' : World) : Prop :=
  ∃ u v, e = .returned (.agg #[u, v]) ∧ Row 2 w.heap.size w' u ks ∧ Row 53 w.heap.size w' v ws ∧ Below w.heap.size w w'

/-- A result that lies in a variable of two cells. -/
theorem load_inn {w : World} {R : Nat} {x y : Value} (e0 : w.cell? ⟨R, 0, none⟩ = some x) (e1 : w.cell? ⟨R, 1, none⟩ = some y) :
    (loadVar 27 ⟨R, 0, none⟩).run Tryz.prog w = .ok (.agg #[x, y]) w := by
  simp [go_sem, e0, e1]
theorem results_inn {fn : Func} {t : Tmp} {R : Nat} {x y : Value} {tmps : Array Value} {w : World} (h : fn.results = #[.cell t 27]) (ht : tmps.getD t undef = .pointer (some ⟨R, 0, none⟩))
    (e0 : w.cell? ⟨R, 0, none⟩ = some x) (e1 : w.cell? ⟨R, 1, none⟩ = some y) : (results fn tmps).run Tryz.prog w = .ok (.agg #[x, y]) w := by
  have := load_inn e0 e1
  have ht' : tmps[t]?.getD undef = .pointer (some ⟨R, 0, none⟩) := by simpa using ht
  simp [results, h, ht', asAddr, this]

/-- .. behind a store into it. -/
theorem results_stored {fn : Func} {t : Tmp} {R : Nat} {x y a b : Value} {tmps : Array Value} {w : World} (h : fn.results = #[.cell t 27]) (ht : tmps.getD t undef = .pointer (some ⟨R, 0, none⟩))
    (e0 : w.cell? ⟨R, 0, none⟩ = some a) (e1 : w.cell? ⟨R, 1, none⟩ = some b) : (results fn tmps).run Tryz.prog ((w.setCell ⟨R, 0, none⟩ x).setCell ⟨R, 1, none⟩ y) = .ok (.agg #[x, y]) ((w.setCell ⟨R, 0, none⟩ x).setCell ⟨R, 1, none⟩ y) :=
  results_inn h ht ((World.cell?_setCell_other _ _ _ _ (by simp)).trans (World.cell?_setCell_same _ _ _ e0)) (World.cell?_setCell_same _ _ _ ((World.cell?_setCell_other _ _ _ _ (by simp)).trans e1))

/-- What a box of one Inner at block b and a result's variable at block R read as. -/
def Box (w : World) (b : Nat) (x y : Value) : Prop := w.cell? ⟨b, 0, none⟩ = some x ∧ w.cell? ⟨b, 1, none⟩ = some y
def Var (w : World) (b : Nat) : Prop := w.cell? ⟨b, 0, none⟩ = some (.slice none 0 0) ∧ w.cell? ⟨b, 1, none⟩ = some (.slice none 0 0) ∧ w.frozen? ⟨b, 0, none⟩ = false ∧ w.frozen? ⟨b, 1, none⟩ = false
theorem Box.below {W w' : World} {b : Nat} {x y : Value} (h : Box W b x y) (hb : Below W.heap.size W w') : Box w' b x y := by
  have hl := World.block_lt_of_cell? W _ h.1
  exact ⟨(hb.cell (p := ⟨b, 0, none⟩) hl).trans h.1, (hb.cell (p := ⟨b, 1, none⟩) hl).trans h.2⟩
theorem Var.below {W w' : World} {b : Nat} (h : Var W b) (hb : Below W.heap.size W w') : Var w' b := by
  have hl := World.block_lt_of_cell? W _ h.1
  exact ⟨(hb.cell (p := ⟨b, 0, none⟩) hl).trans h.1, (hb.cell (p := ⟨b, 1, none⟩) hl).trans h.2.1, (hb.frozen (p := ⟨b, 0, none⟩) hl).trans h.2.2.1, (hb.frozen (p := ⟨b, 1, none⟩) hl).trans h.2.2.2⟩

theorem Box.new (w : World) {b : Nat} (h : w.heap.size = b) (x y : Value) (t : TypeId) : Box (w.alloc (.cells #[x, y] t)) b x y := by subst h; exact ⟨by simp, by simp⟩
theorem Var.new (w : World) {b : Nat} (h : w.heap.size = b) (t : TypeId) : Var (w.alloc (.cells #[.slice none 0 0, .slice none 0 0] t)) b := by subst h; exact ⟨by simp, by simp, by simp, by simp⟩
/-- .. for one receiver. -/
theorem boxed1v (w : World) (x y : Value) : ∃ (W : World) (R : Nat), (w.alloc (.cells #[x, y] 27)).alloc (.cells #[.slice none 0 0, .slice none 0 0] 27) = W ∧ w.heap.size + 1 = R ∧ Below w.heap.size w W ∧ R < W.heap.size ∧
    Box W w.heap.size x y ∧ Var W R ∧ w.heap.size < R ∧ w.heap.size ≠ R ∧ R ≠ w.heap.size :=
  ⟨_, _, rfl, rfl, ((Below.refl _ w).alloc (Nat.le_refl _) _).alloc (by simp) _, by simp, (Box.new w rfl x y _).below (below_new _ _), Var.new _ (by simp) _, by omega, by omega, by omega⟩

theorem madeI_end1 {w W W3 : World} {u v : Value} {ks ws : List Int} {R : Nat} (h1 : Row 2 W.heap.size W3 u ks) (h2 : Row 53 W.heap.size W3 v ws) (hb1 : Below w.heap.size w W) (hR : R < W.heap.size) (hR0 : w.heap.size ≤ R) (hb : Below w.heap.size w W3) :
    MadeI w ks ws (.returned (.agg #[u, v])) ((W3.setCell ⟨R, 0, none⟩ u).setCell ⟨R, 1, none⟩ v) :=
  ⟨u, v, rfl, ((h1.set_below hR _).set_below hR _).lower hb1.size, ((h2.set_below hR _).set_below hR _).lower hb1.size,
    (hb.setCell (p := ⟨R, 0, none⟩) hR0 u).setCell (p := ⟨R, 1, none⟩) hR0 v⟩
end Go.Proofs.YtcegianjpifnbaaGreat
namespace Go.Proofs.YtcegianjpifnbaaGreat
open Go.RowKit
set_option linter.unusedVariables false
set_option maxRecDepth 20000

section
variable {F G : Nat → Prop} {w w' w2 : World}
end

section
variable {w w' : World} {base : Nat} {e : TypeId} {size : Nat} {v : Value} {n : Nat} {xs : List Value}
end

/-- A node as plain data. -/
structure Nd where
  inn : Bool
  tag : Bool
  ps : List (Int × Int)
  ks : List Int
  zs : List Int
def Nd.nil : Nd := ⟨false, false, [], [], []⟩
def Nd.small (d : Nd) : Prop := d.ps.length ≤ 100 ∧ d.ks.length ≤ 100 ∧ d.zs.length ≤ 100
/-- A place as plain data. -/
structure Pa where
  used : Bool
  cnt : Nat
  nd : Nd
  ws : List Int
  info : Int
  mark : Bool
/-- The slices that a place holds. -/
structure Vs where
  pv : Value
  kv : Value
  zv : Value
  wv : Value
def Vs.nil : Vs := ⟨.slice none 0 0, .slice none 0 0, .slice none 0 0, .slice none 0 0⟩
def Vs.at (v : Vs) (b : Nat) : Prop := v.pv.ownBlock = some b ∨ v.kv.ownBlock = some b ∨ v.zv.ownBlock = some b ∨ v.wv.ownBlock = some b

/-- A place's cells: the program's (false), the document's (true). -/
def cellsOf : Bool → Pa × Vs → List Value
  | false, (p, v) => [.bool p.used, .int .u32 p.cnt, .bool p.nd.inn, .bool p.nd.tag, v.pv, v.kv, v.zv, v.wv, .int .i64 p.info, .bool p.mark]
  | true, (p, v) => [.int .i64 p.cnt, .bool p.used, .bool p.nd.inn, .bool p.nd.tag, v.pv, v.kv, v.zv, v.wv, .int .i64 p.info, .bool p.mark]
theorem cellsOf_length (d : Bool) (x : Pa × Vs) : (cellsOf d x).length = 10 := by cases d <;> rfl
def rowOf (d : Bool) : List (Pa × Vs) → List Value
  | [] => []
  | x :: l => cellsOf d x ++ rowOf d l
theorem rowOf_length (d : Bool) (l : List (Pa × Vs)) : (rowOf d l).length = l.length * 10 := by
  induction l with
  | nil => rfl
  | cons x l ih => simp [rowOf, cellsOf_length, ih]; omega
theorem rowOf_append (d : Bool) (a b : List (Pa × Vs)) : rowOf d (a ++ b) = rowOf d a ++ rowOf d b := by
  induction a with
  | nil => rfl
  | cons x l ih => simp [rowOf, ih]
theorem rowOf_at (d : Bool) {l : List (Pa × Vs)} {i : Nat} {x : Pa × Vs} (h : l[i]? = some x) {j : Nat} (hj : j < 10) : (rowOf d l)[i * 10 + j]? = (cellsOf d x)[j]? := by
  induction l generalizing i with
  | nil => simp at h
  | cons q l ih =>
    cases i with
    | zero => simp at h; subst h; rw [rowOf, Nat.zero_mul, Nat.zero_add, List.getElem?_append_left (by rw [cellsOf_length]; exact hj)]
    | succ i =>
      rw [rowOf, List.getElem?_append_right (by rw [cellsOf_length]; omega), cellsOf_length]
      simp at h
      rw [← ih h]
      congr 1; omega
/-- The row with one cell written. -/
theorem rowOf_set1 (d : Bool) {l : List (Pa × Vs)} {i : Nat} {x y : Pa × Vs} (h : l[i]? = some x) {j : Nat} (hj : j < 10) (u : Value) (hy : cellsOf d y = (cellsOf d x).set j u) : (rowOf d l).set (i * 10 + j) u = rowOf d (l.set i y) := by
  induction l generalizing i with
  | nil => simp at h
  | cons q l ih =>
    cases i with
    | zero => simp at h; subst h; rw [rowOf, Nat.zero_mul, Nat.zero_add, List.set_append_left _ _ (by rw [cellsOf_length]; exact hj), List.set_cons_zero, rowOf, hy]
    | succ i =>
      rw [rowOf, List.set_append_right _ _ (by rw [cellsOf_length]; omega), cellsOf_length, List.set_cons_succ, rowOf]
      simp at h
      rw [← ih h]
      congr 2; omega
theorem rowOf_one (d : Bool) (l : List (Pa × Vs)) (hl : ∀ x ∈ l, ∀ u ∈ cellsOf d x, u.oneCell' = true) : ∀ u ∈ rowOf d l, u.oneCell' = true := by
  induction l with
  | nil => simp [rowOf]
  | cons x l ih =>
    intro u hu
    simp only [rowOf, List.mem_append] at hu
    rcases hu with hu | hu
    · exact hl x (List.mem_cons_self ..) u hu
    · exact ih (fun y hy => hl y (List.mem_cons_of_mem _ hy)) u hu

/-- The memory of a place: rows of its own. -/
structure PaM (w : World) (F : Nat → Prop) (x : Pa × Vs) : Prop where
  ps : Prs 0 w x.2.pv x.1.nd.ps
  ks : Row 2 0 w x.2.kv x.1.nd.ks
  zs : Row 53 0 w x.2.zv x.1.nd.zs
  ws : Row 53 0 w x.2.wv x.1.ws
  own : ∀ b, x.2.at b → F b
  small : x.1.nd.small
  few : x.1.ws.length ≤ 100
theorem PaM.keep {w w' : World} {F : Nat → Prop} {x : Pa × Vs} (h : PaM w F x) (hb : ∀ b, x.2.at b → w'.heap[b]? = w.heap[b]?) : PaM w' F x :=
  ⟨own_at h.ps fun b e => hb b (.inl e), own_at h.ks fun b e => hb b (.inr (.inl e)), own_at h.zs fun b e => hb b (.inr (.inr (.inl e))), own_at h.ws fun b e => hb b (.inr (.inr (.inr e))), h.own, h.small, h.few⟩
theorem PaM.mono {w : World} {F G : Nat → Prop} {x : Pa × Vs} (h : PaM w F x) (hs : ∀ b, F b → G b) : PaM w G x := ⟨h.ps, h.ks, h.zs, h.ws, fun b e => hs b (h.own b e), h.small, h.few⟩
/-- Blocks of other kinds aren't its. -/
theorem PaM.not {w : World} {F : Nat → Prop} {x : Pa × Vs} (h : PaM w F x) {b : Nat} {t : TypeId} (ht : Ty w b t) (h1 : t ≠ 65) (h2 : t ≠ 2) (h3 : t ≠ 53) : ¬ x.2.at b := by
  rintro (e | e | e | e)
  · exact h1 (ht.one (own_ty h.ps e))
  · exact h2 (ht.one (own_ty h.ks e))
  · exact h3 (ht.one (own_ty h.zs e))
  · exact h3 (ht.one (own_ty h.ws e))

/-- The queue of the places that were freed. -/
def Qn (w : World) (v : Value) (fr : List Nat) : Prop :=
  (v = .slice none 0 0 ∧ fr = []) ∨ ∃ g off c cur, v = .slice (some ⟨g, off, none⟩) fr.length c ∧ w.heap[g]? = some (.cells cur 3 (0, 0)) ∧ fr.length ≤ c ∧ off + c ≤ cur.size ∧ ∀ (i z : Nat), fr[i]? = some z → cur[off + i]? = some (.int .i64 (z : Int))
theorem Qn.nil (w : World) : Qn w (.slice none 0 0) [] := .inl ⟨rfl, rfl⟩
theorem Qn.at_ {w w' : World} {v : Value} {fr : List Nat} (h : Qn w v fr) (hb : ∀ b, v.ownBlock = some b → w'.heap[b]? = w.heap[b]?) : Qn w' v fr := by
  rcases h with h | ⟨g, off, c, cur, rfl, h1, r⟩
  · exact .inl h
  · exact .inr ⟨g, off, c, cur, rfl, (hb g rfl).trans h1, r⟩
theorem Qn.ty {w : World} {v : Value} {fr : List Nat} (h : Qn w v fr) {b : Nat} (hb : v.ownBlock = some b) : Ty w b 3 := by
  rcases h with ⟨rfl, _⟩ | ⟨g, off, c, cur, rfl, h1, _⟩
  · cases hb
  · injection hb with hb; subst hb; exact ⟨cur, h1⟩
theorem Qn.form {w : World} {v : Value} {fr : List Nat} (h : Qn w v fr) : ∃ A n c, v = .slice A n c ∧ n = fr.length ∧ Sl w A n c (fr.map Int.ofNat) := by
  rcases h with ⟨rfl, rfl⟩ | ⟨g, off, c, cur, rfl, h1, h2, h3, h4⟩
  · exact ⟨none, 0, 0, rfl, rfl, Sl.nil _⟩
  · refine ⟨_, _, c, rfl, rfl, by simp, h2, (fun e => by cases e), .inr ⟨g, off, rfl, fun i z hz => ?_⟩⟩
    rw [List.getElem?_map] at hz
    obtain ⟨y, hy, rfl⟩ : ∃ y, fr[i]? = some y ∧ Int.ofNat y = z := by
      cases e : fr[i]? with
      | none => rw [e] at hz; cases hz
      | some y => rw [e] at hz; exact ⟨y, rfl, by simpa using hz⟩
    rw [cell_of_row w g (off + i) cur _ (0, 0) h1, h4 i y hy]
    rfl

/-- What an arena is: places, those freed, how many there may be, faults. -/
structure As where
  most : Nat
  pls : List Pa
  fr : List Nat
  flt : Nat
def plT : Bool → TypeId
  | false => 111
  | true => 111
def hdT : Bool → TypeId
  | false => 79
  | true => 79
def hdOf : Bool → Nat → Value → Value → Nat → Array Value
  | false, m, P, Q, f => #[.int .i64 (m : Int), P, Q, .int .i64 (f : Int)]
  | true, m, P, Q, f => #[P, Q, .int .i64 (m : Int), .int .i64 (f : Int)]

/-- An arena at block a: F are its blocks. -/
structure Ar (d : Bool) (F : Nat → Prop) (w : World) (a : Nat) (S : As) (l : List (Pa × Vs)) (P Q : Value) : Prop where
  lt : ∀ b, F b → b < w.heap.size
  head : w.heap[a]? = some (.cells (hdOf d S.most P Q S.flt) (hdT d) (0, 0))
  fa : F a
  pls : S.pls = l.map Prod.fst
  row : w.ownsRow 0 (plT d) 10 P l.length (rowOf d l)
  frow : ∀ b, P.ownBlock = some b → F b
  que : Qn w Q S.fr
  fque : ∀ b, Q.ownBlock = some b → F b
  mem : ∀ x ∈ l, PaM w F x
  sep : ∀ (i j : Nat) (x y : Pa × Vs) (g : Nat), l[i]? = some x → l[j]? = some y → x.2.wv.ownBlock = some g → y.2.zv.ownBlock ≠ some g ∧ (i ≠ j → y.2.wv.ownBlock ≠ some g)
section
variable {d : Bool} {F G : Nat → Prop} {w w' : World} {a : Nat} {S : As} {l : List (Pa × Vs)} {P Q : Value}
theorem Ar.keep (h : Ar d F w a S l P Q) (hb : ∀ b, F b → w'.heap[b]? = w.heap[b]?) (hs : w.heap.size ≤ w'.heap.size) : Ar d F w' a S l P Q :=
  ⟨fun b hF => Nat.lt_of_lt_of_le (h.lt b hF) hs, (hb a h.fa).trans h.head, h.fa, h.pls, own_at h.row fun b e => hb b (h.frow b e), h.frow, h.que.at_ fun b e => hb b (h.fque b e), h.fque, fun x hx => (h.mem x hx).keep fun b e => hb b ((h.mem x hx).own b e), h.sep⟩
theorem Ar.below (h : Ar d F w a S l P Q) (hb : Below w.heap.size w w') : Ar d F w' a S l P Q := h.keep (fun b hF => hb.block b (h.lt b hF)) hb.size
theorem Ar.only (h : Ar d F w a S l P Q) (hb : Only G w w') (hd : ∀ b, F b → ¬ G b) : Ar d F w' a S l P Q := h.keep (fun b hF => hb.block b (h.lt b hF) (hd b hF)) hb.size
theorem Ar.tyA (h : Ar d F w a S l P Q) : Ty w a (hdT d) := ⟨_, h.head⟩
theorem Ar.free (h : Ar d F w a S l P Q) (j : Nat) : w.frozen? ⟨a, j, none⟩ = false := frozen_of_row w a j _ _ h.head
theorem Ar.lta (h : Ar d F w a S l P Q) : a < w.heap.size := h.lt a h.fa
theorem hdT_ne (d : Bool) : hdT d ≠ plT d ∧ hdT d ≠ 3 ∧ hdT d ≠ 65 ∧ hdT d ≠ 2 ∧ hdT d ≠ 53 := by cases d <;> decide
theorem plT_ne (d : Bool) : plT d ≠ hdT d ∧ plT d ≠ 3 ∧ plT d ≠ 65 ∧ plT d ≠ 2 ∧ plT d ≠ 53 := by cases d <;> decide
/-- A store into the head; what is stored fits. -/
theorem Ar.setHead (h : Ar d F w a S l P Q) (j : Nat) (u : Value) {m f : Nat} {P' Q' : Value} {fr : List Nat} (hh : (hdOf d S.most P Q S.flt).setIfInBounds j u = hdOf d m P' Q' f)
    (hP : P' = P) (hQ : Qn w Q' fr) (hQF : ∀ b, Q'.ownBlock = some b → F b) : Ar d F (w.setCell ⟨a, j, none⟩ u) a { S with most := m, flt := f, fr := fr } l P' Q' := by
  obtain ⟨n1, n2, n3, n4, n5⟩ := hdT_ne d
  subst hP
  have ho : ∀ b t, Ty w b t → hdT d ≠ t → (w.setCell ⟨a, j, none⟩ u).heap[b]? = w.heap[b]? := fun b t ht hne => heap_setCell_other w ⟨a, j, none⟩ b u (fun e => hne (h.tyA.one (by subst e; exact ht)))
  refine ⟨fun b hF => by simpa using h.lt b hF, ?_, h.fa, h.pls, own_set h.row (p := ⟨a, j, none⟩) h.tyA n1 u, h.frow, hQ.at_ fun b e => ho b _ (hQ.ty e) n2, hQF, fun x hx => (h.mem x hx).keep fun b e => heap_setCell_other w _ b u fun eb => ?_, h.sep⟩
  · rw [heap_setCell_same w a j _ _ u h.head, hh]
  · subst eb
    exact (h.mem x hx).not h.tyA n3 n4 n5 e
/-- A store of a place's row that was appended to. -/
theorem Ar.lenP (h : Ar d F w a S l P Q) : S.pls.length = l.length := by rw [h.pls, List.length_map]
theorem Ar.formP (h : Ar d F w a S l P Q) {i : Nat} {x : Pa × Vs} (hi : l[i]? = some x) : ∃ g c, P = .slice (some ⟨g, 0, none⟩) l.length c ∧ g < w.heap.size ∧ F g ∧ Ty w g (plT d) ∧ l.length ≤ c ∧ c ≤ maxLen ∧ (∀ j, j < 10 → w.cell? ⟨g, i * 10 + j, none⟩ = (cellsOf d x)[j]?) ∧ ∀ j, w.frozen? ⟨g, j, none⟩ = false := by
  have hr := h.row
  have hl : i < l.length := (List.getElem?_eq_some_iff.1 hi).1
  rcases h.row.2 with ⟨_, h0⟩ | ⟨g, cap, cur, rfl, _, hg, h1, h2, _⟩
  · omega
  · refine ⟨g, cap, rfl, (Array.getElem?_eq_some_iff.1 hg).1, h.frow g rfl, ⟨cur, hg⟩, h1, h2, fun j hj => ?_, fun j => frozen_of_row w g j _ _ hg⟩
    rw [World.ownsRow.cellAt hr _ (by omega), rowOf_at d hi hj]
end
end Go.Proofs.YtcegianjpifnbaaGreat
namespace Go.Proofs.YtcegianjpifnbaaGreat
open Go.RowKit
set_option linter.unusedVariables false
set_option maxRecDepth 20000

section
variable {w : World} {e : TypeId} {size : Nat}
end

theorem info_i : (Tryz.prog.info? 3).map (fun i => (i.zero, i.size, i.bytes)) = some (some (.int .i64 0), 1, 8) := by kernel_rfl
theorem under_is : Tryz.prog.underlying 62 = some (.slice 3) := Tryz.underlying62
theorem rowI : RowT 62 3 := ⟨Tryz.underlying62, by kernel_rfl, by kernel_rfl, fun W => by kernel_rfl⟩

theorem Qn.of_own {w : World} {v : Value} {fr : List Nat} (h : w.ownsRow 0 3 1 v fr.length (fr.map fun (z : Nat) => .int .i64 (z : Int))) : Qn w v fr := by
  have hl := h
  rcases h.2 with ⟨rfl, h0⟩ | ⟨g, cap, cur, rfl, _, hg, h1, h2, h3, h4⟩
  · exact .inl ⟨rfl, List.eq_nil_of_length_eq_zero h0⟩
  · refine .inr ⟨g, 0, cap, cur, rfl, hg, h1, by omega, fun i z hz => ?_⟩
    have hi : i < fr.length := (List.getElem?_eq_some_iff.1 hz).1
    have := World.ownsRow.cellAt hl i (by omega)
    rw [cell_of_row w g i cur _ (0, 0) hg, List.getElem?_map, hz] at this
    simpa using this

/-- 'append(freed, z)'. -/
theorem Qn.push {w : World} {v : Value} {fr : List Nat} (h : Qn w v fr) (ty : TypeId) (s z : Nat) (hs : w.cell? ⟨s, 0, none⟩ = some (.int .i64 (z : Int))) (hl : fr.length ≤ 100000) :
    ∃ v' w', (Builtin.append_ #[62, 62] ty #[v, .slice (some ⟨s, 0, none⟩) 1 1]).run Tryz.prog w = .ok v' w' ∧ Qn w' v' (fr ++ [z]) ∧ w.grownBy w' v.ownBlock ∧ ∀ b, v'.ownBlock = some b → v.ownBlock = some b ∨ w.heap.size ≤ b := by
  obtain ⟨i0, hi0, hz0, hz1, hz2⟩ := info_parts info_i
  have hnews : ∀ (j : Nat) (u : Value), [Value.int .i64 (z : Int)][j]? = some u → w.cell? ((⟨s, 0, none⟩ : Addr).add j) = some u := by
    intro j u hj
    match j, hj with
    | 0, hj => simp at hj; subst hj; simpa [Addr.add] using hs
  have hone : ∀ u ∈ [Value.int .i64 (z : Int)], u.oneCell' = true := by intro u hu; simp at hu; subst hu; rfl
  rcases h with ⟨rfl, rfl⟩ | ⟨g, off, c, cur, rfl, hg, h2, h3, h4⟩
  · obtain ⟨v', w', hr, ho, hgr, hb⟩ := run_push (w := w) 62 ty 3 i0 _ 1 8 under_is hi0 hz0 hz1 hz2 rfl (by omega) (.slice none 0 0) 0 [] (World.ownsRow_nil _ _ _ _) ⟨s, 0, none⟩ 1 1 [.int .i64 (z : Int)] rfl hnews hone (by unfold maxLen; omega) (by omega)
    exact ⟨v', w', hr, Qn.of_own (fr := [z]) (by simpa using ho), hgr, hb⟩
  · by_cases hroom : fr.length + 1 ≤ c
    · have hcell : ∀ j, j < [Value.int .i64 (z : Int)].length → (w.cell? ⟨g, off + fr.length * i0.size + j, none⟩).isSome = true := by
        intro j hj
        simp at hj
        subst hj
        rw [hz1, Nat.mul_one, cell_of_row w g _ cur _ (0, 0) hg]
        simp
        omega
      have hr := run_append_room_src (P := Tryz.prog) (w := w) 62 62 ty 3 i0 under_is hi0 g off fr.length c (.slice (some ⟨s, 0, none⟩) 1 1) 1 [.int .i64 (z : Int)] (Src.ofSlice w under_is ⟨s, 0, none⟩ 1 1 _ (by rw [hz1]; rfl) hnews hone) hroom hcell (fun j _ => frozen_of_row w g _ _ _ hg)
      refine ⟨_, _, hr, .inr ⟨g, off, c, cur.setIfInBounds (off + fr.length) (.int .i64 (z : Int)), by simp, ?_, by simpa using hroom, by simpa using h3, fun i y hy => ?_⟩, ?_, fun b hb => .inl hb⟩
      · simp only [World.setCells, hz1, Nat.mul_one]
        exact heap_setCell_same w g _ _ _ _ hg
      · rw [Array.getElem?_setIfInBounds]
        by_cases hi : i < fr.length
        · rw [if_neg (by omega)]
          rw [List.getElem?_append_left hi] at hy
          exact h4 i y hy
        · rw [List.getElem?_append_right (by omega)] at hy
          have : i - fr.length = 0 := by
            have := (List.getElem?_eq_some_iff.1 hy).1
            simp at this; omega
          rw [this] at hy
          simp at hy
          subst hy
          rw [if_pos (by omega), if_pos (by omega)]
      · simp only [World.setCells, hz1, Nat.mul_one]
        exact grown_set w _ _
    · have holds : ∀ (j : Nat) (u : Value), (fr.map fun (z : Nat) => Value.int .i64 (z : Int))[j]? = some u → w.cell? ((⟨g, off, none⟩ : Addr).add j) = some u := by
        intro j u hj
        rw [List.getElem?_map] at hj
        cases e : fr[j]? with
        | none => rw [e] at hj; cases hj
        | some y =>
          rw [e] at hj
          simp at hj
          subst hj
          rw [add_lit0, cell_of_row w g _ cur _ (0, 0) hg, h4 j y e]
      have hr := run_append_grow (P := Tryz.prog) w 62 ty 3 i0 _ under_is hi0 hz0 ⟨g, off, none⟩ fr.length c (fr.map fun (z : Nat) => Value.int .i64 (z : Int)) (by rw [hz1]; simp) holds ⟨s, 0, none⟩ 1 1 [.int .i64 (z : Int)] (by rw [hz1]; rfl) hnews (by omega) (by omega) (growslice_fits (by omega) (by rw [hz2]; omega))
      refine ⟨_, _, hr, .inr ⟨w.heap.size, 0, grownCap w (fr.length + 1) c 3, _, by simp, heap_alloc_new w.drew _, by simpa using grownCap_ge w (fr.length + 1) c 3, ?_, fun i y hy => ?_⟩, ⟨rfl, rfl, rfl, by simp, fun k hk _ => Below.heap_alloc w.drew _ k hk⟩, fun b hb => ?_⟩
      · have hge := grownCap_ge w (fr.length + 1) c 3
        simp only [Array.size_append, List.size_toArray, List.length_map, size_zeroCells, show (Value.int .i64 0).cells.size = 1 from rfl, List.length_cons, List.length_nil]
        omega
      · have hi := (List.getElem?_eq_some_iff.1 hy).1
        simp at hi
        rw [Nat.zero_add, Array.getElem?_append_left (by simp; omega)]
        have e : (List.map (fun (z : Nat) => Value.int .i64 (z : Int)) fr).toArray ++ [Value.int .i64 (z : Int)].toArray = ((fr ++ [z]).map fun (z : Nat) => Value.int .i64 (z : Int)).toArray := by simp
        rw [e, List.getElem?_toArray, List.getElem?_map, hy]
        rfl
      · simp [Value.ownBlock] at hb
        exact .inr (by omega)

/-- 'freed[1:]'. -/
theorem Qn.tail {w : World} {A : Option Addr} {n c : Nat} {z : Nat} {fr : List Nat} (h : Qn w (.slice A n c) (z :: fr)) :
    ∃ A' c', Qn w (.slice A' fr.length c') fr ∧ (∀ b, (Value.slice A' fr.length c').ownBlock = some b → (Value.slice A n c).ownBlock = some b) ∧ ∀ W : World, (Instr.slice 62 (.slice A n c) (some (.int .i64 1)) none none).run Tryz.prog W = .ok (.slice A' fr.length c') W := by
  rcases h with ⟨_, h0⟩ | ⟨g, off, c2, cur, e, hg, h2, h3, h4⟩
  · cases h0
  · injection e with e1 e2 e3
    subst e1 e2 e3
    have hrun : ∀ W : World, (Instr.slice 62 (.slice (some ⟨g, off, none⟩) (z :: fr).length c) (some (.int .i64 1)) none none).run Tryz.prog W = .ok (.slice (if c = 1 then some ⟨g, off, none⟩ else some ⟨g, off + 1, none⟩) fr.length (c - 1)) W := by
      intro W
      have := run_slice_l (P := Tryz.prog) (t := 62) W (some ⟨g, off, none⟩) (z :: fr).length c rowI.under2 .i64 1 (by omega) (by simp; omega)
      rw [rowI.elem W] at this
      rw [this]
      simp [Result.andThen, sliced, add_lit0]
    refine ⟨_, _, ?_, ?_, hrun⟩
    · by_cases hc : c = 1
      · have hfr : fr = [] := List.eq_nil_of_length_eq_zero (by simp at h2; omega)
        subst hfr
        rw [if_pos hc]
        exact .inr ⟨g, off, c - 1, cur, rfl, hg, by simp, by omega, fun i y hy => by simp at hy⟩
      · rw [if_neg hc]
        refine .inr ⟨g, off + 1, c - 1, cur, rfl, hg, by simp at h2; omega, by simp at h2; omega, fun i y hy => ?_⟩
        have := h4 (i + 1) y (by simpa using hy)
        rw [show off + 1 + i = off + (i + 1) from by omega]
        exact this
    · intro b hb
      split at hb <;> simpa [Value.ownBlock] using hb

theorem rowOf_split (d : Bool) (l : List (Pa × Vs)) (i : Nat) (x : Pa × Vs) (h : l[i]? = some x) : ∃ A B, A.length = i * 10 ∧ rowOf d l = A ++ (cellsOf d x ++ B) ∧ ∀ y, rowOf d (l.set i y) = A ++ (cellsOf d y ++ B) := by
  have hl : i < l.length := (List.getElem?_eq_some_iff.1 h).1
  refine ⟨rowOf d (l.take i), rowOf d (l.drop (i + 1)), by rw [rowOf_length, List.length_take]; omega, ?_, fun y => ?_⟩
  · have e : l = l.take i ++ (x :: l.drop (i + 1)) := by
      have e2 : l[i] = x := (List.getElem?_eq_some_iff.1 h).2
      rw [← e2, ← List.drop_eq_getElem_cons hl, List.take_append_drop]
    conv => lhs; rw [e]
    rw [rowOf_append]; rfl
  · rw [List.set_eq_take_append_cons_drop, if_pos hl, rowOf_append]; rfl
section
variable {d : Bool} {F G : Nat → Prop} {w w' : World} {a : Nat} {S : As} {l : List (Pa × Vs)} {P Q : Value} {i : Nat} {x y : Pa × Vs}
/-- A place's cells are others now. -/
theorem Ar.setPl (h : Ar d F w a S l P Q) (hi : l[i]? = some x) (hrow : w'.ownsRow 0 (plT d) 10 P l.length (rowOf d (l.set i y))) (hg : w.grownBy w' P.ownBlock) (hFG : ∀ b, F b → G b) (hGl : ∀ b, G b → b < w.heap.size) (hy : PaM w G y)
    (hs1 : ∀ b, y.2.wv.ownBlock = some b → (x.2.wv.ownBlock = some b ∧ y.2.zv = x.2.zv) ∨ (¬ F b ∧ y.2.zv.ownBlock ≠ some b)) (hs2 : ∀ b, y.2.zv.ownBlock = some b → x.2.zv.ownBlock = some b ∨ ¬ F b) : Ar d G w' a { S with pls := S.pls.set i y.1 } (l.set i y) P Q := by
  obtain ⟨g, c, hP, hgl, hFg, hty, _⟩ := h.formP hi
  obtain ⟨n1, n2, n3, n4, n5⟩ := plT_ne d
  have hPb : P.ownBlock = some g := by rw [hP]; rfl
  rw [hPb] at hg
  have hil : i < l.length := (List.getElem?_eq_some_iff.1 hi).1
  have ho : ∀ b t, Ty w b t → plT d ≠ t → b < w.heap.size → w'.heap[b]? = w.heap[b]? := fun b t ht hne hb => hg.block b hb (fun e => by injection e with e; subst e; exact hne (hty.one ht))
  have hmem : ∀ z, PaM w G z → PaM w' G z := fun z hz => hz.keep fun b e => hg.block b (hGl b (hz.own b e)) (fun eb => by injection eb with eb; subst eb; exact hz.not hty n3 n4 n5 e)
  refine ⟨fun b hb => Nat.lt_of_lt_of_le (hGl b hb) hg.size, (ho a _ h.tyA n1 h.lta).trans h.head, hFG a h.fa, ?_, by rw [List.length_set]; exact hrow, fun b e => hFG b (h.frow b e), h.que.at_ fun b e => ho b _ (h.que.ty e) n2 (h.lt b (h.fque b e)), fun b e => hFG b (h.fque b e), fun z hz => ?_, ?_⟩
  · rw [List.map_set, ← h.pls]
  · rcases List.mem_or_eq_of_mem_set hz with hz | rfl
    · exact hmem z ((h.mem z hz).mono hFG)
    · exact hmem _ hy
  · intro j k u v g' hj hk hw
    rw [List.getElem?_set] at hj hk
    by_cases e1 : i = j
    · subst e1
      rw [if_pos rfl, if_pos hil] at hj
      injection hj with hj; subst hj
      by_cases e2 : i = k
      · subst e2
        rw [if_pos rfl, if_pos hil] at hk
        injection hk with hk; subst hk
        refine ⟨?_, fun e => absurd rfl e⟩
        rcases hs1 g' hw with ⟨h1, h2⟩ | ⟨_, h2⟩
        · rw [h2]; exact (h.sep i i x x g' hi hi h1).1
        · exact h2
      · rw [if_neg e2] at hk
        rcases hs1 g' hw with ⟨h1, h2⟩ | ⟨h1, _⟩
        · have := h.sep i k x v g' hi hk h1
          exact ⟨this.1, fun _ => this.2 e2⟩
        · have hm := h.mem v (List.mem_of_getElem? hk)
          exact ⟨fun e => h1 (hm.own g' (.inr (.inr (.inl e)))), fun _ e => h1 (hm.own g' (.inr (.inr (.inr e))))⟩
    · rw [if_neg e1] at hj
      have hFg' : F g' := (h.mem u (List.mem_of_getElem? hj)).own g' (.inr (.inr (.inr hw)))
      by_cases e2 : i = k
      · subst e2
        rw [if_pos rfl, if_pos hil] at hk
        injection hk with hk; subst hk
        have := h.sep j i u x g' hj hi hw
        refine ⟨fun e => ?_, fun _ e => ?_⟩
        · rcases hs2 g' e with h1 | h1
          · exact this.1 h1
          · exact h1 hFg'
        · rcases hs1 g' e with ⟨h1, _⟩ | ⟨h1, _⟩
          · exact this.2 (fun e => e1 e.symm) h1
          · exact h1 hFg'
      · rw [if_neg e2] at hk
        exact h.sep j k u v g' hj hk hw

/-- One cell of a place is written: nothing that its rows hang on. -/
theorem Ar.setCell1 (h : Ar d F w a S l P Q) (hi : l[i]? = some x) {g c : Nat} (hP : P = .slice (some ⟨g, 0, none⟩) l.length c) {j : Nat} (hj : j < 10) (u : Value) (p' : Pa) (hc : cellsOf d (p', x.2) = (cellsOf d x).set j u) (hnd : p'.nd = x.1.nd) (hws : p'.ws = x.1.ws) :
    Ar d F (w.setCell ⟨g, i * 10 + j, none⟩ u) a { S with pls := S.pls.set i p' } (l.set i (p', x.2)) P Q := by
  have hm := h.mem x (List.mem_of_getElem? hi)
  have hr := h.row
  subst hP
  have hst := World.ownsRow.stored hr (i * 10 + j) u
  rw [rowOf_set1 d hi hj u hc] at hst
  exact h.setPl hi (y := (p', x.2)) hst.1 hst.2 (fun _ hb => hb) h.lt ⟨by rw [hnd]; exact hm.ps, by rw [hnd]; exact hm.ks, by rw [hnd]; exact hm.zs, by rw [hws]; exact hm.ws, hm.own, by rw [hnd]; exact hm.small, by rw [hws]; exact hm.few⟩ (fun b e => .inl ⟨e, rfl⟩) (fun b e => .inl e)

theorem own_mid {g n c j : Nat} {t : TypeId} {A M B : List Value} (hr : w.ownsRow 0 t 10 (.slice (some ⟨g, 0, none⟩) n c) n (A ++ (M ++ B))) (hA : A.length = i * 10) (hj : j < M.length) (u : Value) :
    (w.setCell ⟨g, i * 10 + j, none⟩ u).ownsRow 0 t 10 (.slice (some ⟨g, 0, none⟩) n c) n (A ++ (M.set j u ++ B)) := by
  have := (World.ownsRow.stored hr (i * 10 + j) u).1
  rwa [set_mid hA hj] at this
/-- All cells of a place are written. -/
theorem own_ten {g n c : Nat} {t : TypeId} (hr : w.ownsRow 0 t 10 (.slice (some ⟨g, 0, none⟩) n c) n (rowOf d l)) (hi : l[i]? = some x) (u0 u1 u2 u3 u4 u5 u6 u7 u8 u9 : Value) (hy : cellsOf d y = [u0, u1, u2, u3, u4, u5, u6, u7, u8, u9]) :
    ((((((((((w.setCell ⟨g, i * 10, none⟩ u0).setCell ⟨g, i * 10 + 1, none⟩ u1).setCell ⟨g, i * 10 + 2, none⟩ u2).setCell ⟨g, i * 10 + 3, none⟩ u3).setCell ⟨g, i * 10 + 4, none⟩ u4).setCell ⟨g, i * 10 + 5, none⟩ u5).setCell ⟨g, i * 10 + 6, none⟩ u6).setCell ⟨g, i * 10 + 7, none⟩ u7).setCell ⟨g, i * 10 + 8, none⟩ u8).setCell ⟨g, i * 10 + 9, none⟩ u9).ownsRow 0 t 10 (.slice (some ⟨g, 0, none⟩) n c) n (rowOf d (l.set i y)) := by
  obtain ⟨A, B, hA, h1, h2⟩ := rowOf_split d l i x hi
  rw [h1] at hr
  rw [h2 y, hy]
  have hx := cellsOf_length d x
  generalize cellsOf d x = M at *
  match M, hx with
  | [m0, m1, m2, m3, m4, m5, m6, m7, m8, m9], _ =>
    have q0 : (w.setCell ⟨g, i * 10, none⟩ u0).ownsRow 0 t 10 (.slice (some ⟨g, 0, none⟩) n c) n (A ++ ([u0, m1, m2, m3, m4, m5, m6, m7, m8, m9] ++ B)) := own_mid hr hA (j := 0) (by simp) u0
    generalize w.setCell ⟨g, i * 10, none⟩ u0 = w1 at q0 ⊢
    clear hr
    have q1 : (w1.setCell ⟨g, i * 10 + 1, none⟩ u1).ownsRow 0 t 10 (.slice (some ⟨g, 0, none⟩) n c) n (A ++ ([u0, u1, m2, m3, m4, m5, m6, m7, m8, m9] ++ B)) := own_mid q0 hA (j := 1) (by simp) u1
    generalize w1.setCell ⟨g, i * 10 + 1, none⟩ u1 = w2 at q1 ⊢
    clear q0
    have q2 : (w2.setCell ⟨g, i * 10 + 2, none⟩ u2).ownsRow 0 t 10 (.slice (some ⟨g, 0, none⟩) n c) n (A ++ ([u0, u1, u2, m3, m4, m5, m6, m7, m8, m9] ++ B)) := own_mid q1 hA (j := 2) (by simp) u2
    generalize w2.setCell ⟨g, i * 10 + 2, none⟩ u2 = w3 at q2 ⊢
    clear q1
    have q3 : (w3.setCell ⟨g, i * 10 + 3, none⟩ u3).ownsRow 0 t 10 (.slice (some ⟨g, 0, none⟩) n c) n (A ++ ([u0, u1, u2, u3, m4, m5, m6, m7, m8, m9] ++ B)) := own_mid q2 hA (j := 3) (by simp) u3
    generalize w3.setCell ⟨g, i * 10 + 3, none⟩ u3 = w4 at q3 ⊢
    clear q2
    have q4 : (w4.setCell ⟨g, i * 10 + 4, none⟩ u4).ownsRow 0 t 10 (.slice (some ⟨g, 0, none⟩) n c) n (A ++ ([u0, u1, u2, u3, u4, m5, m6, m7, m8, m9] ++ B)) := own_mid q3 hA (j := 4) (by simp) u4
    generalize w4.setCell ⟨g, i * 10 + 4, none⟩ u4 = w5 at q4 ⊢
    clear q3
    have q5 : (w5.setCell ⟨g, i * 10 + 5, none⟩ u5).ownsRow 0 t 10 (.slice (some ⟨g, 0, none⟩) n c) n (A ++ ([u0, u1, u2, u3, u4, u5, m6, m7, m8, m9] ++ B)) := own_mid q4 hA (j := 5) (by simp) u5
    generalize w5.setCell ⟨g, i * 10 + 5, none⟩ u5 = w6 at q5 ⊢
    clear q4
    have q6 : (w6.setCell ⟨g, i * 10 + 6, none⟩ u6).ownsRow 0 t 10 (.slice (some ⟨g, 0, none⟩) n c) n (A ++ ([u0, u1, u2, u3, u4, u5, u6, m7, m8, m9] ++ B)) := own_mid q5 hA (j := 6) (by simp) u6
    generalize w6.setCell ⟨g, i * 10 + 6, none⟩ u6 = w7 at q6 ⊢
    clear q5
    have q7 : (w7.setCell ⟨g, i * 10 + 7, none⟩ u7).ownsRow 0 t 10 (.slice (some ⟨g, 0, none⟩) n c) n (A ++ ([u0, u1, u2, u3, u4, u5, u6, u7, m8, m9] ++ B)) := own_mid q6 hA (j := 7) (by simp) u7
    generalize w7.setCell ⟨g, i * 10 + 7, none⟩ u7 = w8 at q7 ⊢
    clear q6
    have q8 : (w8.setCell ⟨g, i * 10 + 8, none⟩ u8).ownsRow 0 t 10 (.slice (some ⟨g, 0, none⟩) n c) n (A ++ ([u0, u1, u2, u3, u4, u5, u6, u7, u8, m9] ++ B)) := own_mid q7 hA (j := 8) (by simp) u8
    generalize w8.setCell ⟨g, i * 10 + 8, none⟩ u8 = w9 at q8 ⊢
    clear q7
    have q9 : (w9.setCell ⟨g, i * 10 + 9, none⟩ u9).ownsRow 0 t 10 (.slice (some ⟨g, 0, none⟩) n c) n (A ++ ([u0, u1, u2, u3, u4, u5, u6, u7, u8, u9] ++ B)) := own_mid q8 hA (j := 9) (by simp) u9
    exact q9
theorem grown_ten (w : World) (g k : Nat) (u0 u1 u2 u3 u4 u5 u6 u7 u8 u9 : Value) : w.grownBy ((((((((((w.setCell ⟨g, k, none⟩ u0).setCell ⟨g, k + 1, none⟩ u1).setCell ⟨g, k + 2, none⟩ u2).setCell ⟨g, k + 3, none⟩ u3).setCell ⟨g, k + 4, none⟩ u4).setCell ⟨g, k + 5, none⟩ u5).setCell ⟨g, k + 6, none⟩ u6).setCell ⟨g, k + 7, none⟩ u7).setCell ⟨g, k + 8, none⟩ u8).setCell ⟨g, k + 9, none⟩ u9) (some g) :=
  grown_two (grown_two (grown_two (grown_two (grown_two (grown_two (grown_two (grown_two (grown_two (grown_set w ⟨g, k, none⟩ u0) (grown_set _ ⟨g, k + 1, none⟩ u1)) (grown_set _ ⟨g, k + 2, none⟩ u2)) (grown_set _ ⟨g, k + 3, none⟩ u3)) (grown_set _ ⟨g, k + 4, none⟩ u4)) (grown_set _ ⟨g, k + 5, none⟩ u5)) (grown_set _ ⟨g, k + 6, none⟩ u6)) (grown_set _ ⟨g, k + 7, none⟩ u7)) (grown_set _ ⟨g, k + 8, none⟩ u8)) (grown_set _ ⟨g, k + 9, none⟩ u9)

/-- A way is written. -/
theorem Ar.setWay (h : Ar d F w a S l P Q) (hi : l[i]? = some x) {k : Nat} (hk : k < x.1.ws.length) (z : Int) : ∃ g c, x.2.wv = .slice (some ⟨g, 0, none⟩) x.1.ws.length c ∧ F g ∧ g < w.heap.size ∧ w.cell? ⟨g, k, none⟩ = some (.int .i64 x.1.ws[k]) ∧ w.frozen? ⟨g, k, none⟩ = false ∧
    Ar d F (w.setCell ⟨g, k, none⟩ (.int .i64 z)) a { S with pls := S.pls.set i { x.1 with ws := x.1.ws.set k z } } (l.set i ({ x.1 with ws := x.1.ws.set k z }, x.2)) P Q := by
  have hm := h.mem x (List.mem_of_getElem? hi)
  have hil : i < l.length := (List.getElem?_eq_some_iff.1 hi).1
  obtain ⟨g, c, u, hv, _, hgl, _, hcell, hfz, hput⟩ := hm.ws.put hk
  have hcell2 : w.cell? ⟨g, k, none⟩ = some (.int .i64 x.1.ws[k]) := by
    obtain ⟨A, c2, e, s⟩ := hm.ws.form
    obtain ⟨b, off, e2, _, hc⟩ := s.at_ hk
    rw [hv] at e
    injection e with e3
    rw [e2] at e3
    injection e3 with e3
    injection e3 with e4 e5
    subst e4 e5
    rw [Nat.zero_add] at hc
    exact hc
  have hFg : F g := hm.own g (.inr (.inr (.inr (by rw [hv]; rfl))))
  have hty : Ty w g 53 := own_ty hm.ws (by rw [hv]; rfl)
  obtain ⟨n1, n2, n3, n4, n5⟩ := plT_ne d
  obtain ⟨m1, m2, m3, m4, m5⟩ := hdT_ne d
  have ho : ∀ b t, Ty w b t → 53 ≠ t → (w.setCell ⟨g, k, none⟩ (.int .i64 z)).heap[b]? = w.heap[b]? := fun b t ht hne => heap_setCell_other w ⟨g, k, none⟩ b _ (fun e => hne (hty.one (by subst e; exact ht)))
  have hrest : ∀ b, b ≠ g → (w.setCell ⟨g, k, none⟩ (.int .i64 z)).heap[b]? = w.heap[b]? := fun b hb => heap_setCell_other w ⟨g, k, none⟩ b _ hb
  refine ⟨g, c, hv, hFg, hgl, hcell2, hfz, ⟨fun b hb => by simpa using h.lt b hb, (ho a _ h.tyA (Ne.symm m5)).trans h.head, h.fa, by rw [List.map_set, ← h.pls], ?_, h.frow, h.que.at_ fun b e => ho b _ (h.que.ty e) (by decide), h.fque, fun y hy => ?_, ?_⟩⟩
  · rw [List.length_set]
    have e : rowOf d (l.set i ({ x.1 with ws := x.1.ws.set k z }, x.2)) = rowOf d l := by
      obtain ⟨A, B, _, h1, h2⟩ := rowOf_split d l i x hi
      rw [h1, h2]
      cases d <;> rfl
    rw [e]
    exact own_set h.row (p := ⟨g, k, none⟩) hty (Ne.symm n5) _
  · obtain ⟨j, hj⟩ := List.getElem?_of_mem hy
    rw [List.getElem?_set] at hj
    by_cases e1 : i = j
    · rw [if_pos e1, if_pos hil] at hj
      injection hj with hj
      subst hj
      refine ⟨own_at hm.ps fun b e => ho b _ (own_ty hm.ps e) (by decide), own_at hm.ks fun b e => ho b _ (own_ty hm.ks e) (by decide), own_at hm.zs fun b e => hrest b fun eb => ?_, (hput z).1.lower (Nat.zero_le _), hm.own, hm.small, by simpa using hm.few⟩
      subst eb
      exact (h.sep i i x x b hi hi (by rw [hv]; rfl)).1 e
    · rw [if_neg e1] at hj
      have hy2 := h.mem y (List.mem_of_getElem? hj)
      refine hy2.keep fun b e => hrest b fun eb => ?_
      subst eb
      have hsp := h.sep i j x y b hi hj (by rw [hv]; rfl)
      rcases e with e | e | e | e
      · exact absurd (hty.one (own_ty hy2.ps e)) (by decide)
      · exact absurd (hty.one (own_ty hy2.ks e)) (by decide)
      · exact hsp.1 e
      · exact hsp.2 e1 e
  · intro j k' u v g' hj hk' hw
    have e : ∀ (j : Nat) (u : Pa × Vs), (l.set i ({ x.1 with ws := x.1.ws.set k z }, x.2))[j]? = some u → ∃ u', l[j]? = some u' ∧ u'.2 = u.2 := by
      intro j u hj
      rw [List.getElem?_set] at hj
      by_cases e1 : i = j
      · rw [if_pos e1, if_pos hil] at hj
        injection hj with hj
        subst hj
        exact ⟨x, e1 ▸ hi, rfl⟩
      · rw [if_neg e1] at hj
        exact ⟨u, hj, rfl⟩
    obtain ⟨u', hu', eu⟩ := e j u hj
    obtain ⟨v', hv', ev⟩ := e k' v hk'
    rw [← ev]
    exact h.sep j k' u' v' g' hu' hv' (by rw [eu]; exact hw)
end
end Go.Proofs.YtcegianjpifnbaaGreat
namespace Go.Proofs.YtcegianjpifnbaaGreat
open Go.ChangeShapes Go.WideShapes Go.ChangeAt Go.RowKit
set_option linter.unusedVariables false
set_option linter.unusedSimpArgs false
set_option maxRecDepth 20000

/-- An arena, whatever its slices are. -/
def Arn (d : Bool) (F : Nat → Prop) (w : World) (a : Nat) (S : As) : Prop := ∃ l P Q, Ar d F w a S l P Q
/-- Behind a call: the arena is S', and nothing else has changed. -/
def Nx (d : Bool) (F : Nat → Prop) (w : World) (a : Nat) (S' : As) (w' : World) : Prop := ∃ F', Arn d F' w' a S' ∧ Only F w w' ∧ ∀ b, F' b → F b ∨ w.heap.size ≤ b
theorem Nx.same {d : Bool} {F : Nat → Prop} {w : World} {a : Nat} {S : As} (h : Arn d F w a S) : Nx d F w a S w := ⟨F, h, Only.refl _ _, fun _ hb => .inl hb⟩
theorem Nx.of {d : Bool} {F : Nat → Prop} {w w' : World} {a : Nat} {S : As} (h : Arn d F w' a S) (ho : Only F w w') : Nx d F w a S w' := ⟨F, h, ho, fun _ hb => .inl hb⟩

theorem Ar.head0 {F : Nat → Prop} {w : World} {a : Nat} {S : As} {l : List (Pa × Vs)} {P Q : Value} (h : Ar false F w a S l P Q) : w.cell? ⟨a, 0, none⟩ = some (.int .i64 (S.most : Int)) ∧ w.cell? ⟨a, 1, none⟩ = some P ∧ w.cell? ⟨a, 2, none⟩ = some Q ∧ w.cell? ⟨a, 3, none⟩ = some (.int .i64 (S.flt : Int)) := by
  refine ⟨?_, ?_, ?_, ?_⟩ <;> (rw [cell_of_row w a _ _ _ (0, 0) h.head]; rfl)
theorem Ar.head1 {F : Nat → Prop} {w : World} {a : Nat} {S : As} {l : List (Pa × Vs)} {P Q : Value} (h : Ar true F w a S l P Q) : w.cell? ⟨a, 0, none⟩ = some P ∧ w.cell? ⟨a, 1, none⟩ = some Q ∧ w.cell? ⟨a, 2, none⟩ = some (.int .i64 (S.most : Int)) ∧ w.cell? ⟨a, 3, none⟩ = some (.int .i64 (S.flt : Int)) := by
  refine ⟨?_, ?_, ?_, ?_⟩ <;> (rw [cell_of_row w a _ _ _ (0, 0) h.head]; rfl)
theorem Ar.shapeP {d : Bool} {F : Nat → Prop} {w : World} {a : Nat} {S : As} {l : List (Pa × Vs)} {P Q : Value} (h : Ar d F w a S l P Q) : ∃ A c, P = .slice A l.length c := by
  rcases h.row.2 with ⟨rfl, h0⟩ | ⟨g, cap, cur, rfl, _⟩
  · exact ⟨none, 0, by rw [h0]⟩
  · exact ⟨_, cap, rfl⟩

/-- A new arena. -/
def As.new (m : Nat) : As := ⟨m, [], [], 0⟩
def arMost (m : Int) : Nat := (min (max m 0) 65536).toNat
theorem ar_new {d : Bool} (w : World) (m : Nat) (t : TypeId) (ht : hdT d = t) : Ar d (fun b => b = w.heap.size) (w.alloc (.cells (hdOf d m (.slice none 0 0) (.slice none 0 0) 0) t)) w.heap.size (As.new m) [] (.slice none 0 0) (.slice none 0 0) := by
  subst ht
  refine ⟨fun b hb => by subst hb; simp, heap_alloc_new w _, rfl, rfl, World.ownsRow_nil _ _ _ _, fun b e => (by cases e), Qn.nil _, fun b e => (by cases e), fun x hx => (by cases hx), ?_⟩
  intro i j x y g hi
  simp at hi

theorem ar_newI (w : World) (m : Nat) (k : Int) (hk : k = (m : Int)) : Ar false (fun b => b = w.heap.size) (w.alloc (.cells #[.int .i64 k, .slice none 0 0, .slice none 0 0, .int .i64 0] 79)) w.heap.size (As.new m) [] (.slice none 0 0) (.slice none 0 0) := by
  subst hk; exact ar_new (d := false) w m _ rfl
set_option maxHeartbeats 400000 in
theorem arNew_walk (m : Int) (w : World) :
    Calls Tryz.prog 35 #[.int .i64 m] w fun e w' => e = .returned (ptr w.heap.size) ∧ Arn false (fun b => b = w.heap.size) w' w.heap.size (As.new (arMost m)) ∧ Below w.heap.size w w' := by
  go_enter Tryz.func35, Tryz.ntmps35
  go_wp2
  all_goals go_ret
  all_goals exact ⟨rfl, ⟨_, _, _, ar_newI w _ _ (by unfold arMost; omega)⟩, below_new _ _⟩

section
variable {F : Nat → Prop} {w : World} {a : Nat} {S : As} {l : List (Pa × Vs)} {P Q : Value}

set_option maxHeartbeats 400000 in
theorem used_walk (h : Ar false F w a S l P Q) (hp : S.pls.length ≤ 70000) (hf : S.fr.length ≤ 70000) :
    Calls Tryz.prog 17 #[ptr a] w fun e w' => e = .returned (.int .i64 ((S.pls.length : Int) - (S.fr.length : Int))) ∧ Below w.heap.size w w' := by
  obtain ⟨c0, c1, c2, c3⟩ := h.head0
  obtain ⟨A, c, rfl⟩ := h.shapeP
  obtain ⟨B, n, c', rfl, hn, _⟩ := h.que.form
  have hl := h.lenP
  rw [← hl] at c1
  rw [hn] at c2
  clear hl hn h
  generalize S.pls.length = p at *
  generalize S.fr.length = q at *
  have h1 : IntKind.i64.wrap ((p : Int) - (q : Int)) = (p : Int) - (q : Int) := IntWalk.i64_in _ (by omega)
  go_enter Tryz.func17, Tryz.ntmps17
  go_wp2
  go_quiet (fail)
  go_wp2
  go_ret
  exact ⟨by first | rfl | (simp), by first | exact below_drewN (Below.refl _ _) _ | exact (Below.refl _ _).drew⟩

theorem used_nil (w : World) : Calls Tryz.prog 17 #[nilp] w fun e w' => e = .returned (.int .i64 0) ∧ w = w' := by
  go_enter Tryz.func17, Tryz.ntmps17
  go_wp2
  go_ret
  exact ⟨rfl, rfl⟩

set_option maxHeartbeats 400000 in
theorem most_walk (h : Ar false F w a S l P Q) :
    Calls Tryz.prog 58 #[ptr a] w fun e w' => e = .returned (.int .i64 (S.most : Int)) ∧ w = w' := by
  obtain ⟨c0, c1, c2, c3⟩ := h.head0
  go_enter Tryz.func58, Tryz.ntmps58
  go_wp2
  go_ret
  exact ⟨rfl, rfl⟩
theorem most_nil (w : World) : Calls Tryz.prog 58 #[nilp] w fun e w' => e = .returned (.int .i64 0) ∧ w = w' := by
  go_enter Tryz.func58, Tryz.ntmps58
  go_wp2
  go_ret
  exact ⟨rfl, rfl⟩

/-- A reference is right: of place i. -/
def Hit (S : As) (r : Int) (i : Nat) : Prop := ∃ p, S.pls[i]? = some p ∧ p.used = true ∧ mk i p.cnt = r
theorem Ar.at_ {d : Bool} (h : Ar d F w a S l P Q) {i : Nat} {p : Pa} (hp : S.pls[i]? = some p) : ∃ x, l[i]? = some x ∧ x.1 = p := by
  rw [h.pls, List.getElem?_map] at hp
  cases e : l[i]? with
  | none => rw [e] at hp; cases hp
  | some x => rw [e] at hp; exact ⟨x, rfl, by simpa using hp⟩

/-- The cells of a place. -/
theorem Ar.cells0 (h : Ar false F w a S l P Q) {i : Nat} {x : Pa × Vs} (hi : l[i]? = some x) : ∃ g c, P = .slice (some ⟨g, 0, none⟩) l.length c ∧ g < w.heap.size ∧ F g ∧ i < l.length ∧
    w.cell? ⟨g, i * 10, none⟩ = some (.bool x.1.used) ∧ w.cell? ⟨g, i * 10 + 1, none⟩ = some (.int .u32 (x.1.cnt : Int)) ∧ w.cell? ⟨g, i * 10 + 2, none⟩ = some (.bool x.1.nd.inn) ∧ w.cell? ⟨g, i * 10 + 3, none⟩ = some (.bool x.1.nd.tag) ∧ w.cell? ⟨g, i * 10 + 4, none⟩ = some x.2.pv ∧ w.cell? ⟨g, i * 10 + 5, none⟩ = some x.2.kv ∧ w.cell? ⟨g, i * 10 + 6, none⟩ = some x.2.zv ∧ w.cell? ⟨g, i * 10 + 7, none⟩ = some x.2.wv ∧ w.cell? ⟨g, i * 10 + 8, none⟩ = some (.int .i64 x.1.info) ∧ w.cell? ⟨g, i * 10 + 9, none⟩ = some (.bool x.1.mark) ∧ ∀ j, w.frozen? ⟨g, j, none⟩ = false := by
  obtain ⟨g, c, hP, hg, hF, _, _, _, hc, hz⟩ := h.formP hi
  exact ⟨g, c, hP, hg, hF, (List.getElem?_eq_some_iff.1 hi).1, by simpa [cellsOf] using hc 0 (by omega), hc 1 (by omega), hc 2 (by omega), hc 3 (by omega), hc 4 (by omega), hc 5 (by omega), hc 6 (by omega), hc 7 (by omega), hc 8 (by omega), hc 9 (by omega), hz⟩

theorem pl_of_mk {i : Nat} {c r : Int} (hi : i < 70000) (h : mk i c = r) : pl r = (i : Int) := by rw [← h, pl_mk]; omega

set_option maxHeartbeats 1000000 in
theorem right_yes (h : Ar false F w a S l P Q) {r : Int} {i : Nat} {x : Pa × Vs} (hi : l[i]? = some x) (hu : x.1.used = true) (hr : mk i x.1.cnt = r) (hl : S.pls.length ≤ 70000) (hc : x.1.cnt ≤ 1000000) {g c : Nat} (hP : P = .slice (some ⟨g, 0, none⟩) l.length c) :
    Calls Tryz.prog 51 #[ptr a, .int .i64 r] w fun e w' => e = .returned (.pointer (some ⟨g, i * 10, none⟩)) ∧ w = w' := by
  obtain ⟨c0, c1, c2, c3⟩ := h.head0
  obtain ⟨g', c', hP', hg, hF, hil, e0, e1, _, _, _, _, _, _, _, _, hz⟩ := h.cells0 hi
  rw [hP] at hP'
  injection hP' with hP1 _ hP2
  injection hP1 with hP1
  injection hP1 with hP1
  subst hP1 hP2
  rw [hu] at e0
  have hln := h.lenP
  rw [hP] at c1
  have hpl : pl r = (i : Int) := pl_of_mk (by omega) hr
  have HR := Lib.hid hr
  have HP := Lib.hid hpl
  generalize x.1.cnt = n at *
  generalize hL : l.length = L at *
  clear hr hpl h hP hL hi hu
  have i0 : (0 : Int) ≤ (i : Int) := by omega
  have i1 : (i : Int) < (L : Int) := by omega
  go_enter Tryz.func51, Tryz.ntmps51
  go_wp2_with fail
  refine (place_walk r _).mono ?_
  rintro e w' ⟨rfl, rfl⟩
  rw [HP.out]
  go_wp2_with fail
  refine (of_walk i n (by omega) _).mono ?_
  rintro e w' ⟨rfl, rfl⟩
  rw [HR.out]
  go_wp2
  go_ret
  exact ⟨rfl, rfl⟩

end
end Go.Proofs.YtcegianjpifnbaaGreat
namespace Go.Proofs.YtcegianjpifnbaaGreat
open Go.ChangeShapes Go.WideShapes Go.ChangeAt Go.RowKit
set_option linter.unusedVariables false
set_option linter.unusedSimpArgs false
set_option maxRecDepth 20000

def As.fault (S : As) : As := { S with flt := S.flt + 1 }

section
variable {F : Nat → Prop} {w : World} {a : Nat} {S : As} {l : List (Pa × Vs)} {P Q : Value}
theorem Ar.fault (h : Ar false F w a S l P Q) (k : Int) (hk : k = ((S.flt + 1 : Nat) : Int)) : Ar false F (w.setCell ⟨a, 3, none⟩ (.int .i64 k)) a S.fault l P Q := by
  subst hk
  exact h.setHead 3 _ (m := S.most) (f := S.flt + 1) (P' := P) (Q' := Q) (fr := S.fr) rfl rfl h.que h.fque

set_option maxHeartbeats 1000000 in
theorem right_no (h : Ar false F w a S l P Q) {r : Int} (hno : ∀ i, ¬ Hit S r i) (hl : S.pls.length ≤ 70000) (hc : ∀ p ∈ S.pls, p.cnt ≤ 1000000) (hf : S.flt ≤ 1000000) :
    Calls Tryz.prog 51 #[ptr a, .int .i64 r] w fun e w' => e = .returned nilp ∧ Ar false F w' a S.fault l P Q ∧ Only F w w' := by
  obtain ⟨c0, c1, c2, c3⟩ := h.head0
  have z3 := h.free 3
  have hln := h.lenP
  have HA : ∀ k : Int, k = ((S.flt + 1 : Nat) : Int) → Hid (Ar false F (w.setCell ⟨a, 3, none⟩ (.int .i64 k)) a S.fault l P Q ∧ Only F w (w.setCell ⟨a, 3, none⟩ (.int .i64 k))) := fun k hk => ⟨h.fault k hk, Only.set F w (p := ⟨a, 3, none⟩) h.fa _⟩
  have hfl : IntKind.i64.wrap ((S.flt : Int) + 1) = (S.flt : Int) + 1 := IntWalk.i64_in _ (by omega)
  by_cases h0 : 0 ≤ pl r
  · by_cases h1 : pl r < (l.length : Int)
    · obtain ⟨i, hi⟩ : ∃ i : Nat, pl r = (i : Int) := ⟨(pl r).toNat, by omega⟩
      have hil : i < l.length := by omega
      obtain ⟨x, hx⟩ : ∃ x, l[i]? = some x := ⟨_, List.getElem?_eq_getElem hil⟩
      obtain ⟨g, c, rfl, hg, hF, _, e0, e1, _, _, _, _, _, _, _, _, hz⟩ := h.cells0 hx
      have hsp : S.pls[i]? = some x.1 := by rw [h.pls, List.getElem?_map, hx]; rfl
      have hcn : x.1.cnt ≤ 1000000 := hc _ (List.mem_of_getElem? hsp)
      have HP := Lib.hid hi
      cases hu : x.1.used with
      | true =>
        have hmk : mk i x.1.cnt ≠ r := fun e => hno i ⟨_, hsp, hu, e⟩
        have hmk2 : (mk i x.1.cnt == r) = false := by simpa using hmk
        have HMK := Lib.hid hmk2
        rw [hu] at e0
        generalize x.1.cnt = n at *
        generalize hL : l.length = L at *
        have i0 : (0 : Int) ≤ (i : Int) := by omega
        have i1 : (i : Int) < (L : Int) := by omega
        clear hi h0 h1 hno hL hu hsp hx hmk hmk2 h
        go_enter Tryz.func51, Tryz.ntmps51
        go_wp2_with fail
        refine (place_walk r _).mono ?_
        rintro e w' ⟨rfl, rfl⟩
        rw [HP.out]
        go_wp2_with fail
        refine (of_walk i n (by omega) _).mono ?_
        rintro e w' ⟨rfl, rfl⟩
        have hmk3 := HMK.out
        go_wp2
        go_ret
        exact ⟨rfl, (HA _ (by omega)).out⟩
      | false =>
        rw [hu] at e0
        generalize hL : l.length = L at *
        have i0 : (0 : Int) ≤ (i : Int) := by omega
        have i1 : (i : Int) < (L : Int) := by omega
        clear hi h0 h1 hno hL hu hsp hx h
        go_enter Tryz.func51, Tryz.ntmps51
        go_wp2_with fail
        refine (place_walk r _).mono ?_
        rintro e w' ⟨rfl, rfl⟩
        rw [HP.out]
        go_wp2
        go_ret
        exact ⟨rfl, (HA _ (by omega)).out⟩
    · obtain ⟨A, c, rfl⟩ := h.shapeP
      generalize hL : l.length = L at *
      clear hno h hL
      go_enter Tryz.func51, Tryz.ntmps51
      go_wp2_with fail
      refine (place_walk r _).mono ?_
      rintro e w' ⟨rfl, rfl⟩
      go_wp2
      go_ret
      exact ⟨rfl, (HA _ (by omega)).out⟩
  · obtain ⟨A, c, rfl⟩ := h.shapeP
    generalize hL : l.length = L at *
    clear hno h hL
    go_enter Tryz.func51, Tryz.ntmps51
    go_wp2_with fail
    refine (place_walk r _).mono ?_
    rintro e w' ⟨rfl, rfl⟩
    have h2 : decide (0 ≤ pl r) = false := by simp; omega
    go_wp2
    go_ret
    exact ⟨rfl, (HA _ (by omega)).out⟩

theorem right_nil (r : Int) (w : World) : Calls Tryz.prog 51 #[nilp, .int .i64 r] w fun e w' => e = .returned nilp ∧ w = w' := by
  go_enter Tryz.func51, Tryz.ntmps51
  go_wp2
  go_ret
  exact ⟨rfl, rfl⟩

def hasB (m : Nat) (i : Int) : Bool := decide (0 ≤ i ∧ i < (m : Int))
set_option maxHeartbeats 400000 in
theorem has_walk (g o : Nat) (A : Option Addr) (m d : Nat) (i : Int) (w : World) (h : w.cell? ⟨g, o + 7, none⟩ = some (.slice A m d)) (hm : m ≤ 100000) :
    Calls Tryz.prog 52 #[.pointer (some ⟨g, o, none⟩), .int .i64 i] w fun e w' => e = .returned (.bool (hasB m i)) ∧ w = w' := by
  by_cases h0 : 0 ≤ i
  · go_enter Tryz.func52, Tryz.ntmps52
    go_wp2
    go_ret
    refine ⟨ret_bool ?_, rfl⟩
    simp [hasB, h0]
  · have h1 : decide (0 ≤ i) = false := by simp; omega
    go_enter Tryz.func52, Tryz.ntmps52
    go_wp2
    go_ret
    refine ⟨ret_bool ?_, rfl⟩
    simp [hasB]; omega
end
end Go.Proofs.YtcegianjpifnbaaGreat
namespace Go.Proofs.YtcegianjpifnbaaGreat
open Go.ChangeShapes Go.WideShapes Go.ChangeAt Go.RowKit
set_option linter.unusedVariables false
set_option linter.unusedSimpArgs false
set_option maxRecDepth 20000

/-- As many places, uses and faults as can be counted. -/
structure Ok (S : As) : Prop where
  len : S.pls.length ≤ 70000
  cnt : ∀ p ∈ S.pls, p.cnt ≤ 1000000
  flt : S.flt ≤ 1000000
  fr : S.fr.length ≤ 70000

/-- Way k of a place. -/
def wayAt (p : Pa) (k : Int) : Int := if hasB p.ws.length k then p.ws.getD k.toNat 0 else 0
theorem hasB_nat {m : Nat} {k : Int} (h : hasB m k = true) : ∃ j : Nat, k = (j : Int) ∧ j < m := by
  simp [hasB] at h; exact ⟨k.toNat, by omega, by omega⟩

section
variable {F : Nat → Prop} {w : World} {a : Nat} {S : As} {i : Nat} {p : Pa} {r : Int}
/-- What the walks of a right reference take of an arena. -/
theorem open_yes (h : Arn false F w a S) (hlen : S.pls.length ≤ 70000) (hcnt : ∀ p ∈ S.pls, p.cnt ≤ 1000000) (hp : S.pls[i]? = some p) (hu : p.used = true) (hr : mk i p.cnt = r) : ∃ (v : Vs) (l : List (Pa × Vs)) (Q : Value) (g c : Nat), Ar false F w a S l (.slice (some ⟨g, 0, none⟩) l.length c) Q ∧ l[i]? = some (p, v) ∧ g < w.heap.size ∧ F g ∧
    Hid (Calls Tryz.prog 51 #[ptr a, .int .i64 r] w fun e w' => e = .returned (.pointer (some ⟨g, i * 10, none⟩)) ∧ w = w') ∧
    w.cell? ⟨g, i * 10 + 2, none⟩ = some (.bool p.nd.inn) ∧ w.cell? ⟨g, i * 10 + 3, none⟩ = some (.bool p.nd.tag) ∧ w.cell? ⟨g, i * 10 + 4, none⟩ = some v.pv ∧ w.cell? ⟨g, i * 10 + 5, none⟩ = some v.kv ∧ w.cell? ⟨g, i * 10 + 6, none⟩ = some v.zv ∧ w.cell? ⟨g, i * 10 + 7, none⟩ = some v.wv ∧ w.cell? ⟨g, i * 10 + 8, none⟩ = some (.int .i64 p.info) ∧ w.cell? ⟨g, i * 10 + 9, none⟩ = some (.bool p.mark) ∧ ∀ j, w.frozen? ⟨g, j, none⟩ = false := by
  obtain ⟨l, P, Q, h⟩ := h
  obtain ⟨⟨p', v⟩, hx, rfl⟩ := h.at_ hp
  obtain ⟨g, c, rfl, hg, hF, hil, e0, e1, e2, e3, e4, e5, e6, e7, e8, e9, hz⟩ := h.cells0 hx
  exact ⟨v, l, Q, g, c, h, hx, hg, hF, right_yes h hx hu hr hlen (hcnt _ (List.mem_of_getElem? hp)) rfl, e2, e3, e4, e5, e6, e7, e8, e9, hz⟩
theorem open_no (h : Arn false F w a S) (hok : Ok S) (hno : ∀ i, ¬ Hit S r i) : Calls Tryz.prog 51 #[ptr a, .int .i64 r] w fun e w' => e = .returned nilp ∧ Arn false F w' a S.fault ∧ Only F w w' := by
  obtain ⟨l, P, Q, h⟩ := h
  exact (right_no h hno hok.len hok.cnt hok.flt).mono fun e w' ⟨h1, h2, h3⟩ => ⟨h1, ⟨_, _, _, h2⟩, h3⟩
/-- The row of ways of a place. -/
theorem open_ways {l : List (Pa × Vs)} {P Q : Value} {v : Vs} (h : Ar false F w a S l P Q) (hx : l[i]? = some (p, v)) : ∃ A c, v.wv = .slice A p.ws.length c ∧ Sl w A p.ws.length c p.ws ∧ p.ws.length ≤ 100 := by
  have hm := h.mem _ (List.mem_of_getElem? hx)
  obtain ⟨A, c, e, s⟩ := hm.ws.form
  exact ⟨A, c, e, s, hm.few⟩

set_option maxHeartbeats 1000000 in
theorem way_yes (h : Arn false F w a S) (hok : Ok S) (hp : S.pls[i]? = some p) (hu : p.used = true) (hr : mk i p.cnt = r) (k : Int) :
    Calls Tryz.prog 33 #[ptr a, .int .i64 r, .int .i64 k] w fun e w' => e = .returned (.int .i64 (wayAt p k)) ∧ w = w' := by
  obtain ⟨v, l, Q, g, c, hA, hx, hg, hF, HR, e2, e3, e4, e5, e6, e7, e8, e9, hz⟩ := open_yes h hok.len hok.cnt hp hu hr
  obtain ⟨A, c', hv, hs, hfew⟩ := open_ways hA hx
  rw [hv] at e7
  clear h hp hu hr hA hx hz e2 e3 e4 e5 e6 e8 e9
  cases hh : hasB p.ws.length k with
  | false =>
    have HH := Lib.hid hh
    have HW : Hid (wayAt p k = 0) := by show _ = _; rw [wayAt, hh]; rfl
    clear hh hs
    go_enter Tryz.func33, Tryz.ntmps33
    go_wp2_with fail
    refine HR.out.mono ?_
    rintro e w' ⟨rfl, rfl⟩
    go_wp2_with fail
    refine (has_walk g (i * 10) _ _ _ k w e7 (by omega)).mono ?_
    rintro e w' ⟨rfl, rfl⟩
    rw [HH.out]
    go_wp2
    go_ret
    exact ⟨ret_int HW.out.symm, rfl⟩
  | true =>
    have HH := Lib.hid hh
    obtain ⟨j, rfl, hj⟩ := hasB_nat hh
    obtain ⟨b, off, rfl, hb, c1⟩ := hs.at0 hj
    have HW : Hid (wayAt p j = p.ws.getD j 0) := by show _ = _; rw [wayAt, hh]; simp
    have j0 : (0 : Int) ≤ (j : Int) := by omega
    have j1 : (j : Int) < (p.ws.length : Int) := by omega
    clear hh hs hv
    generalize p.ws.getD j 0 = z at *
    generalize p.ws.length = L at *
    go_enter Tryz.func33, Tryz.ntmps33
    go_wp2_with fail
    refine HR.out.mono ?_
    rintro e w' ⟨rfl, rfl⟩
    go_wp2_with fail
    refine (has_walk g (i * 10) _ _ _ _ w e7 (by omega)).mono ?_
    rintro e w' ⟨rfl, rfl⟩
    rw [HH.out]
    go_wp2
    go_ret
    exact ⟨ret_int HW.out.symm, rfl⟩

set_option maxHeartbeats 1000000 in
theorem swapWay_not (h : Arn false F w a S) (hok : Ok S) (hp : S.pls[i]? = some p) (hu : p.used = true) (hr : mk i p.cnt = r) (k old now : Int) (hno : ¬ (hasB p.ws.length k = true ∧ wayAt p k = old)) :
    Calls Tryz.prog 39 #[ptr a, .int .i64 r, .int .i64 k, .int .i64 old, .int .i64 now] w fun e w' => e = .returned (.bool false) ∧ w = w' := by
  obtain ⟨v, l, Q, g, c, hA, hx, hg, hF, HR, e2, e3, e4, e5, e6, e7, e8, e9, hz⟩ := open_yes h hok.len hok.cnt hp hu hr
  obtain ⟨A, c', hv, hs, hfew⟩ := open_ways hA hx
  rw [hv] at e7
  clear h hp hu hr hA hx hz e2 e3 e4 e5 e6 e8 e9
  cases hh : hasB p.ws.length k with
  | false =>
    have HH := Lib.hid hh
    clear hh hs hno
    go_enter Tryz.func39, Tryz.ntmps39
    go_wp2_with fail
    refine HR.out.mono ?_
    rintro e w' ⟨rfl, rfl⟩
    go_wp2_with fail
    refine (has_walk g (i * 10) _ _ _ k w e7 (by omega)).mono ?_
    rintro e w' ⟨rfl, rfl⟩
    rw [HH.out]
    go_wp2
    go_ret
    exact ⟨rfl, rfl⟩
  | true =>
    have HH := Lib.hid hh
    obtain ⟨j, rfl, hj⟩ := hasB_nat hh
    obtain ⟨b, off, rfl, hb, c1⟩ := hs.at0 hj
    have hne : (p.ws.getD j 0 != old) = true := by
      simp only [bne_iff_ne]
      intro e
      exact hno ⟨hh, by rw [wayAt, hh]; simpa using e⟩
    have j0 : (0 : Int) ≤ (j : Int) := by omega
    have j1 : (j : Int) < (p.ws.length : Int) := by omega
    clear hh hs hv hno
    generalize p.ws.getD j 0 = z at *
    generalize p.ws.length = L at *
    go_enter Tryz.func39, Tryz.ntmps39
    go_wp2_with fail
    refine HR.out.mono ?_
    rintro e w' ⟨rfl, rfl⟩
    go_wp2_with fail
    refine (has_walk g (i * 10) _ _ _ _ w e7 (by omega)).mono ?_
    rintro e w' ⟨rfl, rfl⟩
    rw [HH.out]
    go_wp2
    go_ret
    exact ⟨rfl, rfl⟩

set_option maxHeartbeats 1000000 in
theorem swapWay_do (h : Arn false F w a S) (hok : Ok S) (hp : S.pls[i]? = some p) (hu : p.used = true) (hr : mk i p.cnt = r) (j : Nat) (old now : Int) (hj : j < p.ws.length) (hold : wayAt p j = old) :
    Calls Tryz.prog 39 #[ptr a, .int .i64 r, .int .i64 (j : Int), .int .i64 old, .int .i64 now] w fun e w' => e = .returned (.bool true) ∧ Arn false F w' a { S with pls := S.pls.set i { p with ws := p.ws.set j now } } ∧ Only F w w' := by
  obtain ⟨v, l, Q, g, c, hA, hx, hg, hF, HR, e2, e3, e4, e5, e6, e7, e8, e9, hz⟩ := open_yes h hok.len hok.cnt hp hu hr
  obtain ⟨b, c', hv, hFb, hbl, hcell, hfz, hAr⟩ := hA.setWay hx hj now
  obtain ⟨A, c'', hv', hs, hfew⟩ := open_ways hA hx
  rw [hv] at e7
  have hh : hasB p.ws.length (j : Int) = true := by simp [hasB]; omega
  have hold2 : p.ws[j] = old := by rw [← hold, wayAt, hh]; simp [List.getD, hj]
  rw [hold2] at hcell
  have hne : (old != old) = false := by simp
  have HH := Lib.hid hh
  have HZ : Hid (Arn false F (w.setCell ⟨b, j, none⟩ (.int .i64 now)) a { S with pls := S.pls.set i { p with ws := p.ws.set j now } }) := ⟨_, _, _, hAr⟩
  have HO : Hid (Only F w (w.setCell ⟨b, j, none⟩ (.int .i64 now))) := Only.set F w (p := ⟨b, j, none⟩) hFb _
  have j0 : (0 : Int) ≤ (j : Int) := by omega
  have j1 : (j : Int) < (p.ws.length : Int) := by omega
  have hL : p.ws.length ≤ 100000 := by omega
  clear h hp hu hr hA hx hz e2 e3 e4 e5 e6 e8 e9 hh hold2 hold hAr hs hv hv'
  go_enter Tryz.func39, Tryz.ntmps39
  go_wp2_with fail
  refine HR.out.mono ?_
  rintro e w' ⟨rfl, rfl⟩
  go_wp2_with fail
  refine (has_walk g (i * 10) _ _ _ _ w e7 hL).mono ?_
  rintro e w' ⟨rfl, rfl⟩
  rw [HH.out]
  go_wp2
  go_ret
  exact ⟨rfl, HZ.out, HO.out⟩

set_option maxHeartbeats 1000000 in
theorem info_yes (h : Arn false F w a S) (hok : Ok S) (hp : S.pls[i]? = some p) (hu : p.used = true) (hr : mk i p.cnt = r) :
    Calls Tryz.prog 134 #[ptr a, .int .i64 r] w fun e w' => e = .returned (.int .i64 p.info) ∧ w = w' := by
  obtain ⟨v, l, Q, g, c, hA, hx, hg, hF, HR, e2, e3, e4, e5, e6, e7, e8, e9, hz⟩ := open_yes h hok.len hok.cnt hp hu hr
  clear h hp hu hr hA hx hz e2 e3 e4 e5 e6 e7 e9
  go_enter Tryz.func134, Tryz.ntmps134
  go_wp2_with fail
  refine HR.out.mono ?_
  rintro e w' ⟨rfl, rfl⟩
  go_wp2
  go_ret
  exact ⟨rfl, rfl⟩

set_option maxHeartbeats 1000000 in
theorem mark_yes (h : Arn false F w a S) (hok : Ok S) (hp : S.pls[i]? = some p) (hu : p.used = true) (hr : mk i p.cnt = r) :
    Calls Tryz.prog 132 #[ptr a, .int .i64 r] w fun e w' => e = .returned (.bool p.mark) ∧ w = w' := by
  obtain ⟨v, l, Q, g, c, hA, hx, hg, hF, HR, e2, e3, e4, e5, e6, e7, e8, e9, hz⟩ := open_yes h hok.len hok.cnt hp hu hr
  clear h hp hu hr hA hx hz e2 e3 e4 e5 e6 e7 e8
  go_enter Tryz.func132, Tryz.ntmps132
  go_wp2_with fail
  refine HR.out.mono ?_
  rintro e w' ⟨rfl, rfl⟩
  go_wp2
  go_ret
  exact ⟨rfl, rfl⟩

set_option maxHeartbeats 1000000 in
theorem setMark_yes (h : Arn false F w a S) (hok : Ok S) (hp : S.pls[i]? = some p) (hu : p.used = true) (hr : mk i p.cnt = r) :
    Calls Tryz.prog 161 #[ptr a, .int .i64 r] w fun e w' => e = .returned (.tuple #[]) ∧ Arn false F w' a { S with pls := S.pls.set i { p with mark := true } } ∧ Only F w w' := by
  obtain ⟨v, l, Q, g, c, hA, hx, hg, hF, HR, e2, e3, e4, e5, e6, e7, e8, e9, hz⟩ := open_yes h hok.len hok.cnt hp hu hr
  have HZ : Hid (Arn false F (w.setCell ⟨g, i * 10 + 9, none⟩ (.bool true)) a { S with pls := S.pls.set i { p with mark := true } }) := ⟨_, _, _, hA.setCell1 hx rfl (j := 9) (by omega) (.bool true) { p with mark := true } rfl rfl rfl⟩
  have HO : Hid (Only F w (w.setCell ⟨g, i * 10 + 9, none⟩ (.bool true))) := Only.set F w (p := ⟨g, i * 10 + 9, none⟩) hF _
  have z9 := hz (i * 10 + 9)
  clear h hp hu hr hA hx hz e2 e3 e4 e5 e6 e7 e8
  go_enter Tryz.func161, Tryz.ntmps161
  go_wp2_with fail
  refine HR.out.mono ?_
  rintro e w' ⟨rfl, rfl⟩
  go_wp2
  (try simp only [Exit.inBlock, Exit.then])
  refine bodyPost_end (results_none rfl _ _ _) rfl ?_
  exact ⟨rfl, HZ.out, HO.out⟩

set_option maxHeartbeats 1000000 in
theorem swapInfo_yes (h : Arn false F w a S) (hok : Ok S) (hp : S.pls[i]? = some p) (hu : p.used = true) (hr : mk i p.cnt = r) (old now : Int) (ho : p.info = old) :
    Calls Tryz.prog 152 #[ptr a, .int .i64 r, .int .i64 old, .int .i64 now] w fun e w' => e = .returned (.bool true) ∧ Arn false F w' a { S with pls := S.pls.set i { p with info := now } } ∧ Only F w w' := by
  obtain ⟨v, l, Q, g, c, hA, hx, hg, hF, HR, e2, e3, e4, e5, e6, e7, e8, e9, hz⟩ := open_yes h hok.len hok.cnt hp hu hr
  have HZ : Hid (Arn false F (w.setCell ⟨g, i * 10 + 8, none⟩ (.int .i64 now)) a { S with pls := S.pls.set i { p with info := now } }) := ⟨_, _, _, hA.setCell1 hx rfl (j := 8) (by omega) (.int .i64 now) { p with info := now } rfl rfl rfl⟩
  have HO : Hid (Only F w (w.setCell ⟨g, i * 10 + 8, none⟩ (.int .i64 now))) := Only.set F w (p := ⟨g, i * 10 + 8, none⟩) hF _
  have z8 := hz (i * 10 + 8)
  rw [ho] at e8
  have hne : (old != old) = false := by simp
  clear h hp hu hr hA hx hz e2 e3 e4 e5 e6 e7 e9 ho
  go_enter Tryz.func152, Tryz.ntmps152
  go_wp2_with fail
  refine HR.out.mono ?_
  rintro e w' ⟨rfl, rfl⟩
  go_wp2
  go_ret
  exact ⟨rfl, HZ.out, HO.out⟩

set_option maxHeartbeats 1000000 in
theorem swapInfo_not (h : Arn false F w a S) (hok : Ok S) (hp : S.pls[i]? = some p) (hu : p.used = true) (hr : mk i p.cnt = r) (old now : Int) (ho : p.info ≠ old) :
    Calls Tryz.prog 152 #[ptr a, .int .i64 r, .int .i64 old, .int .i64 now] w fun e w' => e = .returned (.bool false) ∧ w = w' := by
  obtain ⟨v, l, Q, g, c, hA, hx, hg, hF, HR, e2, e3, e4, e5, e6, e7, e8, e9, hz⟩ := open_yes h hok.len hok.cnt hp hu hr
  have hne : (p.info != old) = true := by simpa using ho
  clear h hp hu hr hA hx hz e2 e3 e4 e5 e6 e7 e9 ho
  generalize p.info = z at *
  go_enter Tryz.func152, Tryz.ntmps152
  go_wp2_with fail
  refine HR.out.mono ?_
  rintro e w' ⟨rfl, rfl⟩
  go_wp2
  go_ret
  exact ⟨rfl, rfl⟩

set_option maxHeartbeats 400000 in
theorem way_no (h : Arn false F w a S) (hok : Ok S) (hno : ∀ i, ¬ Hit S r i) (k : Int) :
    Calls Tryz.prog 33 #[ptr a, .int .i64 r, .int .i64 k] w fun e w' => e = .returned (.int .i64 0) ∧ Arn false F w' a S.fault ∧ Only F w w' := by
  have HR := Lib.hid (open_no h hok hno)
  clear h hno
  go_enter Tryz.func33, Tryz.ntmps33
  go_wp2_with fail
  refine HR.out.mono ?_
  rintro e w' ⟨rfl, h2, h3⟩
  go_wp2
  go_ret
  exact ⟨rfl, h2, h3⟩
theorem way_nil (r : Int) (k : Int) (w : World) :
    Calls Tryz.prog 33 #[nilp, .int .i64 r, .int .i64 k] w fun e w' => e = .returned (.int .i64 0) ∧ w = w' := by
  go_enter Tryz.func33, Tryz.ntmps33
  go_wp2_with fail
  refine (right_nil r _).mono ?_
  rintro e w' ⟨rfl, rfl⟩
  go_wp2
  go_ret
  exact ⟨rfl, rfl⟩

set_option maxHeartbeats 400000 in
theorem swapWay_no (h : Arn false F w a S) (hok : Ok S) (hno : ∀ i, ¬ Hit S r i) (k old now : Int) :
    Calls Tryz.prog 39 #[ptr a, .int .i64 r, .int .i64 k, .int .i64 old, .int .i64 now] w fun e w' => e = .returned (.bool false) ∧ Arn false F w' a S.fault ∧ Only F w w' := by
  have HR := Lib.hid (open_no h hok hno)
  clear h hno
  go_enter Tryz.func39, Tryz.ntmps39
  go_wp2_with fail
  refine HR.out.mono ?_
  rintro e w' ⟨rfl, h2, h3⟩
  go_wp2
  go_ret
  exact ⟨rfl, h2, h3⟩
set_option maxHeartbeats 400000 in
theorem info_no (h : Arn false F w a S) (hok : Ok S) (hno : ∀ i, ¬ Hit S r i)  :
    Calls Tryz.prog 134 #[ptr a, .int .i64 r] w fun e w' => e = .returned (.int .i64 0) ∧ Arn false F w' a S.fault ∧ Only F w w' := by
  have HR := Lib.hid (open_no h hok hno)
  clear h hno
  go_enter Tryz.func134, Tryz.ntmps134
  go_wp2_with fail
  refine HR.out.mono ?_
  rintro e w' ⟨rfl, h2, h3⟩
  go_wp2
  go_ret
  exact ⟨rfl, h2, h3⟩
set_option maxHeartbeats 400000 in
theorem swapInfo_no (h : Arn false F w a S) (hok : Ok S) (hno : ∀ i, ¬ Hit S r i) (old now : Int) :
    Calls Tryz.prog 152 #[ptr a, .int .i64 r, .int .i64 old, .int .i64 now] w fun e w' => e = .returned (.bool false) ∧ Arn false F w' a S.fault ∧ Only F w w' := by
  have HR := Lib.hid (open_no h hok hno)
  clear h hno
  go_enter Tryz.func152, Tryz.ntmps152
  go_wp2_with fail
  refine HR.out.mono ?_
  rintro e w' ⟨rfl, h2, h3⟩
  go_wp2
  go_ret
  exact ⟨rfl, h2, h3⟩
set_option maxHeartbeats 400000 in
theorem mark_no (h : Arn false F w a S) (hok : Ok S) (hno : ∀ i, ¬ Hit S r i)  :
    Calls Tryz.prog 132 #[ptr a, .int .i64 r] w fun e w' => e = .returned (.bool false) ∧ Arn false F w' a S.fault ∧ Only F w w' := by
  have HR := Lib.hid (open_no h hok hno)
  clear h hno
  go_enter Tryz.func132, Tryz.ntmps132
  go_wp2_with fail
  refine HR.out.mono ?_
  rintro e w' ⟨rfl, h2, h3⟩
  go_wp2
  go_ret
  exact ⟨rfl, h2, h3⟩
set_option maxHeartbeats 400000 in
theorem setMark_no (h : Arn false F w a S) (hok : Ok S) (hno : ∀ i, ¬ Hit S r i)  :
    Calls Tryz.prog 161 #[ptr a, .int .i64 r] w fun e w' => e = .returned (.tuple #[]) ∧ Arn false F w' a S.fault ∧ Only F w w' := by
  have HR := Lib.hid (open_no h hok hno)
  clear h hno
  go_enter Tryz.func161, Tryz.ntmps161
  go_wp2_with fail
  refine HR.out.mono ?_
  rintro e w' ⟨rfl, h2, h3⟩
  go_wp2
  ((try simp only [Exit.inBlock, Exit.then]); refine bodyPost_end (results_none rfl _ _ _) rfl ?_)
  exact ⟨rfl, h2, h3⟩
end
end Go.Proofs.YtcegianjpifnbaaGreat
namespace Go.Proofs.YtcegianjpifnbaaGreat
open Go Go.RowKit

section
variable {P : Program} {ops : Array Oper} {Q : Exit → Act → World → Prop} {md : Region.Mode} {C : World → Prop} {st : Nat → Bool} {i j : Nat} {listed : Array Bool}

/-- Whatever order is picked from here on; C holds behind every operation but those of st. -/
def anyT (P : Program) (md : Region.Mode) (ops : Array Oper) (Q : Exit → Act → World → Prop) (C : World → Prop) (st : Nat → Bool) : Nat → Array Bool → Act → World → Prop
  | 0, listed, a, w => Region.ready md ops listed = [] ∧ Q .normal a w
  | n + 1, listed, a, w => (Region.ready md ops listed = [] → Q .normal a w) ∧
    ∀ j ∈ Region.ready md ops listed, wpOp P ops Q j (fun a' w' => (st j = false → C w') ∧ anyT P md ops Q C st n (listed.setIfInBounds j true) a' w') a w

/-- That is more than is asked of a region. -/
theorem any_of_T (n : Nat) : ∀ (listed : Array Bool) (a : Act) (w : World), anyT P md ops Q C st n listed a w → wpAny P md ops Q n listed a w := by
  induction n with
  | zero => exact fun _ _ _ h => h
  | succ n ih => exact fun _ _ _ h => ⟨h.1, fun j hj => wpOp_mono (fun a' w' k => ih _ a' w' k.2) (h.2 j hj)⟩

/-- What may come up hasn't; what it waits for has. -/
theorem ready_un (h : i ∈ Region.ready md ops listed) : listed.getD i true = false := (mem_ready.1 h).1
theorem ready_waits {o : Oper} (h : j ∈ Region.ready md ops listed) (ho : ops[j]? = some o) {e : Edge} (he : e ∈ o.after) (hb : Region.binds md e = true) : listed.getD e.on false = true := by
  obtain ⟨_, o', ho', hall⟩ := mem_ready.1 h
  obtain rfl : o = o' := by rw [ho] at ho'; exact Option.some.inj ho'
  exact hall e he hb
theorem both_no (h0 : listed.getD i true = false) (h1 : listed.getD i false = true) : False := by
  by_cases hs : i < listed.size
  · simp [Array.getD, hs] at h0 h1
    simp [h0] at h1
  · simp [Array.getD, hs] at h0
/-- Of two that may come up neither waits for the other. -/
theorem ready_free {o : Oper} (hi : i ∈ Region.ready md ops listed) (hj : j ∈ Region.ready md ops listed) (ho : ops[j]? = some o) : ∀ e ∈ o.after, Region.binds md e = true → e.on ≠ i :=
  fun _ he hb heq => both_no (ready_un hi) (heq ▸ ready_waits hj ho he hb)

/-- Those of st wait for number i. -/
def waits (md : Region.Mode) (ops : Array Oper) (st : Nat → Bool) (i : Nat) : Bool := (List.range ops.size).all fun s => !st s || ((ops[s]?).any fun o => o.after.any fun e => Region.binds md e && e.on == i)
theorem not_st (hw : waits md ops st i = true) (hi : i ∈ Region.ready md ops listed) (hj : j ∈ Region.ready md ops listed) : st j = false := by
  cases hst : st j with
  | false => rfl
  | true =>
    exfalso
    obtain ⟨_, o, ho, _⟩ := mem_ready.1 hj
    unfold waits at hw
    rw [List.all_eq_true] at hw
    have := hw j (List.mem_range.2 (Array.getElem?_eq_some_iff.1 ho).1)
    rw [hst, ho] at this
    simp only [Bool.not_true, Bool.false_or, Option.any_some, Array.any_eq_true, Bool.and_eq_true, beq_iff_eq] at this
    obtain ⟨k, hk, hb, hon⟩ := this
    exact ready_free hi hj ho _ (Array.getElem_mem hk) hb hon

/-- Whatever may still come ahead of number i doesn't look at what it yields. -/
def Loose (md : Region.Mode) (ops : Array Oper) (oi : Oper) (i : Nat) (listed : Array Bool) : Prop :=
  ∀ j oj, ops[j]? = some oj → j ≠ i → listed.getD j true = false → (∀ e ∈ oj.after, Region.binds md e = true → e.on ≠ i) → oi.apart ops oj = true
theorem Loose.more {oi : Oper} (h : Loose md ops oi i listed) (j : Nat) : Loose md ops oi i (listed.setIfInBounds j true) := by
  intro k ok hk hki hun hno
  refine h k ok hk hki ?_ hno
  rcases Nat.decEq j k with hne | rfl
  · rwa [getD_set_ne true hne] at hun
  · by_cases hs : j < listed.size
    · simp [Array.getD, hs] at hun
    · simp [Array.getD, hs] at hun

/-- Take number i first: it yields v in every world that meets C, and number st waits for it. -/
theorem take_now {oi : Oper} {v : Value} (hi : ops[i]? = some oi) (hsel : ∀ (j : Nat) (o : Oper) cs b, ops[j]? = some o → o.op ≠ .select cs b)
    (hQ : ∀ c a w, Q (.panic c) (a.put oi.dst v) w → Q (.panic c) a w) (hwt : waits md ops st i = true) (n : Nat) :
    ∀ (listed : Array Bool) (a : Act) (w : World), Loose md ops oi i listed → i ∈ Region.ready md ops listed → YieldsIf P ops C oi v a → C w →
      anyT P md ops Q C st n (listed.setIfInBounds i true) (a.put oi.dst v) w → anyT P md ops Q C st (n + 1) listed a w := by
  have one : ∀ m (listed : Array Bool) (a : Act) (w : World), YieldsIf P ops C oi v a → C w → anyT P md ops Q C st m (listed.setIfInBounds i true) (a.put oi.dst v) w →
      wpOp P ops Q i (fun a' w' => (st i = false → C w') ∧ anyT P md ops Q C st m (listed.setIfInBounds i true) a' w') a w := fun m l a w hy hC H => hy.wpOp hi hC ⟨fun _ => hC, H⟩
  induction n with
  | zero =>
    refine fun l a w _ hr hy hC H => ⟨fun h => absurd hr (by rw [h]; simp), fun j hj => ?_⟩
    by_cases e : j = i
    · subst e; exact one 0 l a w hy hC H
    · exact absurd (ready_mono hj e) (by rw [H.1]; simp)
  | succ n ih =>
    refine fun l a w hl hr hy hC H => ⟨fun h => absurd hr (by rw [h]; simp), fun j hj => ?_⟩
    by_cases e : j = i
    · subst e; exact one (n + 1) l a w hy hC H
    · obtain ⟨hun, oj, hoj, _⟩ := mem_ready.1 hj
      have hst := not_st hwt hr hj
      refine wpOp_mono (fun a' w' k => ?_) (wpOp_putIf hoj (hl j oj hoj e hun (ready_free hr hj hoj)) (fun cs b => hsel i oi cs b hi) (fun cs b => hsel j oj cs b hoj) hQ hy (H.2 j (ready_mono hj e)))
      obtain ⟨hy', hC', H'⟩ := k
      rw [Array.setIfInBounds_comm _ _ (Ne.symm e)] at H'
      exact ⟨hC', ih _ a' w' (hl.more j) (ready_mono hr (Ne.symm e)) hy' (hC' hst) H'⟩

theorem takeT {oi : Oper} {v : Value} {n : Nat} {a : Act} {w : World} (hi : ops[i]? = some oi)
    (hs : Region.noSelect ops = true) (hf : Region.free md ops listed i = true) (hr : (Region.ready md ops listed).contains i = true) (hwt : waits md ops st i = true)
    (hQ : ∀ c a w, Q (.panic c) (a.put oi.dst v) w → Q (.panic c) a w) (hC : C w) (hw : Region.wanted oi (yielded ops a.tmps) = true) (hy : ∀ w, C w → (execOp a.eval oi).run P w = .ok (.value v) w)
    (h : anyT P md ops Q C st n (listed.setIfInBounds i true) (a.put oi.dst v) w) : anyT P md ops Q C st (n + 1) listed a w :=
  take_now hi (Region.noSelect_spec hs) hQ hwt n listed a w (Region.free_spec hi hf) (List.contains_iff_mem.1 hr) (.inl ⟨hw, hy⟩) hC h

/-- Only number i may come up. -/
theorem oneT {o : Oper} {n : Nat} {a : Act} {w : World} (hr : Region.ready md ops listed = [i]) (hi : ops[i]? = some o) (hw : Region.wanted o (yielded ops a.tmps) = true)
    (h : ∀ K : Act → World → Prop, Hid (∀ a' w', (st i = false → C w') → anyT P md ops Q C st n (listed.setIfInBounds i true) a' w' → K a' w') → Oper.wp P o a w K Q) : anyT P md ops Q C st (n + 1) listed a w := by
  refine ⟨fun h0 => (by rw [hr] at h0; cases h0), fun j hj => ?_⟩
  rw [hr] at hj
  obtain rfl : j = i := by simpa using hj
  exact wpOp_step hi fun K hK => by rw [if_pos hw]; exact h K fun a' w' h1 h2 => hK a' w' ⟨h1, h2⟩

/-- Two may come up. -/
theorem twoT {o o' : Oper} {n : Nat} {a : Act} {w : World} (hr : Region.ready md ops listed = [i, j]) (hi : ops[i]? = some o) (hj : ops[j]? = some o') (hw : Region.wanted o (yielded ops a.tmps) = true) (hw' : Region.wanted o' (yielded ops a.tmps) = true)
    (h : ∀ K : Act → World → Prop, Hid (∀ a' w', (st i = false → C w') → anyT P md ops Q C st n (listed.setIfInBounds i true) a' w' → K a' w') → Oper.wp P o a w K Q)
    (h' : ∀ K : Act → World → Prop, Hid (∀ a' w', (st j = false → C w') → anyT P md ops Q C st n (listed.setIfInBounds j true) a' w' → K a' w') → Oper.wp P o' a w K Q) : anyT P md ops Q C st (n + 1) listed a w := by
  refine ⟨fun h0 => (by rw [hr] at h0; cases h0), fun k hk => ?_⟩
  rw [hr] at hk
  simp only [List.mem_cons, List.not_mem_nil, or_false] at hk
  rcases hk with rfl | rfl
  · exact wpOp_step hi fun K hK => by rw [if_pos hw]; exact h K fun a' w' h1 h2 => hK a' w' ⟨h1, h2⟩
  · exact wpOp_step hj fun K hK => by rw [if_pos hw']; exact h' K fun a' w' h1 h2 => hK a' w' ⟨h1, h2⟩

theorem doneT {n : Nat} {a : Act} {w : World} (hr : Region.ready md ops listed = []) (h : Q .normal a w) : anyT P md ops Q C st n listed a w := by
  cases n with
  | zero => exact ⟨hr, h⟩
  | succ n => exact ⟨fun _ => h, by rw [hr]; simp⟩

/-- More may be held from here on. -/
theorem narrowT {C' : World → Prop} (hc : ∀ w, C w → C' w) (n : Nat) : ∀ (listed : Array Bool) (a : Act) (w : World), anyT P md ops Q C st n listed a w → anyT P md ops Q C' st n listed a w := by
  induction n with
  | zero => exact fun _ _ _ h => h
  | succ n ih => exact fun _ _ _ h => ⟨h.1, fun j hj => wpOp_mono (fun a' w' k => ⟨fun e => hc w' (k.1 e), ih _ a' w' k.2⟩) (h.2 j hj)⟩

theorem region_T (st : Nat → Bool) (C : World → Prop) {id : Nat} {a : Act} {w : World} (hm : P.follows .mixedOrders = true)
    (h : anyT P .any ops Q C st ops.size (Array.replicate ops.size false) a w.drew) : (Code.region id ops true).wp P Q a w :=
  wp_region_any hm (any_of_T _ _ _ _ h)
end
end Go.Proofs.YtcegianjpifnbaaGreat
namespace Go.Proofs.YtcegianjpifnbaaGreat
open Go.ChangeShapes Go.WideShapes Go.ChangeAt Go.RowKit
set_option linter.unusedVariables false
set_option linter.unusedSimpArgs false
set_option maxRecDepth 20000

section
variable {P : Program} {ops : Array Oper} {Q : Exit → Act → World → Prop} {md : Region.Mode} {C : World → Prop} {st i j : Nat} {listed : Array Bool}
end

/-- A node as a value. -/
abbrev ndv (x y : Bool) (pv kv zv : Value) : Value := .agg #[.bool x, .bool y, pv, kv, zv]
/-- A node of its own memory. -/
def MadeN (w : World) (nd : Nd) (e : Ending) (w' : World) : Prop :=
  ∃ pv kv zv, e = .returned (ndv nd.inn nd.tag pv kv zv) ∧ Prs w.heap.size w' pv nd.ps ∧ Row 2 w.heap.size w' kv nd.ks ∧ Row 53 w.heap.size w' zv nd.zs ∧ Below w.heap.size w w'
/-- A variable of five cells. -/
def Five (w : World) (b : Nat) (x y : Bool) (pv kv zv : Value) : Prop := w.heap[b]? = some (.cells #[.bool x, .bool y, pv, kv, zv] 29 (0, 0))
section
variable {w w' : World} {b : Nat} {x y : Bool} {pv kv zv : Value}
theorem Five.cells (h : Five w b x y pv kv zv) : w.cell? ⟨b, 0, none⟩ = some (.bool x) ∧ w.cell? ⟨b, 1, none⟩ = some (.bool y) ∧ w.cell? ⟨b, 2, none⟩ = some pv ∧ w.cell? ⟨b, 3, none⟩ = some kv ∧ w.cell? ⟨b, 4, none⟩ = some zv := by
  refine ⟨?_, ?_, ?_, ?_, ?_⟩ <;> (rw [cell_of_row w b _ _ _ (0, 0) h]; rfl)
theorem Five.free (h : Five w b x y pv kv zv) (j : Nat) : w.frozen? ⟨b, j, none⟩ = false := frozen_of_row w b j _ _ h
theorem Five.below (h : Five w b x y pv kv zv) (hb : Below w.heap.size w w') : Five w' b x y pv kv zv := (hb.block b (Array.getElem?_eq_some_iff.1 h).1).trans h
theorem Five.lt (h : Five w b x y pv kv zv) : b < w.heap.size := (Array.getElem?_eq_some_iff.1 h).1
theorem Five.off (h : Five w b x y pv kv zv) {p : Addr} (hp : b ≠ p.block) (u : Value) : Five (w.setCell p u) b x y pv kv zv := (heap_setCell_other w p b u hp).trans h
theorem Five.set2 (h : Five w b x y pv kv zv) (u : Value) : Five (w.setCell ⟨b, 2, none⟩ u) b x y u kv zv := heap_setCell_same w b 2 _ _ u h
theorem Five.set3 (h : Five w b x y pv kv zv) (u : Value) : Five (w.setCell ⟨b, 3, none⟩ u) b x y pv u zv := heap_setCell_same w b 3 _ _ u h
theorem Five.set4 (h : Five w b x y pv kv zv) (u : Value) : Five (w.setCell ⟨b, 4, none⟩ u) b x y pv kv u := heap_setCell_same w b 4 _ _ u h
theorem Five.new (w : World) {b : Nat} (hb : w.heap.size = b) (x y : Bool) (pv kv zv : Value) : Five (w.alloc (.cells #[.bool x, .bool y, pv, kv, zv] 29)) b x y pv kv zv := by subst hb; exact heap_alloc_new w _
end
theorem load_five {w : World} {R : Nat} {x y : Bool} {pv kv zv : Value} (e0 : w.cell? ⟨R, 0, none⟩ = some (.bool x)) (e1 : w.cell? ⟨R, 1, none⟩ = some (.bool y)) (e2 : w.cell? ⟨R, 2, none⟩ = some pv) (e3 : w.cell? ⟨R, 3, none⟩ = some kv) (e4 : w.cell? ⟨R, 4, none⟩ = some zv) :
    (loadVar 29 ⟨R, 0, none⟩).run Tryz.prog w = .ok (ndv x y pv kv zv) w := by
  simp [go_sem, e0, e1, e2, e3, e4]
theorem results_five {fn : Func} {t : Tmp} {R : Nat} {x y : Bool} {pv kv zv : Value} {tmps : Array Value} {w : World} (h : fn.results = #[.cell t 29]) (ht : tmps.getD t undef = .pointer (some ⟨R, 0, none⟩))
    (h5 : Five w R x y pv kv zv) : (results fn tmps).run Tryz.prog w = .ok (ndv x y pv kv zv) w := by
  obtain ⟨e0, e1, e2, e3, e4⟩ := h5.cells
  have := load_five e0 e1 e2 e3 e4
  have ht' : tmps[t]?.getD undef = .pointer (some ⟨R, 0, none⟩) := by simpa using ht
  simp [results, h, ht', asAddr, this]

/-- The world behind a box for the node and a variable for the result. -/
theorem boxed5 (w : World) (x y : Bool) (pv kv zv : Value) : ∃ (W : World) (R : Nat), (w.alloc (.cells #[.bool x, .bool y, pv, kv, zv] 29)).alloc (.cells #[.bool false, .bool false, .slice none 0 0, .slice none 0 0, .slice none 0 0] 29) = W ∧ w.heap.size + 1 = R ∧ Below w.heap.size w W ∧ R < W.heap.size ∧
    Five W w.heap.size x y pv kv zv ∧ Five W R false false (.slice none 0 0) (.slice none 0 0) (.slice none 0 0) ∧ w.heap.size < R ∧ w.heap.size ≠ R ∧ R ≠ w.heap.size :=
  ⟨_, _, rfl, rfl, ((Below.refl _ w).alloc (Nat.le_refl _) _).alloc (by simp) _, by simp, (Five.new w rfl x y pv kv zv).below (below_new _ _), Five.new _ (by simp) _ _ _ _ _, by omega, by omega, by omega⟩
/-- A slice of one is built. -/
theorem stepB (cw : World) (v : Value) (t : TypeId) : ∃ (X : World) (b : Nat), cw.alloc (.cells #[v] t) = X ∧ cw.heap.size = b ∧ Below cw.heap.size cw X ∧ X.cell? ⟨b, 0, none⟩ = some v :=
  ⟨_, _, rfl, rfl, below_new _ _, c_new rfl rfl⟩
theorem Prs.set_below {base : Nat} {w : World} {v : Value} {l : List (Int × Int)} (h : Prs base w v l) {p : Addr} (hp : p.block < base) (u : Value) : Prs base (w.setCell p u) v l := ownsRow_setCell_below h hp u

/-- The node's rows, stored where the result stands. -/
theorem same_end {w W V X : World} {b R : Nat} {x y : Bool} {pv kv zv k0 z0 r2 r3 r4 : Value} {ps : List (Int × Int)} {ks zs : List Int} {r0 r1 : Bool} (hp : Prs W.heap.size V pv ps) (hk : Row 2 V.heap.size X kv ks) (hz : Row 53 V.heap.size X zv zs)
    (hb : Below b w X) (h5 : Five X b x y pv k0 z0) (hv : Five X R r0 r1 r2 r3 r4) (hbW : b < W.heap.size) (hRW : R < W.heap.size) (hWV : W.heap.size ≤ V.heap.size) (hne : b ≠ R) (hbw : b = w.heap.size) (hbR : b ≤ R) (hVX : Below V.heap.size V X) :
    Five ((X.setCell ⟨b, 3, none⟩ kv).setCell ⟨b, 4, none⟩ zv) b x y pv kv zv ∧ Five ((X.setCell ⟨b, 3, none⟩ kv).setCell ⟨b, 4, none⟩ zv) R r0 r1 r2 r3 r4 ∧
    Five (((((((X.setCell ⟨b, 3, none⟩ kv).setCell ⟨b, 4, none⟩ zv).setCell ⟨R, 0, none⟩ (.bool x)).setCell ⟨R, 1, none⟩ (.bool y)).setCell ⟨R, 2, none⟩ pv).setCell ⟨R, 3, none⟩ kv).setCell ⟨R, 4, none⟩ zv) R x y pv kv zv ∧
    MadeN w ⟨x, y, ps, ks, zs⟩ (.returned (ndv x y pv kv zv)) (((((((X.setCell ⟨b, 3, none⟩ kv).setCell ⟨b, 4, none⟩ zv).setCell ⟨R, 0, none⟩ (.bool x)).setCell ⟨R, 1, none⟩ (.bool y)).setCell ⟨R, 2, none⟩ pv).setCell ⟨R, 3, none⟩ kv).setCell ⟨R, 4, none⟩ zv) := by
  subst hbw
  have hp2 : Prs W.heap.size X pv ps := hp.next hVX
  have q5 := (h5.set3 kv).set4 zv
  have qv := (hv.off (p := ⟨w.heap.size, 3, none⟩) (Ne.symm hne) kv).off (p := ⟨w.heap.size, 4, none⟩) (Ne.symm hne) zv
  refine ⟨q5, qv, ?_, pv, kv, zv, rfl, ?_, ?_, ?_, ?_⟩
  · unfold Five
    rw [heap_setCell_same _ R 4 _ _ zv (heap_setCell_same _ R 3 _ _ kv (heap_setCell_same _ R 2 _ _ pv (heap_setCell_same _ R 1 _ _ _ (heap_setCell_same _ R 0 _ _ _ qv))))]
    rfl
  · exact (((((((hp2.set_below hbW _).set_below hbW _).set_below hRW _).set_below hRW _).set_below hRW _).set_below hRW _).set_below hRW _).lower (by omega)
  · exact (((((((hk.set_below (by simp; omega) _).set_below (by simp; omega) _).set_below (by simp; omega) _).set_below (by simp; omega) _).set_below (by simp; omega) _).set_below (by simp; omega) _).set_below (by simp; omega) _).lower (by omega)
  · exact (((((((hz.set_below (by simp; omega) _).set_below (by simp; omega) _).set_below (by simp; omega) _).set_below (by simp; omega) _).set_below (by simp; omega) _).set_below (by simp; omega) _).set_below (by simp; omega) _).lower (by omega)
  · exact ((((((hb.setCell (p := ⟨w.heap.size, 3, none⟩) (Nat.le_refl _) _).setCell (p := ⟨w.heap.size, 4, none⟩) (Nat.le_refl _) _).setCell (p := ⟨R, 0, none⟩) hbR _).setCell (p := ⟨R, 1, none⟩) hbR _).setCell (p := ⟨R, 2, none⟩) hbR _).setCell (p := ⟨R, 3, none⟩) hbR _).setCell (p := ⟨R, 4, none⟩) hbR _

set_option maxHeartbeats 4000000 in
theorem nodeSame_walk (x y : Bool) (A B C : Option Addr) (n c m d p q : Nat) (ps : List (Int × Int)) (ks zs : List Int) (w : World) (hp : Lp w A n c ps) (hk : Sl w B m d ks) (hz : Sl w C p q zs) (hps : ps.length ≤ 100) (hks : ks.length ≤ 100) (hzs : zs.length ≤ 100) :
    Calls Tryz.prog 54 #[ndv x y (.slice A n c) (.slice B m d) (.slice C p q)] w (MadeN w ⟨x, y, ps, ks, zs⟩) := by
  go_enter Tryz.func54, Tryz.ntmps54
  go_wp2_with fail
  obtain ⟨W, R, hW, hR, hb0, hs0, h5, hv5, hR0, l1, l2⟩ := boxed5 w x y (.slice A n c) (.slice B m d) (.slice C p q)
  rw [hW, hR, show R + 1 = W.heap.size from by rw [← hW, ← hR]; simp]
  clear hW hR
  have Hp := Lib.hid hp
  have Hk := Lib.hid hk
  have Hz := Lib.hid hz
  clear hp hk hz
  have HW := Lib.hid hb0
  clear hb0
  generalize hb : w.heap.size = b at *
  have HB := Lib.hid hb
  clear hb
  refine (concatP1 W.heap.size A n c ps _ (c_new rfl rfl) ((Hp.out.keep fun p h => HW.out.cell (by have := HB.out; omega)).below (below_new _ _)) (by omega)).mono ?_
  rintro e w1 ⟨v1, rfl, hr1, hb1⟩
  obtain ⟨F1, N1, f1, rfl⟩ := hr1.shape
  have p1 : Below W.heap.size W w1 := (below_new W _).trans (hb1.mono (by simp))
  have g5 := h5.below p1
  have gv := hv5.below p1
  have hr2 := hr1.lower (base' := W.heap.size) (by simp)
  clear hr1 hb1
  obtain ⟨d0, d1, d2, d3, d4⟩ := g5.cells
  have f2 := g5.free 2
  have hbW : b < W.heap.size := by omega
  go_wp2_with fail
  obtain ⟨V, hV, k5, kv5, hbV, hrV, hsV⟩ : ∃ V : World, w1.setCell ⟨b, 2, none⟩ (.slice F1 N1 f1) = V ∧ Five V b x y (.slice F1 N1 f1) (.slice B m d) (.slice C p q) ∧ Five V R false false (.slice none 0 0) (.slice none 0 0) (.slice none 0 0) ∧ Below b w V ∧ Prs W.heap.size V (.slice F1 N1 f1) ps ∧ W.heap.size ≤ V.heap.size :=
    ⟨_, rfl, g5.set2 _, gv.off l2 _, (HW.out.trans (p1.mono (by omega))).setCell (p := ⟨b, 2, none⟩) (Nat.le_refl _) _, hr2.set_below hbW _, by simpa using p1.size⟩
  rw [hV]
  clear hV hr2 gv g5 p1 d0 d1 d2 d3 d4 f2
  obtain ⟨d0, d1, d2, d3, d4⟩ := k5.cells
  have KK : Hid (Sl V B m d ks) := Hk.out.keep fun p h => hbV.cell (by have := HB.out; omega)
  have KZ : Hid (Sl V C p q zs) := Hz.out.keep fun p h => hbV.cell (by have := HB.out; omega)
  have HC : Hid (∀ w', Below V.heap.size V w' → (w'.cell? ⟨b, 3, none⟩ = some (.slice B m d) ∧ w'.cell? ⟨b, 4, none⟩ = some (.slice C p q))) := fun w' h => ⟨below_read h d3, below_read h d4⟩
  refine region_T (fun k => k == 12) (fun w' => w'.cell? ⟨b, 3, none⟩ = some (.slice B m d) ∧ w'.cell? ⟨b, 4, none⟩ = some (.slice C p q)) (by kernel_rfl) ?_
  obtain ⟨X0, hX0, hbX0⟩ : ∃ X0 : World, V.drew = X0 ∧ Below V.heap.size V X0 := ⟨_, rfl, (Below.refl _ V).drew⟩
  rw [hX0]
  clear hX0
  have hC := HC.out X0 hbX0
  refine takeT (i := 0) (v := ?_) rfl (by kernel_rfl) (by kernel_rfl) (by kernel_rfl) (by kernel_rfl) (fun _ _ _ h => h) hC (by rfl) ?_ ?_
  rotate_left
  · intro w hSw; (try dsimp only at hSw); go_simp; try (with_reducible rfl)
  try simp only [Act.put, List.setIfInBounds_toArray, List.set_cons_zero, List.set_cons_succ]
  refine takeT (i := 1) (v := ?_) rfl (by kernel_rfl) (by kernel_rfl) (by kernel_rfl) (by kernel_rfl) (fun _ _ _ h => h) hC (by rfl) ?_ ?_
  rotate_left
  · intro w hSw; (try dsimp only at hSw); go_simp; try (with_reducible rfl)
  try simp only [Act.put, List.setIfInBounds_toArray, List.set_cons_zero, List.set_cons_succ]
  refine takeT (i := 2) (v := ?_) rfl (by kernel_rfl) (by kernel_rfl) (by kernel_rfl) (by kernel_rfl) (fun _ _ _ h => h) hC (by rfl) ?_ ?_
  rotate_left
  · intro w hSw; (try dsimp only at hSw); go_simp; try (with_reducible rfl)
  try simp only [Act.put, List.setIfInBounds_toArray, List.set_cons_zero, List.set_cons_succ]
  refine takeT (i := 5) (v := ?_) rfl (by kernel_rfl) (by kernel_rfl) (by kernel_rfl) (by kernel_rfl) (fun _ _ _ h => h) hC (by rfl) ?_ ?_
  rotate_left
  · intro w hSw; (try dsimp only at hSw); go_simp; try (with_reducible rfl)
  try simp only [Act.put, List.setIfInBounds_toArray, List.set_cons_zero, List.set_cons_succ]
  refine takeT (i := 6) (v := ?_) rfl (by kernel_rfl) (by kernel_rfl) (by kernel_rfl) (by kernel_rfl) (fun _ _ _ h => h) hC (by rfl) ?_ ?_
  rotate_left
  · intro w hSw; (try dsimp only at hSw); go_simp; try (with_reducible rfl)
  try simp only [Act.put, List.setIfInBounds_toArray, List.set_cons_zero, List.set_cons_succ]
  refine takeT (i := 7) (v := ?_) rfl (by kernel_rfl) (by kernel_rfl) (by kernel_rfl) (by kernel_rfl) (fun _ _ _ h => h) hC (by rfl) ?_ ?_
  rotate_left
  · intro w hSw; (try dsimp only at hSw); go_simp; try (with_reducible rfl)
  try simp only [Act.put, List.setIfInBounds_toArray, List.set_cons_zero, List.set_cons_succ]
  clear hC
  refine twoT (i := 3) (j := 8) (by kernel_rfl) rfl rfl (by rfl) (by rfl) (fun K hK => ?_) (fun K hK => ?_)
  · go_simp
    obtain ⟨X1, bk, hX, hbk, hst, cbk⟩ := stepB X0 (.slice B m d) 24
    rw [hX, hbk]
    clear hX hbk
    have hbX1 := hbX0.trans (hst.mono hbX0.size)
    refine hK.out _ _ (fun _ => HC.out X1 hbX1) ?_
    clear hK K hst
    try simp only [Act.put, List.setIfInBounds_toArray, List.set_cons_zero, List.set_cons_succ]
    refine twoT (i := 4) (j := 8) (by kernel_rfl) rfl rfl (by rfl) (by rfl) (fun K hK => ?_) (fun K hK => ?_)
    · go_simp
      refine (concatK1 bk B m d ks X1 cbk (KK.out.below hbX1) (by omega)).mono ?_
      rintro e X2 ⟨v2, rfl, g2, hst⟩
      obtain ⟨F2, N2, f2, rfl⟩ := g2.shape
      have rk := g2.lower (base' := V.heap.size) hbX1.size
      clear g2
      have hbX2 := hbX1.trans (hst.mono hbX1.size)
      replace cbk := below_read hst cbk
      refine hK.out _ _ (fun _ => HC.out X2 hbX2) ?_
      clear hK K hst
      try simp only [Act.put, List.setIfInBounds_toArray, List.set_cons_zero, List.set_cons_succ]
      refine oneT (i := 8) (by kernel_rfl) rfl (by rfl) (fun K hK => ?_)
      go_simp
      obtain ⟨X3, bz, hX, hbz, hst, cbz⟩ := stepB X2 (.slice C p q) 25
      rw [hX, hbz]
      clear hX hbz
      have hbX3 := hbX2.trans (hst.mono hbX2.size)
      replace rk := rk.next hst
      refine hK.out _ _ (fun _ => HC.out X3 hbX3) ?_
      clear hK K hst
      try simp only [Act.put, List.setIfInBounds_toArray, List.set_cons_zero, List.set_cons_succ]
      refine oneT (i := 9) (by kernel_rfl) rfl (by rfl) (fun K hK => ?_)
      go_simp
      refine (concatR1 bz C p q zs X3 cbz (KZ.out.below hbX3) (by omega)).mono ?_
      rintro e X4 ⟨v3, rfl, g3, hst⟩
      obtain ⟨F3, N3, f3, rfl⟩ := g3.shape
      have rz := g3.lower (base' := V.heap.size) hbX3.size
      clear g3
      have hbX4 := hbX3.trans (hst.mono hbX3.size)
      replace rk := rk.next hst
      refine hK.out _ _ (fun _ => HC.out X4 hbX4) ?_
      clear hK K hst
      try simp only [Act.put, List.setIfInBounds_toArray, List.set_cons_zero, List.set_cons_succ]
      have hC := HC.out X4 hbX4
      refine takeT (i := 10) (v := ?_) rfl (by kernel_rfl) (by kernel_rfl) (by kernel_rfl) (by kernel_rfl) (fun _ _ _ h => h) hC (by rfl) ?_ ?_
      rotate_left
      · intro w hSw; (try dsimp only at hSw); go_simp; try (with_reducible rfl)
      try simp only [Act.put, List.setIfInBounds_toArray, List.set_cons_zero, List.set_cons_succ]
      refine takeT (i := 11) (v := ?_) rfl (by kernel_rfl) (by kernel_rfl) (by kernel_rfl) (by kernel_rfl) (fun _ _ _ h => h) hC (by rfl) ?_ ?_
      rotate_left
      · intro w hSw; (try dsimp only at hSw); go_simp; try (with_reducible rfl)
      try simp only [Act.put, List.setIfInBounds_toArray, List.set_cons_zero, List.set_cons_succ]
      have m5 := k5.below hbX4
      have mv := kv5.below hbX4
      obtain ⟨y0, y1, y2, y3, y4⟩ := m5.cells
      have z3 := m5.free 3
      have z4 := m5.free 4
      have HE := same_end hrV rk rz (Below.trans hbV (hbX4.mono (Nat.le_trans (Nat.le_of_lt hbW) hsV))) m5 mv hbW hs0 hsV l1 HB.out.symm (by omega) hbX4
      have hsC := hbX4.size
      refine oneT (i := 12) (by kernel_rfl) rfl (by rfl) (fun K hK => ?_)
      go_simp
      refine hK.out _ _ (fun h => by cases h) ?_
      clear hK K
      refine doneT (by kernel_rfl) ?_
      obtain ⟨q5, qv, HE⟩ := HE
      generalize (X4.setCell ⟨b, 3, none⟩ (.slice F2 N2 f2)).setCell ⟨b, 4, none⟩ (.slice F3 N3 f3) = Z at *
      obtain ⟨y0, y1, y2, y3, y4⟩ := q5.cells
      obtain ⟨x0, x1, x2, x3, x4⟩ := qv.cells
      have f0 := qv.free 0
      have f1 := qv.free 1
      have f2 := qv.free 2
      have f3 := qv.free 3
      have f4 := qv.free 4
      clear m5 mv rk rz q5 qv
      go_wp2
      ((try simp only [Exit.inBlock, Exit.then]); refine bodyPost_ret (results_five rfl rfl HE.1) rfl ?_)
      exact HE.2
    · go_simp
      obtain ⟨X2, bz, hX, hbz, hst, cbz⟩ := stepB X1 (.slice C p q) 25
      rw [hX, hbz]
      clear hX hbz
      have hbX2 := hbX1.trans (hst.mono hbX1.size)
      replace cbk := below_read hst cbk
      refine hK.out _ _ (fun _ => HC.out X2 hbX2) ?_
      clear hK K hst
      try simp only [Act.put, List.setIfInBounds_toArray, List.set_cons_zero, List.set_cons_succ]
      refine oneT (i := 4) (by kernel_rfl) rfl (by rfl) (fun K hK => ?_)
      go_simp
      refine (concatK1 bk B m d ks X2 cbk (KK.out.below hbX2) (by omega)).mono ?_
      rintro e X3 ⟨v2, rfl, g2, hst⟩
      obtain ⟨F2, N2, f2, rfl⟩ := g2.shape
      have rk := g2.lower (base' := V.heap.size) hbX2.size
      clear g2
      have hbX3 := hbX2.trans (hst.mono hbX2.size)
      replace cbz := below_read hst cbz
      refine hK.out _ _ (fun _ => HC.out X3 hbX3) ?_
      clear hK K hst
      try simp only [Act.put, List.setIfInBounds_toArray, List.set_cons_zero, List.set_cons_succ]
      refine oneT (i := 9) (by kernel_rfl) rfl (by rfl) (fun K hK => ?_)
      go_simp
      refine (concatR1 bz C p q zs X3 cbz (KZ.out.below hbX3) (by omega)).mono ?_
      rintro e X4 ⟨v3, rfl, g3, hst⟩
      obtain ⟨F3, N3, f3, rfl⟩ := g3.shape
      have rz := g3.lower (base' := V.heap.size) hbX3.size
      clear g3
      have hbX4 := hbX3.trans (hst.mono hbX3.size)
      replace rk := rk.next hst
      refine hK.out _ _ (fun _ => HC.out X4 hbX4) ?_
      clear hK K hst
      try simp only [Act.put, List.setIfInBounds_toArray, List.set_cons_zero, List.set_cons_succ]
      have hC := HC.out X4 hbX4
      refine takeT (i := 10) (v := ?_) rfl (by kernel_rfl) (by kernel_rfl) (by kernel_rfl) (by kernel_rfl) (fun _ _ _ h => h) hC (by rfl) ?_ ?_
      rotate_left
      · intro w hSw; (try dsimp only at hSw); go_simp; try (with_reducible rfl)
      try simp only [Act.put, List.setIfInBounds_toArray, List.set_cons_zero, List.set_cons_succ]
      refine takeT (i := 11) (v := ?_) rfl (by kernel_rfl) (by kernel_rfl) (by kernel_rfl) (by kernel_rfl) (fun _ _ _ h => h) hC (by rfl) ?_ ?_
      rotate_left
      · intro w hSw; (try dsimp only at hSw); go_simp; try (with_reducible rfl)
      try simp only [Act.put, List.setIfInBounds_toArray, List.set_cons_zero, List.set_cons_succ]
      have m5 := k5.below hbX4
      have mv := kv5.below hbX4
      obtain ⟨y0, y1, y2, y3, y4⟩ := m5.cells
      have z3 := m5.free 3
      have z4 := m5.free 4
      have HE := same_end hrV rk rz (Below.trans hbV (hbX4.mono (Nat.le_trans (Nat.le_of_lt hbW) hsV))) m5 mv hbW hs0 hsV l1 HB.out.symm (by omega) hbX4
      have hsC := hbX4.size
      refine oneT (i := 12) (by kernel_rfl) rfl (by rfl) (fun K hK => ?_)
      go_simp
      refine hK.out _ _ (fun h => by cases h) ?_
      clear hK K
      refine doneT (by kernel_rfl) ?_
      obtain ⟨q5, qv, HE⟩ := HE
      generalize (X4.setCell ⟨b, 3, none⟩ (.slice F2 N2 f2)).setCell ⟨b, 4, none⟩ (.slice F3 N3 f3) = Z at *
      obtain ⟨y0, y1, y2, y3, y4⟩ := q5.cells
      obtain ⟨x0, x1, x2, x3, x4⟩ := qv.cells
      have f0 := qv.free 0
      have f1 := qv.free 1
      have f2 := qv.free 2
      have f3 := qv.free 3
      have f4 := qv.free 4
      clear m5 mv rk rz q5 qv
      go_wp2
      ((try simp only [Exit.inBlock, Exit.then]); refine bodyPost_ret (results_five rfl rfl HE.1) rfl ?_)
      exact HE.2
  · go_simp
    obtain ⟨X1, bz, hX, hbz, hst, cbz⟩ := stepB X0 (.slice C p q) 25
    rw [hX, hbz]
    clear hX hbz
    have hbX1 := hbX0.trans (hst.mono hbX0.size)
    refine hK.out _ _ (fun _ => HC.out X1 hbX1) ?_
    clear hK K hst
    try simp only [Act.put, List.setIfInBounds_toArray, List.set_cons_zero, List.set_cons_succ]
    refine oneT (i := 3) (by kernel_rfl) rfl (by rfl) (fun K hK => ?_)
    go_simp
    obtain ⟨X2, bk, hX, hbk, hst, cbk⟩ := stepB X1 (.slice B m d) 24
    rw [hX, hbk]
    clear hX hbk
    have hbX2 := hbX1.trans (hst.mono hbX1.size)
    replace cbz := below_read hst cbz
    refine hK.out _ _ (fun _ => HC.out X2 hbX2) ?_
    clear hK K hst
    try simp only [Act.put, List.setIfInBounds_toArray, List.set_cons_zero, List.set_cons_succ]
    refine oneT (i := 4) (by kernel_rfl) rfl (by rfl) (fun K hK => ?_)
    go_simp
    refine (concatK1 bk B m d ks X2 cbk (KK.out.below hbX2) (by omega)).mono ?_
    rintro e X3 ⟨v2, rfl, g2, hst⟩
    obtain ⟨F2, N2, f2, rfl⟩ := g2.shape
    have rk := g2.lower (base' := V.heap.size) hbX2.size
    clear g2
    have hbX3 := hbX2.trans (hst.mono hbX2.size)
    replace cbz := below_read hst cbz
    refine hK.out _ _ (fun _ => HC.out X3 hbX3) ?_
    clear hK K hst
    try simp only [Act.put, List.setIfInBounds_toArray, List.set_cons_zero, List.set_cons_succ]
    refine oneT (i := 9) (by kernel_rfl) rfl (by rfl) (fun K hK => ?_)
    go_simp
    refine (concatR1 bz C p q zs X3 cbz (KZ.out.below hbX3) (by omega)).mono ?_
    rintro e X4 ⟨v3, rfl, g3, hst⟩
    obtain ⟨F3, N3, f3, rfl⟩ := g3.shape
    have rz := g3.lower (base' := V.heap.size) hbX3.size
    clear g3
    have hbX4 := hbX3.trans (hst.mono hbX3.size)
    replace rk := rk.next hst
    refine hK.out _ _ (fun _ => HC.out X4 hbX4) ?_
    clear hK K hst
    try simp only [Act.put, List.setIfInBounds_toArray, List.set_cons_zero, List.set_cons_succ]
    have hC := HC.out X4 hbX4
    refine takeT (i := 10) (v := ?_) rfl (by kernel_rfl) (by kernel_rfl) (by kernel_rfl) (by kernel_rfl) (fun _ _ _ h => h) hC (by rfl) ?_ ?_
    rotate_left
    · intro w hSw; (try dsimp only at hSw); go_simp; try (with_reducible rfl)
    try simp only [Act.put, List.setIfInBounds_toArray, List.set_cons_zero, List.set_cons_succ]
    refine takeT (i := 11) (v := ?_) rfl (by kernel_rfl) (by kernel_rfl) (by kernel_rfl) (by kernel_rfl) (fun _ _ _ h => h) hC (by rfl) ?_ ?_
    rotate_left
    · intro w hSw; (try dsimp only at hSw); go_simp; try (with_reducible rfl)
    try simp only [Act.put, List.setIfInBounds_toArray, List.set_cons_zero, List.set_cons_succ]
    have m5 := k5.below hbX4
    have mv := kv5.below hbX4
    obtain ⟨y0, y1, y2, y3, y4⟩ := m5.cells
    have z3 := m5.free 3
    have z4 := m5.free 4
    have HE := same_end hrV rk rz (Below.trans hbV (hbX4.mono (Nat.le_trans (Nat.le_of_lt hbW) hsV))) m5 mv hbW hs0 hsV l1 HB.out.symm (by omega) hbX4
    have hsC := hbX4.size
    refine oneT (i := 12) (by kernel_rfl) rfl (by rfl) (fun K hK => ?_)
    go_simp
    refine hK.out _ _ (fun h => by cases h) ?_
    clear hK K
    refine doneT (by kernel_rfl) ?_
    obtain ⟨q5, qv, HE⟩ := HE
    generalize (X4.setCell ⟨b, 3, none⟩ (.slice F2 N2 f2)).setCell ⟨b, 4, none⟩ (.slice F3 N3 f3) = Z at *
    obtain ⟨y0, y1, y2, y3, y4⟩ := q5.cells
    obtain ⟨x0, x1, x2, x3, x4⟩ := qv.cells
    have f0 := qv.free 0
    have f1 := qv.free 1
    have f2 := qv.free 2
    have f3 := qv.free 3
    have f4 := qv.free 4
    clear m5 mv rk rz q5 qv
    go_wp2
    ((try simp only [Exit.inBlock, Exit.then]); refine bodyPost_ret (results_five rfl rfl HE.1) rfl ?_)
    exact HE.2
end Go.Proofs.YtcegianjpifnbaaGreat
namespace Go.Proofs.YtcegianjpifnbaaGreat
open Go.ChangeShapes Go.WideShapes Go.ChangeAt Go.RowKit
set_option linter.unusedVariables false
set_option linter.unusedSimpArgs false
set_option maxRecDepth 20000

/-- A place that was never used. -/
def Pa.nil : Pa := ⟨false, 0, Nd.nil, [], 0, false⟩
theorem PaM.nil (w : World) (F : Nat → Prop) (p : Pa) (h1 : p.nd.ps = []) (h2 : p.nd.ks = []) (h3 : p.nd.zs = []) (h4 : p.ws = []) : PaM w F (p, Vs.nil) := by
  refine ⟨by rw [h1]; exact Prs.nil _ _, by rw [h2]; exact Row.nil _ _ _, by rw [h3]; exact Row.nil _ _ _, by rw [h4]; exact Row.nil _ _ _, ?_, ?_, by simp [h4]⟩
  · rintro b (e | e | e | e) <;> cases e
  · unfold Nd.small; simp [h1, h2, h3]

theorem pl_info : ∀ d : Bool, ∃ z by_, by_ ≤ 200 ∧ z.cells.size = 10 ∧ (Tryz.prog.info? (plT d)).map (fun i => (i.zero, i.size, i.bytes)) = some (some z, 10, by_)
  | false => ⟨.agg #[.bool false, .int .u32 0, .bool false, .bool false, .slice none 0 0, .slice none 0 0, .slice none 0 0, .slice none 0 0, .int .i64 0, .bool false], 128, by omega, rfl, by kernel_rfl⟩
  | true => ⟨.agg #[.bool false, .int .u32 0, .bool false, .bool false, .slice none 0 0, .slice none 0 0, .slice none 0 0, .slice none 0 0, .int .i64 0, .bool false], 128, by omega, rfl, by kernel_rfl⟩
def plS : Bool → TypeId
  | false => 77
  | true => 77
theorem plS_under : ∀ d : Bool, Tryz.prog.underlying (plS d) = some (.slice (plT d))
  | false => Tryz.underlying77
  | true => Tryz.underlying77
def hdP : Bool → Nat
  | false => 1
  | true => 0
def hdQ : Bool → Nat
  | false => 2
  | true => 1

section
variable {d : Bool} {F : Nat → Prop} {w w' : World} {a : Nat} {S : As} {l : List (Pa × Vs)} {P Q : Value}
theorem Ar.pushPl (h : Ar d F w a S l P Q) {P' : Value} (hr : w'.ownsRow 0 (plT d) 10 P' (l.length + 1) (rowOf d (l ++ [(Pa.nil, Vs.nil)]))) (hg : w.grownBy w' P.ownBlock) (hb : ∀ b, P'.ownBlock = some b → P.ownBlock = some b ∨ w.heap.size ≤ b) :
    w'.heap[a]? = w.heap[a]? ∧ Ar d (fun b => F b ∨ P'.ownBlock = some b) (w'.setCell ⟨a, hdP d, none⟩ P') a { S with pls := S.pls ++ [Pa.nil] } (l ++ [(Pa.nil, Vs.nil)]) P' Q ∧ Only F w (w'.setCell ⟨a, hdP d, none⟩ P') := by
  obtain ⟨n1, n2, n3, n4, n5⟩ := plT_ne d
  obtain ⟨m1, m2, m3, m4, m5⟩ := hdT_ne d
  have hPty : ∀ b, P.ownBlock = some b → Ty w b (plT d) := fun b e => own_ty h.row e
  have ho : ∀ b t, Ty w b t → plT d ≠ t → b < w.heap.size → w'.heap[b]? = w.heap[b]? := fun b t ht hne hbl => hg.block b hbl (fun e => hne ((hPty b e.symm).one ht))
  have ha := ho a _ h.tyA n1 h.lta
  have hty : Ty w' a (hdT d) := ⟨_, ha.trans h.head⟩
  refine ⟨ha, ⟨?_, ?_, .inl h.fa, ?_, ?_, fun b e => .inr e, ?_, fun b e => .inl (h.fque b e), ?_, ?_⟩, ?_⟩
  · rintro b (hF | hF)
    · simpa using Nat.lt_of_lt_of_le (h.lt b hF) hg.size
    · simpa using (hr.lt b hF).2
  · rw [heap_setCell_same w' a (hdP d) _ _ P' (ha.trans h.head)]
    cases d <;> rfl
  · simp [h.pls]
  · rw [List.length_append]
    exact own_set hr (p := ⟨a, hdP d, none⟩) hty m1 _
  · refine h.que.at_ fun b e => ?_
    have hq := h.que.ty e
    rw [heap_setCell_other w' ⟨a, hdP d, none⟩ b _ (fun eb => m2 (h.tyA.one (by subst eb; exact hq)))]
    exact ho b _ hq n2 (h.lt b (h.fque b e))
  · intro x hx
    simp only [List.mem_append, List.mem_singleton] at hx
    rcases hx with hx | rfl
    · refine ((h.mem x hx).keep fun b e => ?_).mono fun b e => .inl e
      have hnP : ∀ g, P.ownBlock = some g → b ≠ g := fun g eg ebg => by subst ebg; exact (h.mem x hx).not (hPty b eg) n3 n4 n5 e
      have hna : b ≠ a := fun eb => by subst eb; exact (h.mem x hx).not h.tyA m3 m4 m5 e
      rw [heap_setCell_other w' ⟨a, hdP d, none⟩ b _ hna]
      exact hg.block b (h.lt b ((h.mem x hx).own b e)) (fun eb => hnP b eb.symm rfl)
    · exact PaM.nil _ _ Pa.nil rfl rfl rfl rfl
  · intro i j x y g hi hj hw
    have key : ∀ (j : Nat) (y : Pa × Vs), (l ++ [(Pa.nil, Vs.nil)])[j]? = some y → l[j]? = some y ∨ y = (Pa.nil, Vs.nil) := by
      intro j y hj
      by_cases hjl : j < l.length
      · rw [List.getElem?_append_left hjl] at hj; exact .inl hj
      · rw [List.getElem?_append_right (by omega)] at hj
        have : j - l.length = 0 := by
          have := (List.getElem?_eq_some_iff.1 hj).1
          simp at this; omega
        rw [this] at hj
        simp at hj
        exact .inr hj.symm
    rcases key i x hi with hi | rfl
    · rcases key j y hj with hj | rfl
      · exact h.sep i j x y g hi hj hw
      · exact ⟨fun e => (by cases e), fun _ e => (by cases e)⟩
    · cases hw
  · exact (Only.grown F hg fun b e => h.frow b e).then (Only.set F w' (p := ⟨a, hdP d, none⟩) h.fa _)

/-- The run of 'append(places, place{})'. -/
theorem Ar.runPl (h : Ar d F w a S l P Q) (ty : TypeId) (s : Nat) (hs : ∀ (j : Nat) (u : Value), (cellsOf d (Pa.nil, Vs.nil))[j]? = some u → w.cell? ⟨s, j, none⟩ = some u) (hl : l.length ≤ 70000) :
    ∃ P' w', (Builtin.append_ #[plS d, plS d] ty #[P, .slice (some ⟨s, 0, none⟩) 1 1]).run Tryz.prog w = .ok P' w' ∧ (∃ A c, P' = .slice A (l.length + 1) c) ∧ w'.heap[a]? = w.heap[a]? ∧ Ar d (fun b => F b ∨ P'.ownBlock = some b) (w'.setCell ⟨a, hdP d, none⟩ P') a { S with pls := S.pls ++ [Pa.nil] } (l ++ [(Pa.nil, Vs.nil)]) P' Q ∧ Only F w (w'.setCell ⟨a, hdP d, none⟩ P') ∧ (∀ b, P'.ownBlock = some b → F b ∨ w.heap.size ≤ b) := by
  obtain ⟨z, by_, hby, hzc, hinf⟩ := pl_info d
  obtain ⟨i0, hi0, hz0, hz1, hz2⟩ := info_parts hinf
  obtain ⟨P', w', hr, ho, hg, hb⟩ := run_push (w := w) (plS d) ty (plT d) i0 z 10 by_ (plS_under d) hi0 hz0 hz1 hz2 hzc (by omega) P l.length (rowOf d l) h.row ⟨s, 0, none⟩ 1 1 (cellsOf d (Pa.nil, Vs.nil)) (by rw [cellsOf_length])
    (fun j u hj => by rw [add_lit0, Nat.zero_add]; exact hs j u hj) (by cases d <;> (intro u hu; simp [cellsOf, Pa.nil, Vs.nil, Nd.nil] at hu; first | (rcases hu with rfl | rfl | rfl | rfl | rfl | rfl <;> rfl) | (rcases hu with rfl | rfl | rfl | rfl | rfl <;> rfl))) (by unfold maxLen; omega) (by have : (l.length + 1) * by_ ≤ 70001 * 200 := Nat.mul_le_mul (by omega) hby; omega)
  have ho2 : w'.ownsRow 0 (plT d) 10 P' (l.length + 1) (rowOf d (l ++ [(Pa.nil, Vs.nil)])) := by rw [rowOf_append, rowOf, rowOf, List.append_nil]; exact ho
  obtain ⟨h1, h2, h3⟩ := h.pushPl ho2 hg hb
  refine ⟨P', w', hr, ?_, h1, h2, h3, fun b e => (hb b e).imp (fun e => h.frow b e) id⟩
  rcases ho2.2 with ⟨_, h0⟩ | ⟨g, cap, cur, rfl, _⟩
  · omega
  · exact ⟨_, cap, rfl⟩
end

section
variable {F : Nat → Prop} {w : World} {a : Nat} {S : As} {l : List (Pa × Vs)} {P Q : Value}
set_option maxHeartbeats 1000000 in
theorem next_old (h : Ar false F w a S l P Q) (i : Nat) (fr : List Nat) (hfr : S.fr = i :: fr) :
    Calls Tryz.prog 53 #[ptr a] w fun e w' => e = .returned (.int .i64 (i : Int)) ∧ (∃ Q', Ar false F w' a { S with fr := fr } l P Q') ∧ Only F w w' := by
  obtain ⟨c0, c1, c2, c3⟩ := h.head0
  have z2 := h.free 2
  have hq := h.que
  rw [hfr] at hq
  obtain ⟨A, n, c, rfl, hn, hsl⟩ := hq.form
  obtain ⟨A', c', hq2, hqb, hrun⟩ := hq.tail
  have hsl2 := hsl
  obtain ⟨g, off, rfl, hgl, hcell⟩ := hsl.at_ (k := 0) (by simp)
  simp at hcell
  have HZ : Hid (Ar false F (w.setCell ⟨a, 2, none⟩ (.slice A' fr.length c')) a { S with fr := fr } l P (.slice A' fr.length c')) :=
    h.setHead 2 _ (m := S.most) (f := S.flt) (P' := P) (Q' := .slice A' fr.length c') (fr := fr) rfl rfl hq2 (fun b e => h.fque b (hqb b e))
  have HO : Hid (Only F w (w.setCell ⟨a, 2, none⟩ (.slice A' fr.length c'))) := Only.set F w (p := ⟨a, 2, none⟩) h.fa _
  have hn2 : n = fr.length + 1 := by simpa using hn
  have hle := hsl.cap
  clear hq hq2 hqb hsl hsl2 hn h hfr
  subst hn2
  generalize fr.length = m at *
  have hp1 : (0 : Int) < (((m + 1 : Nat)) : Int) := by omega
  have hp2 : (0 : Int) < ((m : Int) + 1) := by omega
  go_enter Tryz.func53, Tryz.ntmps53
  go_wp2
  go_ret
  exact ⟨rfl, ⟨_, HZ.out⟩, HO.out⟩

theorem cells_ten {W : World} {s : Nat} {t : TypeId} {cs : Array Value} (h : W.heap[s]? = some (.cells cs t (0, 0))) : ∀ (j : Nat) (u : Value), cs.toList[j]? = some u → W.cell? ⟨s, j, none⟩ = some u := by
  intro j u hj
  rw [cell_of_row W s j cs t (0, 0) h]
  simpa using hj

set_option maxHeartbeats 1000000 in
theorem next_new (h : Ar false F w a S l P Q) (hfr : S.fr = []) (hl : l.length ≤ 70000) :
    Calls Tryz.prog 53 #[ptr a] w fun e w' => e = .returned (.int .i64 (l.length : Int)) ∧ (∃ F' P', Ar false F' w' a { S with pls := S.pls ++ [Pa.nil] } (l ++ [(Pa.nil, Vs.nil)]) P' Q ∧ ∀ b, F' b → F b ∨ w.heap.size ≤ b) ∧ Only F w w' := by
  obtain ⟨c0, c1, c2, c3⟩ := h.head0
  have hq := h.que
  rw [hfr] at hq
  obtain ⟨A, n, c, rfl, hn, hsl⟩ := hq.form
  obtain ⟨B, c', rfl⟩ := h.shapeP
  obtain rfl : n = 0 := by simpa using hn
  obtain ⟨W, hW, hbW, hB⟩ : ∃ W : World, w.alloc (.cells #[.bool false, .int .u32 0, .bool false, .bool false, .slice none 0 0, .slice none 0 0, .slice none 0 0, .slice none 0 0, .int .i64 0, .bool false] 111) = W ∧ Below w.heap.size w W ∧ W.heap[w.heap.size]? = some (.cells #[.bool false, .int .u32 0, .bool false, .bool false, .slice none 0 0, .slice none 0 0, .slice none 0 0, .slice none 0 0, .int .i64 0, .bool false] 111 (0, 0)) := ⟨_, rfl, below_new _ _, heap_alloc_new w _⟩
  have hA := h.below hbW
  obtain ⟨d0, d1, d2, d3⟩ := hA.head0
  have hrun := fun ty => hA.runPl ty w.heap.size (cells_ten hB) hl
  obtain ⟨P', w', hr0, ⟨A1, c1', rfl⟩, hha, hA2, hO2, hb2⟩ := hrun 0
  have hr : ∀ ty, (Builtin.append_ #[77, 77] ty #[.slice B l.length c', .slice (some ⟨w.heap.size, 0, none⟩) 1 1]).run Tryz.prog W = .ok (.slice A1 (l.length + 1) c1') w' := fun ty => hr0
  obtain ⟨e0, e1, e2, e3⟩ := hA2.head0
  have hhead : w'.heap[a]? = _ := hha.trans hA.head
  have y1 : w'.cell? ⟨a, 1, none⟩ = some (.slice B l.length c') := by rw [cell_of_row w' a _ _ _ (0, 0) hhead]; rfl
  have y2 : w'.frozen? ⟨a, 1, none⟩ = false := frozen_of_row w' a 1 _ _ hhead
  have HZ := Lib.hid hA2
  have HO : Hid (Only F w (w'.setCell ⟨a, 1, none⟩ (.slice A1 (l.length + 1) c1'))) := (Only.of_below F hbW).then hO2
  have HBB : Hid (∀ b, (F b ∨ (Value.slice A1 (l.length + 1) c1').ownBlock = some b) → F b ∨ w.heap.size ≤ b) := by
    rintro b (e | e)
    · exact .inl e
    · exact (hb2 b e).imp id (fun e => Nat.le_trans hbW.size e)
  clear hq hsl hn h hfr hA hrun hr0 hha hA2 hO2 hb2 hhead e0 e2 e3 d2 d3 d0
  generalize hL : l.length = L at *
  go_enter Tryz.func53, Tryz.ntmps53
  go_wp2_with (at_builtin; (first | rw [hW] | skip); refine Lib.wpList_append_run _ rfl _ _ _ _ rfl _ _ rfl rfl _ _ (hr _) ?_)
  go_ret
  refine ⟨?_, ⟨_, _, HZ.out, HBB.out⟩, HO.out⟩
  first | rfl | (apply ret_int; omega)
end
end Go.Proofs.YtcegianjpifnbaaGreat
namespace Go.Proofs.YtcegianjpifnbaaGreat
open Go.ChangeShapes Go.WideShapes Go.ChangeAt Go.RowKit
set_option linter.unusedVariables false
set_option linter.unusedSimpArgs false
set_option maxRecDepth 20000

theorem Arn.below {d : Bool} {F : Nat → Prop} {w w' : World} {a : Nat} {S : As} (h : Arn d F w a S) (hb : Below w.heap.size w w') : Arn d F w' a S := by
  obtain ⟨l, P, Q, h⟩ := h
  exact ⟨l, P, Q, h.below hb⟩
theorem Arn.only {d : Bool} {F G : Nat → Prop} {w w' : World} {a : Nat} {S : As} (h : Arn d F w a S) (hb : Only G w w') (hd : ∀ b, F b → ¬ G b) : Arn d F w' a S := by
  obtain ⟨l, P, Q, h⟩ := h
  exact ⟨l, P, Q, h.only hb hd⟩
theorem Arn.lt {d : Bool} {F : Nat → Prop} {w : World} {a : Nat} {S : As} (h : Arn d F w a S) : ∀ b, F b → b < w.heap.size := by
  obtain ⟨l, P, Q, h⟩ := h
  exact h.lt

/-- A variable for the result. -/
theorem boxedR (w : World) : ∃ (W : World) (R : Nat), w.alloc (.cells #[.bool false, .bool false, .slice none 0 0, .slice none 0 0, .slice none 0 0] 29) = W ∧ w.heap.size = R ∧ Below w.heap.size w W ∧ R < W.heap.size ∧ Five W R false false (.slice none 0 0) (.slice none 0 0) (.slice none 0 0) :=
  ⟨_, _, rfl, rfl, below_new _ _, by simp, Five.new _ rfl _ _ _ _ _⟩
/-- The result's variable, written. -/
theorem five_put {w : World} {R : Nat} {x y x' y' : Bool} {pv kv zv pv' kv' zv' : Value} (h : Five w R x y pv kv zv) : Five (((((w.setCell ⟨R, 0, none⟩ (.bool x')).setCell ⟨R, 1, none⟩ (.bool y')).setCell ⟨R, 2, none⟩ pv').setCell ⟨R, 3, none⟩ kv').setCell ⟨R, 4, none⟩ zv') R x' y' pv' kv' zv' := by
  unfold Five
  rw [heap_setCell_same _ R 4 _ _ zv' (heap_setCell_same _ R 3 _ _ kv' (heap_setCell_same _ R 2 _ _ pv' (heap_setCell_same _ R 1 _ _ _ (heap_setCell_same _ R 0 _ _ _ h))))]
  rfl
theorem below_five {w X : World} {R B : Nat} (h : Below B w X) (hR : B ≤ R) (u0 u1 u2 u3 u4 : Value) : Below B w (((((X.setCell ⟨R, 0, none⟩ u0).setCell ⟨R, 1, none⟩ u1).setCell ⟨R, 2, none⟩ u2).setCell ⟨R, 3, none⟩ u3).setCell ⟨R, 4, none⟩ u4) :=
  ((((h.setCell (p := ⟨R, 0, none⟩) hR _).setCell (p := ⟨R, 1, none⟩) hR _).setCell (p := ⟨R, 2, none⟩) hR _).setCell (p := ⟨R, 3, none⟩) hR _).setCell (p := ⟨R, 4, none⟩) hR _
theorem Below.ofOnly_five {w w' : World} {R : Nat} (h : R = w.heap.size) (hs : w.heap.size < w'.heap.size) (u0 u1 u2 u3 u4 : Value) : True := trivial

section
variable {F : Nat → Prop} {w : World} {a : Nat} {S : As} {i : Nat} {p : Pa} {r : Int}

set_option maxHeartbeats 2000000 in
theorem look_yes (h : Arn false F w a S) (hlen : S.pls.length ≤ 70000) (hcnt : ∀ p ∈ S.pls, p.cnt ≤ 1000000) (hp : S.pls[i]? = some p) (hu : p.used = true) (hr : mk i p.cnt = r) :
    Calls Tryz.prog 50 #[ptr a, .int .i64 r] w (MadeN w p.nd) := by
  obtain ⟨W, R, hW, hR, hb0, hs0, hv5⟩ := boxedR w
  obtain ⟨v, l, Q, g, c, hA, hx, hg, hF, HR, e2, e3, e4, e5, e6, e7, e8, e9, hz⟩ := open_yes (h.below hb0) hlen hcnt hp hu hr
  have hm := hA.mem _ (List.mem_of_getElem? hx)
  obtain ⟨P1, n1, q1, hP⟩ := hm.ps.shape
  obtain ⟨P2, n2, q2, hK⟩ := hm.ks.shape
  obtain ⟨P3, n3, q3, hZ⟩ := hm.zs.shape
  have t1 : Prs 0 W (.slice P1 n1 q1) p.nd.ps := by rw [← hP]; exact hm.ps
  have t2 : Row 2 0 W (.slice P2 n2 q2) p.nd.ks := by rw [← hK]; exact hm.ks
  have t3 : Row 53 0 W (.slice P3 n3 q3) p.nd.zs := by rw [← hZ]; exact hm.zs
  obtain ⟨s1, s2, s3⟩ := hm.small
  rw [show v.pv = .slice P1 n1 q1 from hP] at e4
  rw [show v.kv = .slice P2 n2 q2 from hK] at e5
  rw [show v.zv = .slice P3 n3 q3 from hZ] at e6
  have HC : Hid (Calls Tryz.prog 54 #[ndv p.nd.inn p.nd.tag (.slice P1 n1 q1) (.slice P2 n2 q2) (.slice P3 n3 q3)] W (MadeN W p.nd)) := nodeSame_walk _ _ _ _ _ _ _ _ _ _ _ _ _ _ W t1.lp t2.sl t3.sl s1 s2 s3
  clear h hp hu hr hA hx hz hm e7 e8 e9 t1 t2 t3 s1 s2 s3 hP hK hZ
  go_enter Tryz.func50, Tryz.ntmps50
  go_wp2_with fail
  (try rw [hW]); (try rw [hR]); clear hW
  refine HR.out.mono ?_
  rintro e w' ⟨rfl, rfl⟩
  go_wp2_with fail
  refine HC.out.mono ?_
  rintro e w1 ⟨pv, kv, zv, rfl, r1, r2, r3, hb1⟩
  have v5 := hv5.below hb1
  obtain ⟨x0, x1, x2, x3, x4⟩ := v5.cells
  have f0 := v5.free 0
  have f1 := v5.free 1
  have f2 := v5.free 2
  have f3 := v5.free 3
  have f4 := v5.free 4
  obtain ⟨P1', n1', q1', rfl⟩ := r1.shape
  obtain ⟨P2', n2', q2', rfl⟩ := r2.shape
  obtain ⟨P3', n3', q3', rfl⟩ := r3.shape
  have hRw : w.heap.size ≤ R := by omega
  have hWw := hb0.size
  have HE : Hid (Five (((((w1.setCell ⟨R, 0, none⟩ (.bool p.nd.inn)).setCell ⟨R, 1, none⟩ (.bool p.nd.tag)).setCell ⟨R, 2, none⟩ (.slice P1' n1' q1')).setCell ⟨R, 3, none⟩ (.slice P2' n2' q2')).setCell ⟨R, 4, none⟩ (.slice P3' n3' q3')) R p.nd.inn p.nd.tag (.slice P1' n1' q1') (.slice P2' n2' q2') (.slice P3' n3' q3') ∧ MadeN w p.nd (.returned (ndv p.nd.inn p.nd.tag (.slice P1' n1' q1') (.slice P2' n2' q2') (.slice P3' n3' q3'))) (((((w1.setCell ⟨R, 0, none⟩ (.bool p.nd.inn)).setCell ⟨R, 1, none⟩ (.bool p.nd.tag)).setCell ⟨R, 2, none⟩ (.slice P1' n1' q1')).setCell ⟨R, 3, none⟩ (.slice P2' n2' q2')).setCell ⟨R, 4, none⟩ (.slice P3' n3' q3'))) :=
    ⟨five_put v5, _, _, _, rfl, (((((r1.set_below hs0 _).set_below hs0 _).set_below hs0 _).set_below hs0 _).set_below hs0 _).lower hWw, (((((r2.set_below hs0 _).set_below hs0 _).set_below hs0 _).set_below hs0 _).set_below hs0 _).lower hWw, (((((r3.set_below hs0 _).set_below hs0 _).set_below hs0 _).set_below hs0 _).set_below hs0 _).lower hWw, below_five (hb0.trans (hb1.mono hWw)) hRw _ _ _ _ _⟩
  clear r1 r2 r3 v5
  go_wp2
  ((try simp only [Exit.inBlock, Exit.then]); refine bodyPost_ret (results_five rfl rfl HE.out.1) rfl ?_)
  exact HE.out.2

set_option maxHeartbeats 2000000 in
theorem look_no (h : Arn false F w a S) (hok : Ok S) (hno : ∀ i, ¬ Hit S r i) :
    Calls Tryz.prog 50 #[ptr a, .int .i64 r] w fun e w' => e = .returned (ndv false false (.slice none 0 0) (.slice none 0 0) (.slice none 0 0)) ∧ Arn false F w' a S.fault ∧ Only F w w' := by
  obtain ⟨W, R, hW, hR, hb0, hs0, hv5⟩ := boxedR w
  have HR := Lib.hid (open_no (h.below hb0) hok hno)
  have hlt := h.lt
  clear h hno
  go_enter Tryz.func50, Tryz.ntmps50
  go_wp2_with fail
  (try rw [hW]); (try rw [hR]); clear hW
  refine HR.out.mono ?_
  rintro e w1 ⟨rfl, h2, h3⟩
  have hFR : ¬ F R := fun hF => by have := hlt R hF; omega
  have v5 : Five w1 R false false (.slice none 0 0) (.slice none 0 0) (.slice none 0 0) := (h3.block R hs0 hFR).trans hv5
  obtain ⟨x0, x1, x2, x3, x4⟩ := v5.cells
  have f0 := v5.free 0
  have f1 := v5.free 1
  have f2 := v5.free 2
  have f3 := v5.free 3
  have f4 := v5.free 4
  have hRw : w.heap.size ≤ R := by omega
  have hO5 : Only (fun b => b = R) w1 (((((w1.setCell ⟨R, 0, none⟩ (.bool false)).setCell ⟨R, 1, none⟩ (.bool false)).setCell ⟨R, 2, none⟩ (.slice none 0 0)).setCell ⟨R, 3, none⟩ (.slice none 0 0)).setCell ⟨R, 4, none⟩ (.slice none 0 0)) :=
    ((((Only.set (fun b => b = R) w1 (p := ⟨R, 0, none⟩) rfl _).then (Only.set (fun b => b = R) _ (p := ⟨R, 1, none⟩) rfl _)).then (Only.set (fun b => b = R) _ (p := ⟨R, 2, none⟩) rfl _)).then (Only.set (fun b => b = R) _ (p := ⟨R, 3, none⟩) rfl _)).then (Only.set (fun b => b = R) _ (p := ⟨R, 4, none⟩) rfl _)
  have HE : Hid (Five (((((w1.setCell ⟨R, 0, none⟩ (.bool false)).setCell ⟨R, 1, none⟩ (.bool false)).setCell ⟨R, 2, none⟩ (.slice none 0 0)).setCell ⟨R, 3, none⟩ (.slice none 0 0)).setCell ⟨R, 4, none⟩ (.slice none 0 0)) R false false (.slice none 0 0) (.slice none 0 0) (.slice none 0 0) ∧ Arn false F (((((w1.setCell ⟨R, 0, none⟩ (.bool false)).setCell ⟨R, 1, none⟩ (.bool false)).setCell ⟨R, 2, none⟩ (.slice none 0 0)).setCell ⟨R, 3, none⟩ (.slice none 0 0)).setCell ⟨R, 4, none⟩ (.slice none 0 0)) a S.fault ∧ Only F w (((((w1.setCell ⟨R, 0, none⟩ (.bool false)).setCell ⟨R, 1, none⟩ (.bool false)).setCell ⟨R, 2, none⟩ (.slice none 0 0)).setCell ⟨R, 3, none⟩ (.slice none 0 0)).setCell ⟨R, 4, none⟩ (.slice none 0 0))) :=
    ⟨five_put v5, h2.only hO5 (fun b hF e => hFR (by rw [← e]; exact hF)), ((Only.of_below F hb0).then h3).trans hO5 (fun b e => .inr (by omega))⟩
  clear v5 hO5 h2 h3
  go_wp2
  ((try simp only [Exit.inBlock, Exit.then]); refine bodyPost_ret (results_five rfl rfl HE.out.1) rfl ?_)
  exact ⟨rfl, HE.out.2⟩

set_option maxHeartbeats 2000000 in
theorem look_nil (r : Int) (w : World) :
    Calls Tryz.prog 50 #[nilp, .int .i64 r] w fun e w' => e = .returned (ndv false false (.slice none 0 0) (.slice none 0 0) (.slice none 0 0)) ∧ Below w.heap.size w w' := by
  obtain ⟨W, R, hW, hR, hb0, hs0, v5⟩ := boxedR w
  go_enter Tryz.func50, Tryz.ntmps50
  go_wp2_with fail
  (try rw [hW]); (try rw [hR]); clear hW
  refine (right_nil r _).mono ?_
  rintro e w1 ⟨rfl, rfl⟩
  obtain ⟨x0, x1, x2, x3, x4⟩ := v5.cells
  have f0 := v5.free 0
  have f1 := v5.free 1
  have f2 := v5.free 2
  have f3 := v5.free 3
  have f4 := v5.free 4
  have HE := Lib.hid (five_put (x' := false) (y' := false) (pv' := .slice none 0 0) (kv' := .slice none 0 0) (zv' := .slice none 0 0) v5)
  have HE2 := Lib.hid (below_five hb0 (R := R) (by omega) (.bool false) (.bool false) (.slice none 0 0) (.slice none 0 0) (.slice none 0 0))
  clear v5
  go_wp2
  ((try simp only [Exit.inBlock, Exit.then]); refine bodyPost_ret (results_five rfl rfl HE.out) rfl ?_)
  exact ⟨rfl, HE2.out⟩
end
end Go.Proofs.YtcegianjpifnbaaGreat
namespace Go.Proofs.YtcegianjpifnbaaGreat
open Go.ChangeShapes Go.WideShapes Go.ChangeAt Go.RowKit
set_option linter.unusedVariables false
set_option linter.unusedSimpArgs false
set_option maxRecDepth 20000

/-- A place that isn't used any more. -/
def Pa.gone (c : Nat) : Pa := ⟨false, c, Nd.nil, [], 0, false⟩
def As.free (S : As) (i : Nat) (p : Pa) : As := { S with pls := S.pls.set i (Pa.gone p.cnt), fr := S.fr ++ [i] }

section
variable {F : Nat → Prop} {w : World} {a : Nat} {S : As} {i : Nat} {p : Pa} {r : Int}
/-- All of a place is written anew, with nothing in it. -/
theorem Ar.wipe {l : List (Pa × Vs)} {v : Vs} {g c : Nat} {Q : Value} (h : Ar false F w a S l (.slice (some ⟨g, 0, none⟩) l.length c) Q) (hx : l[i]? = some (p, v)) :
    ∃ W : World, ((((((((((w.setCell ⟨g, i * 10, none⟩ (.bool false)).setCell ⟨g, i * 10 + 1, none⟩ (.int .u32 (p.cnt : Int))).setCell ⟨g, i * 10 + 2, none⟩ (.bool false)).setCell ⟨g, i * 10 + 3, none⟩ (.bool false)).setCell ⟨g, i * 10 + 4, none⟩ (.slice none 0 0)).setCell ⟨g, i * 10 + 5, none⟩ (.slice none 0 0)).setCell ⟨g, i * 10 + 6, none⟩ (.slice none 0 0)).setCell ⟨g, i * 10 + 7, none⟩ (.slice none 0 0)).setCell ⟨g, i * 10 + 8, none⟩ (.int .i64 0)).setCell ⟨g, i * 10 + 9, none⟩ (.bool false)) = W ∧
      Ar false F W a { S with pls := S.pls.set i (Pa.gone p.cnt) } (l.set i (Pa.gone p.cnt, Vs.nil)) (.slice (some ⟨g, 0, none⟩) l.length c) Q ∧ Only F w W := by
  have hg := grown_ten w g (i * 10) (.bool false) (.int .u32 (p.cnt : Int)) (.bool false) (.bool false) (.slice none 0 0) (.slice none 0 0) (.slice none 0 0) (.slice none 0 0) (.int .i64 0) (.bool false)
  have hr := own_ten (y := (Pa.gone p.cnt, Vs.nil)) h.row hx (.bool false) (.int .u32 (p.cnt : Int)) (.bool false) (.bool false) (.slice none 0 0) (.slice none 0 0) (.slice none 0 0) (.slice none 0 0) (.int .i64 0) (.bool false) rfl
  refine ⟨_, rfl, ?_, Only.grown F hg fun b e => by injection e with e; subst e; exact h.frow g rfl⟩
  exact h.setPl hx (y := (Pa.gone p.cnt, Vs.nil)) hr hg (fun _ hb => hb) h.lt (PaM.nil _ _ _ rfl rfl rfl rfl) (fun b e => by cases e) (fun b e => by cases e)
/-- A place's number is put behind those that were freed. -/
theorem Ar.pushQ {d : Bool} {l : List (Pa × Vs)} {P Q : Value} (h : Ar d F w a S l P Q) (ty : TypeId) (s z : Nat) (hs : w.cell? ⟨s, 0, none⟩ = some (.int .i64 (z : Int))) (hl : S.fr.length ≤ 100000) :
    ∃ Q' w', (Builtin.append_ #[62, 62] ty #[Q, .slice (some ⟨s, 0, none⟩) 1 1]).run Tryz.prog w = .ok Q' w' ∧ (∃ A n c, Q' = .slice A n c) ∧ w'.heap[a]? = w.heap[a]? ∧ Only F w (w'.setCell ⟨a, hdQ d, none⟩ Q') ∧
      Ar d (fun b => F b ∨ Q'.ownBlock = some b) (w'.setCell ⟨a, hdQ d, none⟩ Q') a { S with fr := S.fr ++ [z] } l P Q' ∧ ∀ b, Q'.ownBlock = some b → F b ∨ w.heap.size ≤ b := by
  obtain ⟨Q', w', hr, hq, hg, hb⟩ := h.que.push ty s z hs hl
  obtain ⟨n1, n2, n3, n4, n5⟩ := plT_ne d
  obtain ⟨m1, m2, m3, m4, m5⟩ := hdT_ne d
  have hQty : ∀ b, Q.ownBlock = some b → Ty w b 3 := fun b e => h.que.ty e
  have ho : ∀ b t, Ty w b t → 3 ≠ t → b < w.heap.size → w'.heap[b]? = w.heap[b]? := fun b t ht hne hbl => hg.block b hbl (fun e => hne ((hQty b e.symm).one ht))
  have ha := ho a _ h.tyA (Ne.symm m2) h.lta
  have hlt' : ∀ b, Q'.ownBlock = some b → b < w'.heap.size := fun b e => by obtain ⟨cur, hc⟩ := hq.ty e; exact (Array.getElem?_eq_some_iff.1 hc).1
  have hkeep : Ar d (fun b => F b ∨ Q'.ownBlock = some b) w' a S l P Q ∨ True := .inr trivial
  have hrow : w'.ownsRow 0 (plT d) 10 P l.length (rowOf d l) := own_at h.row fun b e => ho b _ (own_ty h.row e) (Ne.symm n2) (h.lt b (h.frow b e))
  have hmem : ∀ x ∈ l, PaM w' (fun b => F b ∨ Q'.ownBlock = some b) x := fun x hx => ((h.mem x hx).keep fun b e => hg.block b (h.lt b ((h.mem x hx).own b e)) (fun eb => (h.mem x hx).not (hQty b eb.symm) (by decide) (by decide) (by decide) e)).mono fun b e => .inl e
  have hty : Ty w' a (hdT d) := ⟨_, ha.trans h.head⟩
  refine ⟨Q', w', hr, ?_, ha, (Only.grown F hg fun b e => h.fque b e).then (Only.set F w' (p := ⟨a, hdQ d, none⟩) h.fa _), ⟨?_, ?_, .inl h.fa, h.pls, ?_, fun b e => .inl (h.frow b e), ?_, fun b e => .inr e, ?_, h.sep⟩, fun b e => (hb b e).imp (fun e => h.fque b e) id⟩
  · obtain ⟨A, n, c, e, _⟩ := hq.form
    exact ⟨A, n, c, e⟩
  · rintro b (hF | hF)
    · simpa using Nat.lt_of_lt_of_le (h.lt b hF) hg.size
    · simpa using hlt' b hF
  · rw [heap_setCell_same w' a (hdQ d) _ _ Q' (ha.trans h.head)]
    cases d <;> rfl
  · exact own_set hrow (p := ⟨a, hdQ d, none⟩) hty m1 _
  · exact hq.at_ fun b e => heap_setCell_other w' ⟨a, hdQ d, none⟩ b _ (fun eb => m2 (hty.one (by subst eb; exact hq.ty e)))
  · exact fun x hx => (hmem x hx).keep fun b e => heap_setCell_other w' ⟨a, hdQ d, none⟩ b _ (fun eb => by subst eb; exact (hmem x hx).not hty m3 m4 m5 e)

set_option maxHeartbeats 4000000 in
theorem free_yes (h : Arn false F w a S) (hok : Ok S) (hp : S.pls[i]? = some p) (hu : p.used = true) (hr : mk i p.cnt = r) :
    Calls Tryz.prog 41 #[ptr a, .int .i64 r] w fun e w' => e = .returned (.bool true) ∧ Nx false F w a (S.free i p) w' := by
  have hi7 : i < 70000 := by have := (List.getElem?_eq_some_iff.1 hp).1; have := hok.len; omega
  have hpl : pl r = (i : Int) := pl_of_mk hi7 hr
  have HP := Lib.hid hpl
  obtain ⟨v, l, Q, g, c, hA, hx, hg, hF, HR, e2, e3, e4, e5, e6, e7, e8, e9, hz⟩ := open_yes h hok.len hok.cnt hp hu hr
  obtain ⟨g', c', hP', _, _, _, e0, e1, _⟩ := hA.cells0 hx
  injection hP' with hP1
  injection hP1 with hP1
  injection hP1 with hP1
  subst hP1
  simp only at e0 e1
  obtain ⟨W, hW, hAW, hOW⟩ := hA.wipe hx
  have HW := Lib.hid hW
  have hcnt := hok.cnt _ (List.mem_of_getElem? hp)
  have z0 := hz (i * 10)
  have z1 := hz (i * 10 + 1)
  have z2 := hz (i * 10 + 2)
  have z3 := hz (i * 10 + 3)
  have z4 := hz (i * 10 + 4)
  have z5 := hz (i * 10 + 5)
  have z6 := hz (i * 10 + 6)
  have z7 := hz (i * 10 + 7)
  have z8 := hz (i * 10 + 8)
  have z9 := hz (i * 10 + 9)
  clear hpl h hp hu hr hA hx hz hW
  go_enter Tryz.func41, Tryz.ntmps41
  go_wp2_with fail
  refine HR.out.mono ?_
  rintro e w' ⟨rfl, rfl⟩
  go_wp2_with fail
  rw [HW.out]
  clear HW e0 e1 e2 e3 e4 e5 e6 e7 e8 e9 z0 z1 z2 z3 z4 z5 z6 z7 z8 z9 HR
  obtain ⟨d0, d1, d2, d3⟩ := hAW.head0
  obtain ⟨A2, n2, c2, hQ, -, -⟩ := hAW.que.form
  have hQA := Lib.hid hQ
  rw [hQ] at d2
  have HC : Hid (∀ w', Below W.heap.size W w' → w'.cell? ⟨a, 2, none⟩ = some (.slice A2 n2 c2)) := fun w' h => below_read h d2
  refine region_T (fun k => k == 11) (fun w' => w'.cell? ⟨a, 2, none⟩ = some (.slice A2 n2 c2)) (by kernel_rfl) ?_
  obtain ⟨X0, hX0, hbX0⟩ : ∃ X0 : World, W.drew = X0 ∧ Below W.heap.size W X0 := ⟨_, rfl, (Below.refl _ W).drew⟩
  rw [hX0]
  clear hX0 hQ
  have hC := HC.out X0 hbX0
  refine takeT (i := 0) (v := ?_) rfl (by kernel_rfl) (by kernel_rfl) (by kernel_rfl) (by kernel_rfl) (fun _ _ _ h => h) hC (by rfl) ?_ ?_
  rotate_left
  · intro w hSw; (try dsimp only at hSw); go_simp; try (with_reducible rfl)
  try simp only [Act.put, List.setIfInBounds_toArray, List.set_cons_zero, List.set_cons_succ]
  refine takeT (i := 1) (v := ?_) rfl (by kernel_rfl) (by kernel_rfl) (by kernel_rfl) (by kernel_rfl) (fun _ _ _ h => h) hC (by rfl) ?_ ?_
  rotate_left
  · intro w hSw; (try dsimp only at hSw); go_simp; try (with_reducible rfl)
  try simp only [Act.put, List.setIfInBounds_toArray, List.set_cons_zero, List.set_cons_succ]
  refine takeT (i := 2) (v := ?_) rfl (by kernel_rfl) (by kernel_rfl) (by kernel_rfl) (by kernel_rfl) (fun _ _ _ h => h) hC (by rfl) ?_ ?_
  rotate_left
  · intro w hSw; (try dsimp only at hSw); go_simp; try (with_reducible rfl)
  try simp only [Act.put, List.setIfInBounds_toArray, List.set_cons_zero, List.set_cons_succ]
  refine takeT (i := 3) (v := ?_) rfl (by kernel_rfl) (by kernel_rfl) (by kernel_rfl) (by kernel_rfl) (fun _ _ _ h => h) hC (by rfl) ?_ ?_
  rotate_left
  · intro w hSw; (try dsimp only at hSw); go_simp; try (with_reducible rfl)
  try simp only [Act.put, List.setIfInBounds_toArray, List.set_cons_zero, List.set_cons_succ]
  refine takeT (i := 4) (v := ?_) rfl (by kernel_rfl) (by kernel_rfl) (by kernel_rfl) (by kernel_rfl) (fun _ _ _ h => h) hC (by rfl) ?_ ?_
  rotate_left
  · intro w hSw; (try dsimp only at hSw); go_simp; try (with_reducible rfl)
  try simp only [Act.put, List.setIfInBounds_toArray, List.set_cons_zero, List.set_cons_succ]
  refine takeT (i := 5) (v := ?_) rfl (by kernel_rfl) (by kernel_rfl) (by kernel_rfl) (by kernel_rfl) (fun _ _ _ h => h) hC (by rfl) ?_ ?_
  rotate_left
  · intro w hSw; (try dsimp only at hSw); go_simp; try (with_reducible rfl)
  try simp only [Act.put, List.setIfInBounds_toArray, List.set_cons_zero, List.set_cons_succ]
  clear hC
  refine oneT (i := 6) (by kernel_rfl) rfl (by rfl) (fun K hK => ?_)
  go_simp
  refine (place_walk r _).mono ?_
  rintro e w' ⟨rfl, rfl⟩
  rw [HP.out]
  refine hK.out _ _ (fun _ => HC.out X0 hbX0) ?_
  clear hK K
  try simp only [Act.put, List.setIfInBounds_toArray, List.set_cons_zero, List.set_cons_succ]
  refine oneT (i := 7) (by kernel_rfl) rfl (by rfl) (fun K hK => ?_)
  go_simp
  obtain ⟨X1, s, hX, hs, hst, cs⟩ := stepB X0 (.int .i64 (i : Int)) 3
  rw [hX, hs]
  clear hX hs
  have hbX1 := hbX0.trans (hst.mono hbX0.size)
  refine hK.out _ _ (fun _ => HC.out X1 hbX1) ?_
  clear hK K hst
  try simp only [Act.put, List.setIfInBounds_toArray, List.set_cons_zero, List.set_cons_succ]
  have hA1 := hAW.below hbX1
  have hrun := fun ty => hA1.pushQ ty s i cs (by have := hok.fr; simp only; omega)
  obtain ⟨Q', w2, hr2, ⟨A3, n3, c3, rfl⟩, hha, hO2, hA2, hb2⟩ := hrun 0
  rw [hQA.out] at hr2 hA1
  have hr3 : ∀ ty, (Builtin.append_ #[62, 62] ty #[.slice A2 n2 c2, .slice (some ⟨s, 0, none⟩) 1 1]).run Tryz.prog X1 = .ok (.slice A3 n3 c3) w2 := fun ty => hr2
  refine oneT (i := 8) (by kernel_rfl) rfl (by rfl) (fun K hK => ?_)
  refine Lib.wp_append_run (P := Tryz.prog) X1 (.tmp 22) (.tmp 25) 62 62 rfl (.slice A2 n2 c2) (.slice (some ⟨s, 0, none⟩) 1 1) rfl rfl _ w2 (hr3 _) ?_
  have hhead : w2.heap[a]? = _ := hha.trans hA1.head
  have y2 : w2.cell? ⟨a, 2, none⟩ = some (.slice A2 n2 c2) := by rw [cell_of_row w2 a _ _ _ (0, 0) hhead]; rfl
  have z2 : w2.frozen? ⟨a, 2, none⟩ = false := frozen_of_row w2 a 2 _ _ hhead
  refine hK.out _ _ (fun _ => y2) ?_
  clear hK K
  try simp only [Act.put, List.setIfInBounds_toArray, List.set_cons_zero, List.set_cons_succ]
  have hC : (fun w' : World => w'.cell? ⟨a, 2, none⟩ = some (.slice A2 n2 c2)) w2 := y2
  refine oneT (i := 9) (by kernel_rfl) rfl (by rfl) (fun K hK => ?_)
  go_simp
  refine hK.out _ _ (fun _ => hC) ?_
  clear hK K
  try simp only [Act.put, List.setIfInBounds_toArray, List.set_cons_zero, List.set_cons_succ]
  refine oneT (i := 10) (by kernel_rfl) rfl (by rfl) (fun K hK => ?_)
  go_simp
  refine hK.out _ _ (fun _ => hC) ?_
  clear hK K
  try simp only [Act.put, List.setIfInBounds_toArray, List.set_cons_zero, List.set_cons_succ]
  refine oneT (i := 11) (by kernel_rfl) rfl (by rfl) (fun K hK => ?_)
  go_simp
  refine hK.out _ _ (fun h => by cases h) ?_
  clear hK K
  refine doneT (by kernel_rfl) ?_
  have HZ : Hid (Nx false F w a (S.free i p) (w2.setCell ⟨a, 2, none⟩ (.slice A3 n3 c3))) := by
    refine ⟨_, ⟨_, _, _, hA2⟩, (hOW.then (Only.of_below F hbX1)).then hO2, ?_⟩
    rintro b (e | e)
    · exact .inl e
    · exact (hb2 b e).imp id (fun e => Nat.le_trans (Nat.le_trans hOW.size hbX1.size) e)
  clear hA2 hO2 hA1 hAW hhead hha
  go_wp2
  go_ret
  exact ⟨rfl, HZ.out⟩

theorem free_no (h : Arn false F w a S) (hok : Ok S) (hno : ∀ i, ¬ Hit S r i) :
    Calls Tryz.prog 41 #[ptr a, .int .i64 r] w fun e w' => e = .returned (.bool false) ∧ Arn false F w' a S.fault ∧ Only F w w' := by
  have HR := Lib.hid (open_no h hok hno)
  clear h hno
  go_enter Tryz.func41, Tryz.ntmps41
  go_wp2_with fail
  refine HR.out.mono ?_
  rintro e w' ⟨rfl, h2, h3⟩
  go_wp2
  go_ret
  exact ⟨rfl, h2, h3⟩
theorem free_nil (r : Int) (w : World) :
    Calls Tryz.prog 41 #[nilp, .int .i64 r] w fun e w' => e = .returned (.bool false) ∧ w = w' := by
  go_enter Tryz.func41, Tryz.ntmps41
  go_wp2_with fail
  refine (right_nil r _).mono ?_
  rintro e w' ⟨rfl, rfl⟩
  go_wp2
  go_ret
  exact ⟨rfl, rfl⟩
end
end Go.Proofs.YtcegianjpifnbaaGreat
namespace Go.Proofs.YtcegianjpifnbaaGreat
open Go.ChangeShapes Go.WideShapes Go.ChangeAt Go.RowKit
set_option linter.unusedVariables false
set_option linter.unusedSimpArgs false
set_option maxRecDepth 20000

/-- The place that comes next. -/
def As.next (S : As) : Nat × As :=
  match S.fr with
  | i :: fr => (i, { S with fr := fr })
  | [] => (S.pls.length, { S with pls := S.pls ++ [Pa.nil] })
/-- A node is put there. -/
def As.alloc (S : As) (k : Nat) (nd : Nd) : As := { S.next.2 with pls := S.next.2.pls.set S.next.1 ⟨true, k, nd, nd.zs, 0, false⟩ }

theorem Sl.keepAt {w w' : World} {A : Option Addr} {n c : Nat} {zs : List Int} (h : Sl w A n c zs) (hk : ∀ ad : Addr, A = some ad → ad.block < w.heap.size → w'.heap[ad.block]? = w.heap[ad.block]?) : Sl w' A n c zs := by
  refine ⟨h.len, h.cap, h.none_, ?_⟩
  rcases h.cells with hn | ⟨b, off, rfl, hc⟩
  · exact .inl hn
  · refine .inr ⟨b, off, rfl, fun j u hu => ?_⟩
    have := hc j u hu
    exact (World.cell?_of_block (w := w) (a := ⟨b, off + j, none⟩) (hk ⟨b, off, none⟩ rfl (show b < w.heap.size from World.block_lt_of_cell? w ⟨b, off + j, none⟩ this))).trans this
theorem Lp.keepAt {w w' : World} {A : Option Addr} {n c : Nat} {l : List (Int × Int)} (h : Lp w A n c l) (hk : ∀ ad : Addr, A = some ad → ad.block < w.heap.size → w'.heap[ad.block]? = w.heap[ad.block]?) : Lp w' A n c l := by
  refine ⟨⟨h.lf.1, ?_⟩, h.cap, h.none_⟩
  rcases h.lf.2 with hn | ⟨b, off, rfl, hc⟩
  · exact .inl hn
  · refine .inr ⟨b, off, rfl, fun j u hu => ?_⟩
    have := hc j u hu
    exact (World.cell?_of_block (w := w) (a := ⟨b, off + j, none⟩) (hk ⟨b, off, none⟩ rfl (show b < w.heap.size from World.block_lt_of_cell? w ⟨b, off + j, none⟩ this))).trans this

section
variable {F : Nat → Prop} {w : World} {a : Nat} {S : As} {l : List (Pa × Vs)} {P Q : Value}
theorem next_walk (h : Ar false F w a S l P Q) (hl : l.length ≤ 70000) :
    Calls Tryz.prog 53 #[ptr a] w fun e w' => e = .returned (.int .i64 (S.next.1 : Int)) ∧ (∃ F' l' P' Q', Ar false F' w' a S.next.2 l' P' Q' ∧ ∀ b, F' b → F b ∨ w.heap.size ≤ b) ∧ Only F w w' := by
  unfold As.next
  have hp := h.lenP
  cases hf : S.fr with
  | nil =>
    refine (next_new h hf hl).mono ?_
    rintro e w' ⟨rfl, ⟨F', P', h1, h2⟩, h3⟩
    rw [hf] at h1
    exact ⟨by rw [hp], ⟨_, _, _, _, h1, h2⟩, h3⟩
  | cons i fr =>
    refine (next_old h i fr hf).mono ?_
    rintro e w' ⟨rfl, ⟨Q', h1⟩, h3⟩
    exact ⟨rfl, ⟨_, _, _, _, h1, fun _ hb => .inl hb⟩, h3⟩

/-- A place, written with a node's new rows. -/
theorem alloc_end {X Y : World} {g c i B4 : Nat} {p : Pa} {v : Vs} {F1 : Nat → Prop} {pv kv zv wv : Value} {ps : List (Int × Int)} {ks zs : List Int} (h : Ar false F1 X a S l (.slice (some ⟨g, 0, none⟩) l.length c) Q) (hx : l[i]? = some (p, v)) (hb : Below X.heap.size X Y)
    (r1 : Prs X.heap.size Y pv ps) (r2 : Row 2 X.heap.size Y kv ks) (r3 : Row 53 X.heap.size Y zv zs) (r4 : Row 53 B4 Y wv zs) (hB4 : X.heap.size ≤ B4) (hfar : ∀ b, zv.ownBlock = some b → b < B4)
    (hps : ps.length ≤ 100) (hks : ks.length ≤ 100) (hzs : zs.length ≤ 100) (x y : Bool) (k : Nat) :
    ∃ W : World, ((((((((((Y.setCell ⟨g, i * 10, none⟩ (.bool true)).setCell ⟨g, i * 10 + 1, none⟩ (.int .u32 ((k : Int) + 1))).setCell ⟨g, i * 10 + 2, none⟩ (.bool x)).setCell ⟨g, i * 10 + 3, none⟩ (.bool y)).setCell ⟨g, i * 10 + 4, none⟩ pv).setCell ⟨g, i * 10 + 5, none⟩ kv).setCell ⟨g, i * 10 + 6, none⟩ zv).setCell ⟨g, i * 10 + 7, none⟩ wv).setCell ⟨g, i * 10 + 8, none⟩ (.int .i64 0)).setCell ⟨g, i * 10 + 9, none⟩ (.bool false)) = W ∧
      Ar false (fun b => F1 b ∨ (Vs.mk pv kv zv wv).at b) W a { S with pls := S.pls.set i ⟨true, k + 1, ⟨x, y, ps, ks, zs⟩, zs, 0, false⟩ } (l.set i (⟨true, k + 1, ⟨x, y, ps, ks, zs⟩, zs, 0, false⟩, ⟨pv, kv, zv, wv⟩)) (.slice (some ⟨g, 0, none⟩) l.length c) Q ∧ Only F1 X W ∧ ∀ b, (F1 b ∨ (Vs.mk pv kv zv wv).at b) → F1 b ∨ X.heap.size ≤ b := by
  have hY := h.below hb
  have hg := grown_ten Y g (i * 10) (.bool true) (.int .u32 ((k : Int) + 1)) (.bool x) (.bool y) pv kv zv wv (.int .i64 0) (.bool false)
  have hr := own_ten (y := ((⟨true, k + 1, ⟨x, y, ps, ks, zs⟩, zs, 0, false⟩ : Pa), (⟨pv, kv, zv, wv⟩ : Vs))) hY.row hx (.bool true) (.int .u32 ((k : Int) + 1)) (.bool x) (.bool y) pv kv zv wv (.int .i64 0) (.bool false) (by simp [cellsOf])
  have q4 := World.ownsRow.lt r4
  have q3 := World.ownsRow.lt r3
  have hnew : ∀ b, (Vs.mk pv kv zv wv).at b → X.heap.size ≤ b ∧ b < Y.heap.size := by
    rintro b (e | e | e | e)
    · exact World.ownsRow.lt r1 b e
    · exact World.ownsRow.lt r2 b e
    · exact q3 b e
    · have := q4 b e; omega
  refine ⟨_, rfl, ?_, (Only.of_below F1 hb).then (Only.grown F1 hg fun b e => by injection e with e; subst e; exact h.frow g rfl), fun b e => e.imp id fun e => (hnew b e).1⟩
  refine hY.setPl hx hr hg (fun _ hb => .inl hb) (fun b e => e.elim (hY.lt b) fun e => (hnew b e).2) ⟨r1.lower (Nat.zero_le _), r2.lower (Nat.zero_le _), r3.lower (Nat.zero_le _), r4.lower (Nat.zero_le _), fun b e => .inr e, ⟨hps, hks, hzs⟩, hzs⟩ (fun b e => .inr ⟨fun hF => ?_, fun e2 => ?_⟩) (fun b e => .inr fun hF => ?_)
  · have := (q4 b e).1; have := h.lt b hF; omega
  · have := (q4 b e).1; have := hfar b e2; omega
  · have := (q3 b e).1; have := h.lt b hF; omega

theorem alloc_read {Z : World} {F1 : Nat → Prop} {l2 : List (Pa × Vs)} {g c i L : Nat} {y : Pa} {v : Vs} (h : Ar false F1 Z a S (l2.set i (y, v)) (.slice (some ⟨g, 0, none⟩) L c) Q) (hil : i < l2.length) : Z.cell? ⟨g, i * 10 + 1, none⟩ = some (.int .u32 (y.cnt : Int)) := by
  obtain ⟨g9, c9, hP9, _, _, _, _, q1, _⟩ := h.cells0 (i := i) (by rw [List.getElem?_set_self hil])
  injection hP9 with hP9
  injection hP9 with hP9
  injection hP9 with hP9
  subst hP9
  exact q1

/-- The world behind a box for the node. -/
theorem boxedA (w : World) (x y : Bool) (pv kv zv : Value) : ∃ (W : World) (b : Nat), w.alloc (.cells #[.bool x, .bool y, pv, kv, zv] 29) = W ∧ w.heap.size = b ∧ Below w.heap.size w W ∧ Five W b x y pv kv zv :=
  ⟨_, _, rfl, rfl, below_new _ _, Five.new _ rfl _ _ _ _ _⟩

set_option maxHeartbeats 1000000 in
theorem alloc_full (h : Ar false F w a S l P Q) (hok : Ok S) (hno : (S.most : Int) ≤ (S.pls.length : Int) - (S.fr.length : Int)) (x y : Bool) (pv kv zv : Value) :
    Calls Tryz.prog 38 #[ptr a, ndv x y pv kv zv] w fun e w' => e = .returned (.tuple #[.int .i64 0, .bool false]) ∧ Below w.heap.size w w' := by
  obtain ⟨W, b0, hW, hb0, hbW, h5⟩ := boxedA w x y pv kv zv
  have hA := Lib.hid (h.below hbW)
  obtain ⟨c0, c1, c2, c3⟩ := hA.out.head0
  have HF : Hid (∀ w', Below W.heap.size W w' → w'.cell? ⟨a, 0, none⟩ = some (.int .i64 (S.most : Int))) := fun w' h => below_read h c0
  clear h
  have hl1 := hok.len
  have hl2 := hok.fr
  generalize hp : S.pls.length = np at *
  generalize hq : S.fr.length = nq at *
  have HP := Lib.hid hp
  have HQ := Lib.hid hq
  clear hp hq
  go_enter Tryz.func38, Tryz.ntmps38
  go_wp2_with fail
  (try rw [hW]); (try rw [hb0]); clear hW hb0
  go_region_held3 (fun w' => w'.cell? ⟨a, 0, none⟩ = some (.int .i64 (S.most : Int))) (first | (refine HF.out _ ?_; go_grown; done) | go_keep) (first
    | (go_at_call 17; refine (used_walk (hA.out.below (by go_grown)) ?_ ?_).mono ?_; (· rw [HP.out]; omega); (· rw [HQ.out]; omega); rintro e w1 ⟨rfl, hb1⟩; rw [HP.out, HQ.out]
       have p1 : Below W.heap.size W w1 := Below.trans (by go_grown) (hb1.mono (by simp <;> omega))
       have q1 := p1.size
       clear hb1))
  all_goals go_wp2
  all_goals go_ret2
  all_goals exact ⟨rfl, hbW.trans (Below.mono (by first | exact p1 | exact p1.drew | exact below_drewN p1 _) hbW.size)⟩

set_option maxHeartbeats 8000000 in
theorem alloc_walk (h : Ar false F w a S l P Q) (hok : Ok S) (hroom : (S.pls.length : Int) - (S.fr.length : Int) < (S.most : Int)) (k : Nat) (hk : ∃ pa, S.next.2.pls[S.next.1]? = some pa ∧ pa.cnt = k) (hkb : k ≤ 1000000)
    (x y : Bool) (A B C : Option Addr) (n c m d p q : Nat) (ps : List (Int × Int)) (ks zs : List Int) (hp : Lp w A n c ps) (hkk : Sl w B m d ks) (hzz : Sl w C p q zs) (hps : ps.length ≤ 100) (hks : ks.length ≤ 100) (hzs : zs.length ≤ 100) (hnF : ∀ ad : Addr, A = some ad ∨ B = some ad ∨ C = some ad → ¬ F ad.block) :
    Calls Tryz.prog 38 #[ptr a, ndv x y (.slice A n c) (.slice B m d) (.slice C p q)] w fun e w' => e = .returned (.tuple #[.int .i64 (mk S.next.1 ((k + 1 : Nat) : Int)), .bool true]) ∧ Nx false F w a (S.alloc (k + 1) ⟨x, y, ps, ks, zs⟩) w' := by
  obtain ⟨W, b0, hW, hb0, hbW, h5⟩ := boxedA w x y (.slice A n c) (.slice B m d) (.slice C p q)
  have hA := Lib.hid (h.below hbW)
  have hlA := h.lenP
  obtain ⟨c0, c1, c2, c3⟩ := hA.out.head0
  have HF : Hid (∀ w', Below W.heap.size W w' → w'.cell? ⟨a, 0, none⟩ = some (.int .i64 (S.most : Int))) := fun w' h => below_read h c0
  have Hp := Lib.hid hp
  have Hk := Lib.hid hkk
  have Hz := Lib.hid hzz
  have HL : Hid (∀ b, F b → b < w.heap.size) := h.lt
  have HNF := Lib.hid hnF
  clear h hp hkk hzz hnF
  have hl1 := hok.len
  have hl2 := hok.fr
  have hl3 : l.length ≤ 70000 := by omega
  generalize hp : S.pls.length = np at *
  generalize hq : S.fr.length = nq at *
  have HP := Lib.hid hp
  have HQ := Lib.hid hq
  have HK := Lib.hid hk
  clear hp hq hk hlA
  have hge : ¬ ((S.most : Int) ≤ (np : Int) - (nq : Int)) := by omega
  go_enter Tryz.func38, Tryz.ntmps38
  go_wp2_with fail
  (try rw [hW]); (try rw [hb0])
  have hb0w := Lib.hid hb0
  clear hW hb0
  go_region_held3 (fun w' => w'.cell? ⟨a, 0, none⟩ = some (.int .i64 (S.most : Int))) (first | (refine HF.out _ ?_; go_grown; done) | go_keep) (first
    | (go_at_call 17; refine (used_walk (hA.out.below (by go_grown)) ?_ ?_).mono ?_; (· rw [HP.out]; omega); (· rw [HQ.out]; omega); rintro e w1 ⟨rfl, hb1⟩; rw [HP.out, HQ.out]
       have p1 : Below W.heap.size W w1 := Below.trans (by go_grown) (hb1.mono (by simp <;> omega))
       have q1 := p1.size
       clear hb1))
  go_wp2_with fail
  have HA1 := hA.out.below p1
  refine (next_walk HA1 hl3).mono ?_
  rintro e X ⟨rfl, ⟨F2, l2, P2, Q2, hA2, hF2⟩, hO2⟩
  obtain ⟨pa, hpa, hcnt⟩ := HK.out
  obtain ⟨⟨p', v⟩, hx, hp'⟩ := hA2.at_ hpa
  simp only at hp'
  subst hp'
  obtain ⟨d0, d1, d2, d3⟩ := hA2.head0
  obtain ⟨g, c', rfl, hgX, hFg, hil, e0, e1, e2, e3, e4, e5, e6, e7, e8, e9, hz⟩ := hA2.cells0 hx
  simp only at e0 e1 e2 e3 e4 e5 e6 e7 e8 e9
  have hFb : ∀ b, F b → b ≠ b0 := fun b hF e => by have h1 := HL.out b hF; have h2 := hb0w.out; omega
  have h5X : Five X b0 x y (.slice A n c) (.slice B m d) (.slice C p q) := (hO2.block b0 (Nat.lt_of_lt_of_le h5.lt q1) (fun hF => hFb b0 hF rfl)).trans (h5.below p1)
  have HN0 : Hid (∀ (Z : World) (G : Nat → Prop), Arn false G Z a (S.alloc (k + 1) ⟨x, y, ps, ks, zs⟩) → Only F2 X Z → (∀ b, G b → F2 b ∨ X.heap.size ≤ b) → Nx false F w a (S.alloc (k + 1) ⟨x, y, ps, ks, zs⟩) Z) := by
    intro Z G h1 h2 h3
    have hOw : Only F w X := (Only.of_below F (hbW.trans (p1.mono hbW.size))).then hO2
    have hs1 : w.heap.size ≤ w1.heap.size := Nat.le_trans hbW.size q1
    have hF3 : ∀ b, F2 b → F b ∨ w.heap.size ≤ b := fun b e => (hF2 b e).imp id fun e => Nat.le_trans hs1 e
    exact ⟨G, h1, hOw.trans h2 hF3, fun b e => (h3 b e).elim (hF3 b) fun e => .inr (Nat.le_trans hOw.size e)⟩
  have hKb : ∀ b, b < w.heap.size → ¬ F b → X.heap[b]? = w.heap[b]? := fun b hb hF => (hO2.block b (Nat.lt_of_lt_of_le hb (Nat.le_trans hbW.size q1)) hF).trans ((hbW.trans (p1.mono hbW.size)).block b hb)
  have KP : Hid (Lp X A n c ps) := Hp.out.keepAt fun ad e hl => hKb _ hl (HNF.out ad (.inl e))
  have KK : Hid (Sl X B m d ks) := Hk.out.keepAt fun ad e hl => hKb _ hl (HNF.out ad (.inr (.inl e)))
  have KZ : Hid (Sl X C p q zs) := Hz.out.keepAt fun ad e hl => hKb _ hl (HNF.out ad (.inr (.inr e)))
  rw [hcnt] at e1
  obtain ⟨b1, b2, b3, b4, b5⟩ := h5X.cells
  have HC : Hid (∀ w', Below X.heap.size X w' → (w'.cell? ⟨g, S.next.1 * 10 + 1, none⟩ = some (.int .u32 (k : Int)) ∧ w'.cell? ⟨b0, 0, none⟩ = some (.bool x) ∧ w'.cell? ⟨b0, 1, none⟩ = some (.bool y) ∧ w'.cell? ⟨b0, 2, none⟩ = some (.slice A n c) ∧ w'.cell? ⟨b0, 3, none⟩ = some (.slice B m d) ∧ w'.cell? ⟨b0, 4, none⟩ = some (.slice C p q))) :=
    fun w' h => ⟨below_read h e1, below_read h b1, below_read h b2, below_read h b3, below_read h b4, below_read h b5⟩
  have hwr : IntKind.u32.wrap ((k : Int) + 1) = (k : Int) + 1 := by simp only [IntKind.wrap_u32]; omega
  obtain ⟨kk, hk1⟩ : ∃ kk : Int, Hid (((k + 1 : Nat) : Int) = kk) := ⟨_, rfl⟩
  have HS : Hid (S.alloc (k + 1) ⟨x, y, ps, ks, zs⟩ = { S.next.2 with pls := S.next.2.pls.set S.next.1 ⟨true, k + 1, ⟨x, y, ps, ks, zs⟩, zs, 0, false⟩ }) := rfl
  generalize hS2 : S.next.2 = S2 at *
  generalize hi2 : S.next.1 = i at *
  have HI := Lib.hid hi2
  clear hS2 hi2
  have i0 : (0 : Int) ≤ (i : Int) := by omega
  have i1 : (i : Int) < (l2.length : Int) := by omega
  clear hpa HK HA1 hO2 hF2 d0 d2 d3 hcnt hFb hKb
  go_wp2_with fail
  refine region_T (fun k => k == 15) (fun w' => w'.cell? ⟨g, i * 10 + 1, none⟩ = some (.int .u32 (k : Int)) ∧ w'.cell? ⟨b0, 0, none⟩ = some (.bool x) ∧ w'.cell? ⟨b0, 1, none⟩ = some (.bool y) ∧ w'.cell? ⟨b0, 2, none⟩ = some (.slice A n c) ∧ w'.cell? ⟨b0, 3, none⟩ = some (.slice B m d) ∧ w'.cell? ⟨b0, 4, none⟩ = some (.slice C p q)) (by kernel_rfl) ?_
  obtain ⟨X0, hX0, hbX0⟩ : ∃ X0 : World, X.drew = X0 ∧ Below X.heap.size X X0 := ⟨_, rfl, (Below.refl _ X).drew⟩
  rw [hX0]
  clear hX0
  have hC := HC.out X0 hbX0
  refine takeT (i := 0) (v := ?_) rfl (by kernel_rfl) (by kernel_rfl) (by kernel_rfl) (by kernel_rfl) (fun _ _ _ h => h) hC (by rfl) ?_ ?_
  rotate_left
  · intro w hSw; (try dsimp only at hSw); go_simp; try (with_reducible rfl)
  try simp only [Act.put, List.setIfInBounds_toArray, List.set_cons_zero, List.set_cons_succ]
  refine takeT (i := 1) (v := ?_) rfl (by kernel_rfl) (by kernel_rfl) (by kernel_rfl) (by kernel_rfl) (fun _ _ _ h => h) hC (by rfl) ?_ ?_
  rotate_left
  · intro w hSw; (try dsimp only at hSw); go_simp; try (with_reducible rfl)
  try simp only [Act.put, List.setIfInBounds_toArray, List.set_cons_zero, List.set_cons_succ]
  refine takeT (i := 2) (v := ?_) rfl (by kernel_rfl) (by kernel_rfl) (by kernel_rfl) (by kernel_rfl) (fun _ _ _ h => h) hC (by rfl) ?_ ?_
  rotate_left
  · intro w hSw; (try dsimp only at hSw); go_simp; try (with_reducible rfl)
  try simp only [Act.put, List.setIfInBounds_toArray, List.set_cons_zero, List.set_cons_succ]
  refine takeT (i := 3) (v := ?_) rfl (by kernel_rfl) (by kernel_rfl) (by kernel_rfl) (by kernel_rfl) (fun _ _ _ h => h) hC (by rfl) ?_ ?_
  rotate_left
  · intro w hSw; (try dsimp only at hSw); go_simp; try (with_reducible rfl)
  try simp only [Act.put, List.setIfInBounds_toArray, List.set_cons_zero, List.set_cons_succ]
  refine takeT (i := 4) (v := ?_) rfl (by kernel_rfl) (by kernel_rfl) (by kernel_rfl) (by kernel_rfl) (fun _ _ _ h => h) hC (by rfl) ?_ ?_
  rotate_left
  · intro w hSw; (try dsimp only at hSw); go_simp; try (with_reducible rfl)
  try simp only [Act.put, List.setIfInBounds_toArray, List.set_cons_zero, List.set_cons_succ]
  refine takeT (i := 5) (v := ?_) rfl (by kernel_rfl) (by kernel_rfl) (by kernel_rfl) (by kernel_rfl) (fun _ _ _ h => h) hC (by rfl) ?_ ?_
  rotate_left
  · intro w hSw; (try dsimp only at hSw); go_simp; try (with_reducible rfl)
  try simp only [Act.put, List.setIfInBounds_toArray, List.set_cons_zero, List.set_cons_succ]
  refine takeT (i := 6) (v := ?_) rfl (by kernel_rfl) (by kernel_rfl) (by kernel_rfl) (by kernel_rfl) (fun _ _ _ h => h) hC (by rfl) ?_ ?_
  rotate_left
  · intro w hSw; (try dsimp only at hSw); go_simp; try (with_reducible rfl)
  try simp only [Act.put, List.setIfInBounds_toArray, List.set_cons_zero, List.set_cons_succ]
  refine takeT (i := 8) (v := ?_) rfl (by kernel_rfl) (by kernel_rfl) (by kernel_rfl) (by kernel_rfl) (fun _ _ _ h => h) hC (by rfl) ?_ ?_
  rotate_left
  · intro w hSw; (try dsimp only at hSw); go_simp; try (with_reducible rfl)
  try simp only [Act.put, List.setIfInBounds_toArray, List.set_cons_zero, List.set_cons_succ]
  refine takeT (i := 9) (v := ?_) rfl (by kernel_rfl) (by kernel_rfl) (by kernel_rfl) (by kernel_rfl) (fun _ _ _ h => h) hC (by rfl) ?_ ?_
  rotate_left
  · intro w hSw; (try dsimp only at hSw); go_simp; try (with_reducible rfl)
  try simp only [Act.put, List.setIfInBounds_toArray, List.set_cons_zero, List.set_cons_succ]
  refine takeT (i := 10) (v := ?_) rfl (by kernel_rfl) (by kernel_rfl) (by kernel_rfl) (by kernel_rfl) (fun _ _ _ h => h) hC (by rfl) ?_ ?_
  rotate_left
  · intro w hSw; (try dsimp only at hSw); go_simp; try (with_reducible rfl)
  try simp only [Act.put, List.setIfInBounds_toArray, List.set_cons_zero, List.set_cons_succ]
  clear hC
  refine twoT (i := 7) (j := 11) (by kernel_rfl) rfl rfl (by rfl) (by rfl) (fun K hK => ?_) (fun K hK => ?_)
  · go_simp
    refine (nodeSame_walk x y A B C n c m d p q ps ks zs X0 (KP.out.below hbX0) (KK.out.below hbX0) (KZ.out.below hbX0) hps hks hzs).mono ?_
    rintro e X1 ⟨v1, v2, v3, rfl, r1, r2, r3, hst⟩
    obtain ⟨F1, N1, f1, rfl⟩ := r1.shape
    obtain ⟨F2, N2, f2, rfl⟩ := r2.shape
    obtain ⟨F3, N3, f3, rfl⟩ := r3.shape
    replace r1 := r1.lower (base' := X.heap.size) hbX0.size
    replace r2 := r2.lower (base' := X.heap.size) hbX0.size
    replace r3 := r3.lower (base' := X.heap.size) hbX0.size
    have hbX1 := hbX0.trans (hst.mono hbX0.size)
    refine hK.out _ _ (fun _ => HC.out X1 hbX1) ?_
    clear hK K hst
    try simp only [Act.put, List.setIfInBounds_toArray, List.set_cons_zero, List.set_cons_succ]
    refine oneT (i := 11) (by kernel_rfl) rfl (by rfl) (fun K hK => ?_)
    go_simp
    obtain ⟨X2, bz, hX, hbz, hst, cbz⟩ := stepB X1 (.slice C p q) 25
    rw [hX, hbz]
    clear hX hbz
    have hbX2 := hbX1.trans (hst.mono hbX1.size)
    replace r1 := r1.next hst
    replace r2 := r2.next hst
    replace r3 := r3.next hst
    refine hK.out _ _ (fun _ => HC.out X2 hbX2) ?_
    clear hK K hst
    try simp only [Act.put, List.setIfInBounds_toArray, List.set_cons_zero, List.set_cons_succ]
    refine oneT (i := 12) (by kernel_rfl) rfl (by rfl) (fun K hK => ?_)
    go_simp
    refine (concatR1 bz C p q zs X2 cbz (KZ.out.below hbX2) (by omega)).mono ?_
    rintro e X3 ⟨v4, rfl, r4, hst⟩
    obtain ⟨F4, N4, f4, rfl⟩ := r4.shape
    have hbX3 := hbX2.trans (hst.mono hbX2.size)
    have hfar : ∀ b, (Value.slice F3 N3 f3).ownBlock = some b → b < X2.heap.size := fun b e => (World.ownsRow.lt r3 b e).2
    replace r1 := r1.next hst
    replace r2 := r2.next hst
    replace r3 := r3.next hst
    refine hK.out _ _ (fun _ => HC.out X3 hbX3) ?_
    clear hK K hst
    try simp only [Act.put, List.setIfInBounds_toArray, List.set_cons_zero, List.set_cons_succ]
    have hC := HC.out X3 hbX3
    refine oneT (i := 13) (by kernel_rfl) rfl (by rfl) (fun K hK => ?_)
    go_simp
    refine hK.out _ _ (fun _ => hC) ?_
    clear hK K
    try simp only [Act.put, List.setIfInBounds_toArray, List.set_cons_zero, List.set_cons_succ]
    refine oneT (i := 14) (by kernel_rfl) rfl (by rfl) (fun K hK => ?_)
    go_simp
    refine hK.out _ _ (fun _ => hC) ?_
    clear hK K
    try simp only [Act.put, List.setIfInBounds_toArray, List.set_cons_zero, List.set_cons_succ]
    obtain ⟨Z, hZ, hAZ, hOZ, hGZ⟩ := alloc_end hA2 hx hbX3 r1 r2 r3 r4 hbX2.size hfar hps hks hzs x y k
    have HZ := Lib.hid hZ
    clear hZ
    have j0 := below_read hbX3 e0
    have z0 := (hbX3.frozen (p := ⟨g, i * 10, none⟩) hgX).trans (hz (i * 10))
    have j1 := below_read hbX3 e1
    have z1 := (hbX3.frozen (p := ⟨g, i * 10 + 1, none⟩) hgX).trans (hz (i * 10 + 1))
    have j2 := below_read hbX3 e2
    have z2 := (hbX3.frozen (p := ⟨g, i * 10 + 2, none⟩) hgX).trans (hz (i * 10 + 2))
    have j3 := below_read hbX3 e3
    have z3 := (hbX3.frozen (p := ⟨g, i * 10 + 3, none⟩) hgX).trans (hz (i * 10 + 3))
    have j4 := below_read hbX3 e4
    have z4 := (hbX3.frozen (p := ⟨g, i * 10 + 4, none⟩) hgX).trans (hz (i * 10 + 4))
    have j5 := below_read hbX3 e5
    have z5 := (hbX3.frozen (p := ⟨g, i * 10 + 5, none⟩) hgX).trans (hz (i * 10 + 5))
    have j6 := below_read hbX3 e6
    have z6 := (hbX3.frozen (p := ⟨g, i * 10 + 6, none⟩) hgX).trans (hz (i * 10 + 6))
    have j7 := below_read hbX3 e7
    have z7 := (hbX3.frozen (p := ⟨g, i * 10 + 7, none⟩) hgX).trans (hz (i * 10 + 7))
    have j8 := below_read hbX3 e8
    have z8 := (hbX3.frozen (p := ⟨g, i * 10 + 8, none⟩) hgX).trans (hz (i * 10 + 8))
    have j9 := below_read hbX3 e9
    have z9 := (hbX3.frozen (p := ⟨g, i * 10 + 9, none⟩) hgX).trans (hz (i * 10 + 9))
    refine oneT (i := 15) (by kernel_rfl) rfl (by rfl) (fun K hK => ?_)
    go_simp
    refine hK.out _ _ (fun h => by cases h) ?_
    clear hK K
    refine doneT (by kernel_rfl) ?_
    rw [HZ.out]
    clear j0 z0 j1 z1 j2 z2 j3 z3 j4 z4 j5 z5 j6 z6 j7 z7 j8 z8 j9 z9
    have q1 := alloc_read hAZ hil
    have HN := Lib.hid (HN0.out Z _ ⟨_, _, _, by rw [HS.out]; exact hAZ⟩ hOZ hGZ)
    clear hAZ hOZ hGZ hC hx hfar r1 r2 r3 r4 e0 e1 e2 e3 e4 e5 e6 e7 e8 e9 hz b1 b2 b3 b4 b5 cbz hA2 h5X KP KK KZ HC HN0 d1 hwr hge hroom
    rw [hk1.out] at q1
    go_wp2_with fail
    refine (of_walk i kk (by have := hk1.out; omega) _).mono ?_
    rintro e w' ⟨rfl, rfl⟩
    go_wp2
    go_ret2
    refine ⟨?_, HN.out⟩
    rw [HI.out, hk1.out]
    rfl
  · go_simp
    obtain ⟨X1, bz, hX, hbz, hst, cbz⟩ := stepB X0 (.slice C p q) 25
    rw [hX, hbz]
    clear hX hbz
    have hbX1 := hbX0.trans (hst.mono hbX0.size)
    refine hK.out _ _ (fun _ => HC.out X1 hbX1) ?_
    clear hK K hst
    try simp only [Act.put, List.setIfInBounds_toArray, List.set_cons_zero, List.set_cons_succ]
    refine oneT (i := 7) (by kernel_rfl) rfl (by rfl) (fun K hK => ?_)
    go_simp
    refine (nodeSame_walk x y A B C n c m d p q ps ks zs X1 (KP.out.below hbX1) (KK.out.below hbX1) (KZ.out.below hbX1) hps hks hzs).mono ?_
    rintro e X2 ⟨v1, v2, v3, rfl, r1, r2, r3, hst⟩
    obtain ⟨F1, N1, f1, rfl⟩ := r1.shape
    obtain ⟨F2, N2, f2, rfl⟩ := r2.shape
    obtain ⟨F3, N3, f3, rfl⟩ := r3.shape
    replace r1 := r1.lower (base' := X.heap.size) hbX1.size
    replace r2 := r2.lower (base' := X.heap.size) hbX1.size
    replace r3 := r3.lower (base' := X.heap.size) hbX1.size
    have hbX2 := hbX1.trans (hst.mono hbX1.size)
    replace cbz := below_read hst cbz
    refine hK.out _ _ (fun _ => HC.out X2 hbX2) ?_
    clear hK K hst
    try simp only [Act.put, List.setIfInBounds_toArray, List.set_cons_zero, List.set_cons_succ]
    refine oneT (i := 12) (by kernel_rfl) rfl (by rfl) (fun K hK => ?_)
    go_simp
    refine (concatR1 bz C p q zs X2 cbz (KZ.out.below hbX2) (by omega)).mono ?_
    rintro e X3 ⟨v4, rfl, r4, hst⟩
    obtain ⟨F4, N4, f4, rfl⟩ := r4.shape
    have hbX3 := hbX2.trans (hst.mono hbX2.size)
    have hfar : ∀ b, (Value.slice F3 N3 f3).ownBlock = some b → b < X2.heap.size := fun b e => (World.ownsRow.lt r3 b e).2
    replace r1 := r1.next hst
    replace r2 := r2.next hst
    replace r3 := r3.next hst
    refine hK.out _ _ (fun _ => HC.out X3 hbX3) ?_
    clear hK K hst
    try simp only [Act.put, List.setIfInBounds_toArray, List.set_cons_zero, List.set_cons_succ]
    have hC := HC.out X3 hbX3
    refine oneT (i := 13) (by kernel_rfl) rfl (by rfl) (fun K hK => ?_)
    go_simp
    refine hK.out _ _ (fun _ => hC) ?_
    clear hK K
    try simp only [Act.put, List.setIfInBounds_toArray, List.set_cons_zero, List.set_cons_succ]
    refine oneT (i := 14) (by kernel_rfl) rfl (by rfl) (fun K hK => ?_)
    go_simp
    refine hK.out _ _ (fun _ => hC) ?_
    clear hK K
    try simp only [Act.put, List.setIfInBounds_toArray, List.set_cons_zero, List.set_cons_succ]
    obtain ⟨Z, hZ, hAZ, hOZ, hGZ⟩ := alloc_end hA2 hx hbX3 r1 r2 r3 r4 hbX2.size hfar hps hks hzs x y k
    have HZ := Lib.hid hZ
    clear hZ
    have j0 := below_read hbX3 e0
    have z0 := (hbX3.frozen (p := ⟨g, i * 10, none⟩) hgX).trans (hz (i * 10))
    have j1 := below_read hbX3 e1
    have z1 := (hbX3.frozen (p := ⟨g, i * 10 + 1, none⟩) hgX).trans (hz (i * 10 + 1))
    have j2 := below_read hbX3 e2
    have z2 := (hbX3.frozen (p := ⟨g, i * 10 + 2, none⟩) hgX).trans (hz (i * 10 + 2))
    have j3 := below_read hbX3 e3
    have z3 := (hbX3.frozen (p := ⟨g, i * 10 + 3, none⟩) hgX).trans (hz (i * 10 + 3))
    have j4 := below_read hbX3 e4
    have z4 := (hbX3.frozen (p := ⟨g, i * 10 + 4, none⟩) hgX).trans (hz (i * 10 + 4))
    have j5 := below_read hbX3 e5
    have z5 := (hbX3.frozen (p := ⟨g, i * 10 + 5, none⟩) hgX).trans (hz (i * 10 + 5))
    have j6 := below_read hbX3 e6
    have z6 := (hbX3.frozen (p := ⟨g, i * 10 + 6, none⟩) hgX).trans (hz (i * 10 + 6))
    have j7 := below_read hbX3 e7
    have z7 := (hbX3.frozen (p := ⟨g, i * 10 + 7, none⟩) hgX).trans (hz (i * 10 + 7))
    have j8 := below_read hbX3 e8
    have z8 := (hbX3.frozen (p := ⟨g, i * 10 + 8, none⟩) hgX).trans (hz (i * 10 + 8))
    have j9 := below_read hbX3 e9
    have z9 := (hbX3.frozen (p := ⟨g, i * 10 + 9, none⟩) hgX).trans (hz (i * 10 + 9))
    refine oneT (i := 15) (by kernel_rfl) rfl (by rfl) (fun K hK => ?_)
    go_simp
    refine hK.out _ _ (fun h => by cases h) ?_
    clear hK K
    refine doneT (by kernel_rfl) ?_
    rw [HZ.out]
    clear j0 z0 j1 z1 j2 z2 j3 z3 j4 z4 j5 z5 j6 z6 j7 z7 j8 z8 j9 z9
    have q1 := alloc_read hAZ hil
    have HN := Lib.hid (HN0.out Z _ ⟨_, _, _, by rw [HS.out]; exact hAZ⟩ hOZ hGZ)
    clear hAZ hOZ hGZ hC hx hfar r1 r2 r3 r4 e0 e1 e2 e3 e4 e5 e6 e7 e8 e9 hz b1 b2 b3 b4 b5 cbz hA2 h5X KP KK KZ HC HN0 d1 hwr hge hroom
    rw [hk1.out] at q1
    go_wp2_with fail
    refine (of_walk i kk (by have := hk1.out; omega) _).mono ?_
    rintro e w' ⟨rfl, rfl⟩
    go_wp2
    go_ret2
    refine ⟨?_, HN.out⟩
    rw [HI.out, hk1.out]
    rfl
end
end Go.Proofs.YtcegianjpifnbaaGreat
namespace Go.Proofs.YtcegianjpifnbaaGreat
open Go.ChangeShapes Go.WideShapes Go.ChangeAt Go.RowKit
set_option linter.unusedVariables false
set_option linter.unusedSimpArgs false
set_option maxRecDepth 20000

/-- A value reads as a node, in memory from block lo on. -/
def RdN (lo : Nat) (w : World) (v : Value) (nd : Nd) : Prop :=
  ∃ A c B d C q, v = ndv nd.inn nd.tag (.slice A nd.ps.length c) (.slice B nd.ks.length d) (.slice C nd.zs.length q) ∧ Lp w A nd.ps.length c nd.ps ∧ Sl w B nd.ks.length d nd.ks ∧ Sl w C nd.zs.length q nd.zs ∧ ∀ ad : Addr, A = some ad ∨ B = some ad ∨ C = some ad → lo ≤ ad.block
theorem RdN.nil (lo : Nat) (w : World) (x y : Bool) : RdN lo w (ndv x y (.slice none 0 0) (.slice none 0 0) (.slice none 0 0)) ⟨x, y, [], [], []⟩ :=
  ⟨none, 0, none, 0, none, 0, rfl, Lp.nil _, Sl.nil _, Sl.nil _, fun ad e => by rcases e with e | e | e <;> cases e⟩
theorem RdN.below {lo : Nat} {w w' : World} {v : Value} {nd : Nd} (h : RdN lo w v nd) (hb : Below w.heap.size w w') : RdN lo w' v nd := by
  obtain ⟨A, c, B, d, C, q, e, h1, h2, h3, h4⟩ := h
  exact ⟨A, c, B, d, C, q, e, h1.below hb, h2.below hb, h3.below hb, h4⟩
theorem RdN.only {lo : Nat} {F : Nat → Prop} {w w' : World} {v : Value} {nd : Nd} (h : RdN lo w v nd) (hb : Only F w w') (hF : ∀ b, F b → b < lo) : RdN lo w' v nd := by
  obtain ⟨A, c, B, d, C, q, e, h1, h2, h3, h4⟩ := h
  have key : ∀ ad : Addr, (A = some ad ∨ B = some ad ∨ C = some ad) → ad.block < w.heap.size → w'.heap[ad.block]? = w.heap[ad.block]? := fun ad e hl => hb.block _ hl fun hf => by have := hF _ hf; have := h4 ad e; omega
  exact ⟨A, c, B, d, C, q, e, h1.keepAt fun ad e hl => key ad (.inl e) hl, h2.keepAt fun ad e hl => key ad (.inr (.inl e)) hl, h3.keepAt fun ad e hl => key ad (.inr (.inr e)) hl, h4⟩
theorem own_ad {w : World} {base : Nat} {e : TypeId} {size n : Nat} {A : Option Addr} {l c : Nat} {xs : List Value} (h : w.ownsRow base e size (.slice A l c) n xs) {ad : Addr} (ha : A = some ad) : base ≤ ad.block := by
  subst ha
  exact (h.lt ad.block rfl).1
theorem MadeN.rd {w w' : World} {nd : Nd} {e : Ending} (h : MadeN w nd e w') : ∃ v, e = .returned v ∧ RdN w.heap.size w' v nd ∧ Below w.heap.size w w' := by
  obtain ⟨pv, kv, zv, rfl, h1, h2, h3, hb⟩ := h
  obtain ⟨A, c, rfl, s1⟩ := h1.form
  obtain ⟨B, d, rfl, s2⟩ := h2.form
  obtain ⟨C, q, rfl, s3⟩ := h3.form
  refine ⟨_, rfl, ⟨A, c, B, d, C, q, rfl, s1, s2, s3, fun ad e => ?_⟩, hb⟩
  rcases e with e | e | e
  · exact own_ad h1 e
  · exact own_ad h2 e
  · exact own_ad h3 e

section
variable {F : Nat → Prop} {w : World} {a : Nat} {S : As} {nd : Nd} {lo : Nat} {v : Value}
theorem alloc_yes (h : Arn false F w a S) (hok : Ok S) (hroom : (S.pls.length : Int) - (S.fr.length : Int) < (S.most : Int)) (k : Nat) (hk : ∃ pa, S.next.2.pls[S.next.1]? = some pa ∧ pa.cnt = k) (hkb : k ≤ 1000000) (hv : RdN lo w v nd) (hlo : ∀ b, F b → b < lo) (hs : nd.small) :
    Calls Tryz.prog 38 #[ptr a, v] w fun e w' => e = .returned (.tuple #[.int .i64 (mk S.next.1 ((k + 1 : Nat) : Int)), .bool true]) ∧ Nx false F w a (S.alloc (k + 1) nd) w' := by
  obtain ⟨A, c, B, d, C, q, rfl, h1, h2, h3, h4⟩ := hv
  obtain ⟨l, P, Q, h⟩ := h
  obtain ⟨x, y, ps, ks, zs⟩ := nd
  exact alloc_walk h hok hroom k hk hkb x y A B C _ c _ d _ q ps ks zs h1 h2 h3 hs.1 hs.2.1 hs.2.2 (fun ad e hF => by have := h4 ad e; have := hlo _ hF; omega)
theorem alloc_not (h : Arn false F w a S) (hok : Ok S) (hno : (S.most : Int) ≤ (S.pls.length : Int) - (S.fr.length : Int)) (hv : RdN lo w v nd) :
    Calls Tryz.prog 38 #[ptr a, v] w fun e w' => e = .returned (.tuple #[.int .i64 0, .bool false]) ∧ Below w.heap.size w w' := by
  obtain ⟨A, c, B, d, C, q, rfl, h1, h2, h3, h4⟩ := hv
  obtain ⟨l, P, Q, h⟩ := h
  exact alloc_full h hok hno _ _ _ _ _
set_option maxHeartbeats 1000000 in
theorem alloc_nil (hv : RdN lo w v nd) :
    Calls Tryz.prog 38 #[nilp, v] w fun e w' => e = .returned (.tuple #[.int .i64 0, .bool false]) ∧ Below w.heap.size w w' := by
  obtain ⟨A, c, B, d, C, q, rfl, h1, h2, h3, h4⟩ := hv
  clear h1 h2 h3 h4
  go_enter Tryz.func38, Tryz.ntmps38
  go_wp2
  go_quiet (fail)
  go_wp2
  go_ret2
  refine ⟨rfl, ?_⟩
  first | exact below_drewN (below_new _ _) _ | exact (below_new _ _).drew
end
end Go.Proofs.YtcegianjpifnbaaGreat
