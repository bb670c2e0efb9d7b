/-
  Words for the law ArenaReuses: an arena beside two rows of references; places by their numbers.
-/
import Derived.Test.YtbalhjfkkigchaaLawG
namespace Go.Proofs.Ytbalhjfkkigchaa
open Go.ChangeShapes Go.WideShapes Go.ChangeAt Go.RowKit
set_option linter.unusedVariables false
set_option linter.unusedSimpArgs false
set_option maxRecDepth 20000

/-- Places as a function of their number. -/
def upd (f : Nat → Pa) (i : Nat) (p : Pa) : Nat → Pa := fun j => if j = i then p else f j
theorem upd_same (f : Nat → Pa) (i : Nat) (p : Pa) : upd f i p i = p := by simp [upd]
theorem upd_other (f : Nat → Pa) {i j : Nat} (p : Pa) (h : j ≠ i) : upd f i p j = f j := by simp [upd, h]
def fnS (M n : Nat) (f : Nat → Pa) (fr : List Nat) : As := ⟨M, (List.range n).map f, fr, 0⟩
theorem fn_set (n : Nat) (f : Nat → Pa) (i : Nat) (p : Pa) : ((List.range n).map f).set i p = (List.range n).map (upd f i p) := by
  apply List.ext_getElem?
  intro j
  by_cases hj : j < n
  · by_cases e : i = j
    · subst e
      rw [List.getElem?_set_self (by simpa using hj)]
      simp [hj, upd]
    · rw [List.getElem?_set_ne e]
      have e' : j ≠ i := fun h => e h.symm
      simp [hj, upd, e']
  · rw [List.getElem?_eq_none (by simp; omega), List.getElem?_eq_none (by simp; omega)]
theorem fn_push (n : Nat) (f : Nat → Pa) (p : Pa) : (List.range n).map f ++ [p] = (List.range (n + 1)).map (upd f n p) := by
  rw [List.range_succ, List.map_append]
  congr 1
  · apply List.map_congr_left
    intro j hj
    have : j < n := List.mem_range.1 hj
    rw [upd_other _ _ (by omega)]
  · simp [upd]
theorem fnS_free (M n : Nat) (f : Nat → Pa) (fr : List Nat) (i : Nat) (p : Pa) : (fnS M n f fr).free i p = fnS M n (upd f i (Pa.gone p.cnt)) (fr ++ [i]) := by
  simp only [fnS, As.free, fn_set]
theorem fnS_old (M n : Nat) (f : Nat → Pa) (i : Nat) (fr : List Nat) (k : Nat) (nd : Nd) : (fnS M n f (i :: fr)).alloc k nd = fnS M n (upd f i (Pa.one k nd)) fr := by
  simp only [fnS, As.alloc, As.next, fn_set, Pa.one]
theorem fnS_new (M n : Nat) (f : Nat → Pa) (k : Nat) (nd : Nd) : (fnS M n f []).alloc k nd = fnS M (n + 1) (upd f n (Pa.one k nd)) [] := by
  simp only [fnS, As.alloc, As.next, List.length_map, List.length_range, Pa.one]
  congr 1
  rw [List.set_append_right _ _ (by simp), ← fn_push]
  simp
theorem fnS_ok {M n : Nat} {f : Nat → Pa} {fr : List Nat} (hn : n ≤ 70000) (hf : ∀ i, i < n → (f i).cnt ≤ 1000000) (hfr : fr.length ≤ 70000) : Ok (fnS M n f fr) := by
  refine ⟨by simpa [fnS] using hn, fun p hp => ?_, by simp [fnS], hfr⟩
  simp [fnS] at hp
  obtain ⟨i, hi, rfl⟩ := hp
  exact hf i hi
theorem fnS_at {M n : Nat} {f : Nat → Pa} {fr : List Nat} {i : Nat} (h : i < n) : (fnS M n f fr).pls[i]? = some (f i) := by simp [fnS, h]

/-- An arena at a beside two rows of references. -/
structure TT (w : World) (F : Nat → Prop) (a : Nat) (S : As) (lv : Value) (ls : List Int) (gv : Value) (gs : List Int) (wr : World) : Prop where
  live : TI w F a S lv ls wr
  gone : TI w F a S gv gs wr
  apart : ∀ c, lv.ownBlock = some c → gv.ownBlock ≠ some c
section
variable {w wr wr' : World} {F : Nat → Prop} {a : Nat} {S S' : As} {lv gv : Value} {ls gs : List Int}
theorem TT.next (h : TT w F a S lv ls gv gs wr) (hb : Below wr.heap.size wr wr') : TT w F a S lv ls gv gs wr' := ⟨h.live.next hb, h.gone.next hb, h.apart⟩
theorem TI.nx3 {F' : Nat → Prop} {tv : Value} {zs : List Int} (h : TI w F a S tv zs wr) (h1 : Arn false F' wr' a S') (ho : Only F wr wr') (h3 : ∀ b, F' b → F b ∨ wr.heap.size ≤ b) : TI w F' a S' tv zs wr' := by
  refine ⟨h1, own_at h.tol fun c e => ho.block c (World.ownsRow.lt h.tol c e).2 (h.nf c e), fun c e hF => ?_, fun c hF => ?_, h.below.trans (ho.below h.low h.below.size)⟩
  · rcases h3 c hF with h4 | h4
    · exact h.nf c e h4
    · have := (World.ownsRow.lt h.tol c e).2; omega
  · rcases h3 c hF with h4 | h4
    · exact h.low c h4
    · exact Nat.le_trans h.below.size h4
theorem TT.nx (h : TT w F a S lv ls gv gs wr) (hn : Nx false F wr a S' wr') : ∃ F', TT w F' a S' lv ls gv gs wr' := by
  obtain ⟨F', h1, ho, h3⟩ := hn
  exact ⟨F', h.live.nx3 h1 ho h3, h.gone.nx3 h1 ho h3, h.apart⟩
theorem TI.beside {tv tv' v' : Value} {zs zs' zs2 : List Int} (h : TI w F a S tv zs wr) (h' : TI w F a S v' zs2 wr') (hg : wr.grownBy wr' tv'.ownBlock) (hne : ∀ c, tv.ownBlock = some c → tv'.ownBlock ≠ some c) : TI w F a S tv zs wr' := by
  refine ⟨h'.arn, h.tol.grown hg ?_, h.nf, h.low, h'.below⟩
  cases e : tv.ownBlock with
  | none => exact .inl rfl
  | some c => exact .inr fun e2 => hne c e (by rw [← e2])
theorem TT.pushL (h : TT w F a S lv ls gv gs wr) {v' : Value} {zs' : List Int} (hr : Row 46 w.heap.size wr' v' zs') (hg : wr.grownBy wr' lv.ownBlock) (hb : ∀ b, v'.ownBlock = some b → lv.ownBlock = some b ∨ wr.heap.size ≤ b) : TT w F a S v' zs' gv gs wr' := by
  have h1 := h.live.push hr hg hb
  refine ⟨h1, h.gone.beside (zs' := zs') h1 hg (fun c e e2 => h.apart c e2 e), fun c e e2 => ?_⟩
  rcases hb c e with h3 | h3
  · exact h.apart c h3 e2
  · have := (World.ownsRow.lt h.gone.tol c e2).2; omega
theorem TT.pushG (h : TT w F a S lv ls gv gs wr) {v' : Value} {zs' : List Int} (hr : Row 46 w.heap.size wr' v' zs') (hg : wr.grownBy wr' gv.ownBlock) (hb : ∀ b, v'.ownBlock = some b → gv.ownBlock = some b ∨ wr.heap.size ≤ b) : TT w F a S lv ls v' zs' wr' := by
  have h1 := h.gone.push hr hg hb
  refine ⟨h.live.beside (zs' := zs') h1 hg h.apart, h1, fun c e e2 => ?_⟩
  rcases hb c e2 with h3 | h3
  · exact h.apart c e h3
  · have := (World.ownsRow.lt h.live.tol c e).2; omega
/-- The living ones are another row now. -/
theorem TT.swapL (h : TT w F a S lv ls gv gs wr) {v' : Value} {zs' : List Int} (hr : Row 46 wr.heap.size wr' v' zs') (hb : Below wr.heap.size wr wr') : TT w F a S v' zs' gv gs wr' := by
  have h1 := h.next hb
  refine ⟨⟨h1.live.arn, hr.lower h.live.below.size, fun c e hF => ?_, h1.live.low, h1.live.below⟩, h1.gone, fun c e e2 => ?_⟩
  · have := (World.ownsRow.lt hr c e).1; have := h.live.arn.lt c hF; omega
  · have := (World.ownsRow.lt hr c e).1; have := (World.ownsRow.lt h.gone.tol c e2).2; omega
end

/-- References of places of a count. -/
def refs (c : Int) (l : List Nat) : List Int := l.map fun (i : Nat) => mk (i : Int) c
theorem refs_len (c : Int) (l : List Nat) : (refs c l).length = l.length := by simp [refs]
theorem refs_at (c : Int) {l : List Nat} {i : Nat} (h : i < l.length) : (refs c l).getD i 0 = mk (l[i] : Int) c := by simp [refs, List.getD, h]
theorem refs_snoc (c : Int) (l : List Nat) (i : Nat) : refs c (l ++ [i]) = refs c l ++ [mk (i : Int) c] := by simp [refs]
theorem refs_cut (c : Int) (l : List Nat) (i : Nat) : (refs c l).take i ++ (refs c l).drop (i + 1) = refs c (l.eraseIdx i) := by
  rw [List.eraseIdx_eq_take_drop_succ]; simp [refs]
end Go.Proofs.Ytbalhjfkkigchaa
