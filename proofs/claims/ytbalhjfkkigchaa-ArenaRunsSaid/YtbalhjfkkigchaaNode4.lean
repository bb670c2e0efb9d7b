/-
  What the laws' Small.Node and Same return.
-/
import Derived.Test.YtbalhjfkkigchaaAr10
namespace Go.Proofs.Ytbalhjfkkigchaa
open Go.ChangeShapes Go.WideShapes Go.ChangeAt Go.RowKit
set_option linter.unusedVariables false
set_option linter.unusedSimpArgs false
set_option maxRecDepth 20000

/-- A slice of n numbers of a kind, between lo and hi, reads as zs. -/
structure Sk (k : IntKind) (lo hi : Int) (w : World) (A : Option Addr) (n : Nat) (zs : List Int) : Prop where
  len : n = zs.length
  max : n ≤ maxLen
  rng : ∀ z ∈ zs, lo ≤ z ∧ z ≤ hi
  cells : zs = [] ∨ ∃ b off, A = some ⟨b, off, none⟩ ∧ ∀ (i : Nat) (z : Int), zs[i]? = some z → w.cell? ⟨b, off + i, none⟩ = some (.int k z)
section
variable {k : IntKind} {lo hi : Int} {w w' : World} {A : Option Addr} {n : Nat} {zs : List Int}
theorem Sk.keep (h : Sk k lo hi w A n zs) (hk : ∀ p : Addr, p.block < w.heap.size → w'.cell? p = w.cell? p) : Sk k lo hi w' A n zs := by
  refine ⟨h.len, h.max, h.rng, ?_⟩
  rcases h.cells with hn | ⟨b, off, rfl, hc⟩
  · exact .inl hn
  · refine .inr ⟨b, off, rfl, fun j u hu => ?_⟩
    have := hc j u hu
    rw [hk _ (World.block_lt_of_cell? w _ this)]
    exact this
theorem Sk.below (h : Sk k lo hi w A n zs) (hb : Below w.heap.size w w') : Sk k lo hi w' A n zs := h.keep fun _ hp => hb.cell hp
theorem Sk.at_ (h : Sk k lo hi w A n zs) {j : Nat} (hj : j < n) : ∃ b off z, A = some ⟨b, off, none⟩ ∧ b < w.heap.size ∧ zs[j]? = some z ∧ lo ≤ z ∧ z ≤ hi ∧ w.cell? ⟨b, off + j, none⟩ = some (.int k z) := by
  have hl : j < zs.length := by rw [← h.len]; exact hj
  rcases h.cells with rfl | ⟨b, off, rfl, hc⟩
  · simp at hl
  · have hz := List.getElem?_eq_getElem hl
    have := hc j _ hz
    exact ⟨b, off, _, rfl, World.block_lt_of_cell? w _ this, hz, (h.rng _ (List.getElem_mem hl)).1, (h.rng _ (List.getElem_mem hl)).2, this⟩
end

/-- Keys with their numbers. -/
def numd : List Int → Nat → List (Int × Int)
  | [], _ => []
  | z :: l, i => (z, (i : Int)) :: numd l (i + 1)
theorem numd_length (l : List Int) (i : Nat) : (numd l i).length = l.length := by
  induction l generalizing i with
  | nil => rfl
  | cons z l ih => simp [numd, ih]
theorem numd_snoc (l : List Int) (i : Nat) (z : Int) : numd (l ++ [z]) i = numd l i ++ [(z, ((i + l.length : Nat) : Int))] := by
  induction l generalizing i with
  | nil => simp [numd]
  | cons y l ih => simp only [List.cons_append, numd, ih, List.length_cons]; congr 4; omega
/-- A small node. -/
def smallNd (x y : Bool) (ks ws : List Int) : Nd := ⟨x, y, if x then [] else numd (ks.take 8) 0, if x then ks.take 8 else [], ws.take 8⟩
theorem smallNd_small (x y : Bool) (ks ws : List Int) : (smallNd x y ks ws).small := by
  unfold smallNd Nd.small
  cases x <;> simp [numd_length] <;> omega
abbrev smv (x y : Bool) (A : Option Addr) (n c : Nat) (B : Option Addr) (m d : Nat) : Value := .agg #[.bool x, .bool y, .slice A n c, .slice B m d]

theorem take8_lt {l : List Int} {k : Nat} {z : Int} (hz : l[k]? = some z) (h : k < 8) : (l.take (k + 1)).take 8 = (l.take k).take 8 ++ [z] := by
  have hl : k < l.length := (List.getElem?_eq_some_iff.1 hz).1
  rw [List.take_take, List.take_take, Nat.min_eq_right (by omega), Nat.min_eq_right (by omega), take_snoc l k hl, (List.getElem?_eq_some_iff.1 hz).2]
theorem take8_ge {l : List Int} {k : Nat} (h : 8 ≤ k) : (l.take (k + 1)).take 8 = (l.take k).take 8 := by
  rw [List.take_take, List.take_take, Nat.min_eq_left (by omega), Nat.min_eq_left (by omega)]
theorem take8_len {l : List Int} {k : Nat} (hl : k ≤ l.length) (h : k < 8) : ((l.take k).take 8).length = k := by
  rw [List.length_take, List.length_take]; omega

/-- A node's variable at block N beside rows that grow; what else lay in X lies as it lay. -/
structure NI (X : World) (N : Nat) (x y : Bool) (pv kv zv : Value) (ps : List (Int × Int)) (ks zs : List Int) (w : World) : Prop where
  five : Five w N x y pv kv zv
  ps : Prs X.heap.size w pv ps
  ks : Row 2 X.heap.size w kv ks
  zs : Row 46 X.heap.size w zv zs
  only : Only (fun b => b = N) X w
  lt : N < X.heap.size
section
variable {X w w' : World} {N : Nat} {x y : Bool} {pv kv zv : Value} {ps : List (Int × Int)} {ks zs : List Int}
theorem NI.size (h : NI X N x y pv kv zv ps ks zs w) : X.heap.size ≤ w.heap.size := h.only.size
theorem NI.below (h : NI X N x y pv kv zv ps ks zs w) (hb : Below w.heap.size w w') : NI X N x y pv kv zv ps ks zs w' :=
  ⟨h.five.below hb, h.ps.next hb, h.ks.next hb, h.zs.next hb, h.only.then (Only.of_below _ hb), h.lt⟩
theorem own_far {e : TypeId} {size n : Nat} {v : Value} {xs : List Value} {B : Nat} (h : w.ownsRow B e size v n xs) (hN : N < B) : v.ownBlock = none ∨ v.ownBlock ≠ some N := by
  cases e1 : v.ownBlock with
  | none => exact .inl rfl
  | some g => exact .inr fun e2 => by injection e2 with e2; subst e2; have := (h.lt g e1).1; omega
theorem own_unlike {e e' : TypeId} {size size' n n' : Nat} {v v' : Value} {xs xs' : List Value} {B B' : Nat} (h : w.ownsRow B e size v n xs) (h' : w.ownsRow B' e' size' v' n' xs') (hne : e ≠ e') : v.ownBlock = none ∨ v.ownBlock ≠ v'.ownBlock := by
  cases e1 : v.ownBlock with
  | none => exact .inl rfl
  | some g =>
    refine .inr fun e2 => ?_
    exact hne ((own_ty h e1).one (own_ty h' (by rw [← e2])))
/-- A row grew, and is stored into the variable. -/
theorem NI.pushK (h : NI X N x y pv kv zv ps ks zs w) {u : Value} {ks' : List Int} (hr : Row 2 X.heap.size w' u ks') (hg : w.grownBy w' kv.ownBlock) : w'.cell? ⟨N, 3, none⟩ = some kv ∧ w'.frozen? ⟨N, 3, none⟩ = false ∧ NI X N x y pv u zv ps ks' zs (w'.setCell ⟨N, 3, none⟩ u) ∧ ∀ (p : Addr) (v : Value), X.cell? p = some v → p.block ≠ N → w'.cell? p = some v := by
  have h5 : Five w' N x y pv kv zv := (hg.block N h.five.lt (fun e => by rcases own_far h.ks h.lt with h1 | h1 <;> simp_all)).trans h.five
  refine ⟨h5.cells.2.2.2.1, h5.free 3, ⟨h5.set3 u, (h.ps.grown hg (own_unlike h.ps h.ks (by decide))).set_below h.lt _, hr.set_below h.lt _, (h.zs.grown hg (own_unlike h.zs h.ks (by decide))).set_below h.lt _, ?_, h.lt⟩, ?_⟩
  case refine_2 =>
    intro q v hq hN
    have hql := World.block_lt_of_cell? X q hq
    exact (World.cell?_of_block (w := w) (hg.block q.block (Nat.lt_of_lt_of_le hql h.only.size) (fun e => by have := (World.ownsRow.lt h.ks _ e.symm).1; omega))).trans ((World.cell?_of_block (w := X) (h.only.block q.block hql hN)).trans hq)
  have : Only (fun b => b = N) X w' := ⟨hg.os.trans h.only.os, hg.tape.trans h.only.tape, hg.output.trans h.only.output, Nat.le_trans h.only.size hg.size, fun b hb hF => (hg.block b (Nat.lt_of_lt_of_le hb h.only.size) (fun e => by have := (World.ownsRow.lt h.ks b e.symm).1; omega)).trans (h.only.block b hb hF)⟩
  exact this.then (Only.set (fun b => b = N) w' (p := ⟨N, 3, none⟩) rfl u)
theorem NI.pushZ (h : NI X N x y pv kv zv ps ks zs w) {u : Value} {zs' : List Int} (hr : Row 46 X.heap.size w' u zs') (hg : w.grownBy w' zv.ownBlock) : w'.cell? ⟨N, 4, none⟩ = some zv ∧ w'.frozen? ⟨N, 4, none⟩ = false ∧ NI X N x y pv kv u ps ks zs' (w'.setCell ⟨N, 4, none⟩ u) := by
  have h5 : Five w' N x y pv kv zv := (hg.block N h.five.lt (fun e => by rcases own_far h.zs h.lt with h1 | h1 <;> simp_all)).trans h.five
  refine ⟨h5.cells.2.2.2.2, h5.free 4, h5.set4 u, (h.ps.grown hg (own_unlike h.ps h.zs (by decide))).set_below h.lt _, (h.ks.grown hg (own_unlike h.ks h.zs (by decide))).set_below h.lt _, hr.set_below h.lt _, ?_, h.lt⟩
  have : Only (fun b => b = N) X w' := ⟨hg.os.trans h.only.os, hg.tape.trans h.only.tape, hg.output.trans h.only.output, Nat.le_trans h.only.size hg.size, fun b hb hF => (hg.block b (Nat.lt_of_lt_of_le hb h.only.size) (fun e => by have := (World.ownsRow.lt h.zs b e.symm).1; omega)).trans (h.only.block b hb hF)⟩
  exact this.then (Only.set (fun b => b = N) w' (p := ⟨N, 4, none⟩) rfl u)
theorem NI.pushP (h : NI X N x y pv kv zv ps ks zs w) {u : Value} {ps' : List (Int × Int)} (hr : Prs X.heap.size w' u ps') (hg : w.grownBy w' pv.ownBlock) : w'.cell? ⟨N, 2, none⟩ = some pv ∧ w'.frozen? ⟨N, 2, none⟩ = false ∧ NI X N x y u kv zv ps' ks zs (w'.setCell ⟨N, 2, none⟩ u) := by
  have h5 : Five w' N x y pv kv zv := (hg.block N h.five.lt (fun e => by rcases own_far h.ps h.lt with h1 | h1 <;> simp_all)).trans h.five
  refine ⟨h5.cells.2.2.1, h5.free 2, h5.set2 u, hr.set_below h.lt _, (h.ks.grown hg (own_unlike h.ks h.ps (by decide))).set_below h.lt _, (h.zs.grown hg (own_unlike h.zs h.ps (by decide))).set_below h.lt _, ?_, h.lt⟩
  have : Only (fun b => b = N) X w' := ⟨hg.os.trans h.only.os, hg.tape.trans h.only.tape, hg.output.trans h.only.output, Nat.le_trans h.only.size hg.size, fun b hb hF => (hg.block b (Nat.lt_of_lt_of_le hb h.only.size) (fun e => by have := (World.ownsRow.lt h.ps b e.symm).1; omega)).trans (h.only.block b hb hF)⟩
  exact this.then (Only.set (fun b => b = N) w' (p := ⟨N, 2, none⟩) rfl u)
/-- What else lay in X. -/
theorem NI.read (h : NI X N x y pv kv zv ps ks zs w) {p : Addr} {v : Value} (hp : X.cell? p = some v) (hN : p.block ≠ N) : w.cell? p = some v :=
  (World.cell?_of_block (w := X) (h.only.block p.block (World.block_lt_of_cell? X p hp) hN)).trans hp
theorem NI.shape (h : NI X N x y pv kv zv ps ks zs w) : (∃ A n c, pv = .slice A n c) ∧ (∃ A n c, kv = .slice A n c) ∧ ∃ A n c, zv = .slice A n c := ⟨h.ps.shape, h.ks.shape, h.zs.shape⟩
end
theorem lp_one {W : World} {g : Nat} {a b : Int} (h1 : W.cell? ⟨g, 0, none⟩ = some (.int .i64 a)) (h2 : W.cell? ⟨g, 1, none⟩ = some (.int .i64 b)) : Lp W (some ⟨g, 0, none⟩) 1 1 [(a, b)] := by
  refine ⟨⟨rfl, .inr ⟨g, 0, rfl, fun j u hj => ?_⟩⟩, Nat.le_refl _, fun e => (by cases e)⟩
  match j, hj with
  | 0, hj => simp [cellsP] at hj; subst hj; exact h1
  | 1, hj => simp [cellsP] at hj; subst hj; exact h2

theorem cell_off5 {w : World} {b j N : Nat} {v : Value} (h : w.cell? ⟨b, j, none⟩ = some v) (hne : b ≠ N) (u0 u1 u2 u3 u4 : Value) : (((((w.setCell ⟨N, 0, none⟩ u0).setCell ⟨N, 1, none⟩ u1).setCell ⟨N, 2, none⟩ u2).setCell ⟨N, 3, none⟩ u3).setCell ⟨N, 4, none⟩ u4).cell? ⟨b, j, none⟩ = some v := by
  refine (World.cell?_of_block (w := w) (a := ⟨b, j, none⟩) ?_).trans h
  iterate 5 rw [heap_setCell_other _ _ b _ hne]
/-- The world behind a box for the small one, the result's and the node's variable. -/
theorem boxedN (w : World) (x y : Bool) (u v : Value) : ∃ (X : World) (R N : Nat), (((w.alloc (.cells #[.bool x, .bool y, u, v] 36)).alloc (.cells #[.bool false, .bool false, .slice none 0 0, .slice none 0 0, .slice none 0 0] 55)).alloc (.cells #[.bool x, .bool y, .slice none 0 0, .slice none 0 0, .slice none 0 0] 55)) = X ∧ w.heap.size + 1 = R ∧ w.heap.size + 1 + 1 = N ∧ Below w.heap.size w X ∧ R < X.heap.size ∧ w.heap.size < R ∧ R < N ∧
    X.cell? ⟨w.heap.size, 0, none⟩ = some (.bool x) ∧ X.cell? ⟨w.heap.size, 1, none⟩ = some (.bool y) ∧ X.cell? ⟨w.heap.size, 2, none⟩ = some u ∧ X.cell? ⟨w.heap.size, 3, none⟩ = some v ∧ Five X R false false (.slice none 0 0) (.slice none 0 0) (.slice none 0 0) ∧
    NI X N x y (.slice none 0 0) (.slice none 0 0) (.slice none 0 0) [] [] [] X := by
  refine ⟨_, _, _, rfl, rfl, rfl, (((Below.refl _ w).alloc (Nat.le_refl _) _).alloc (by simp) _).alloc (by simp; omega) _, by simp, by omega, by omega, c_old (c_old (c_new rfl rfl)), c_old (c_old (c_new rfl rfl)), c_old (c_old (c_new rfl rfl)), c_old (c_old (c_new rfl rfl)), (Five.new _ (by simp) _ _ _ _ _).below (below_new _ _), Five.new _ (by simp) _ _ _ _ _, Prs.nil _ _, Row.nil _ _ _, Row.nil _ _ _, Only.refl _ _, by simp⟩
end Go.Proofs.Ytbalhjfkkigchaa
