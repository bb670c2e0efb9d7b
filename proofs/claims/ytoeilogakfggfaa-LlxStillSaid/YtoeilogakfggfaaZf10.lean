/-
  LlxStill's own lists: the pairs that stood, one after the other; its threads are started.
-/
import Derived.Test.YtoeilogakfggfaaZe10
namespace Go.Proofs.Ytoeilogakfggfaa
open Go.ChangeShapes Go.WideShapes Go.ChangeAt Go.RowKit
set_option linter.unusedVariables false
set_option linter.unusedSimpArgs false
set_option maxRecDepth 20000

abbrev psT : TypeId := 62
def prsL (X : Nat → Nat) (n : Nat) : List (Int × Int) := (List.range n).map fun i => (zwv 0 (zla X 0 i), zwv 1 (zla X 1 i))
theorem prsL_len (X : Nat → Nat) (n : Nat) : (prsL X n).length = n := by simp [prsL]
theorem prsL_succ (X : Nat → Nat) (n : Nat) : prsL X (n + 1) = prsL X n ++ [(zwv 0 (zla X 0 n), zwv 1 (zla X 1 n))] := by simp [prsL, List.range_succ]
theorem prsL_at {X : Nat → Nat} {n i : Nat} (h : i < n) : (prsL X n)[i]? = some (zwv 0 (zla X 0 i), zwv 1 (zla X 1 i)) := by
  unfold prsL; rw [List.getElem?_map, List.getElem?_range h]; rfl
theorem ar_info : (Try.prog.info? 48).map (fun i => (i.zero, i.size, i.bytes)) = some (some (.agg #[.int .i64 0, .int .i64 0]), 2, 16) := by kernel_rfl
theorem box_new (w : World) (z v : Value) (ty : TypeId) : ∃ (Y : World) (q : Nat) (Z : World), w.alloc (.cells #[z] ty) = Y ∧ w.heap.size = q ∧ Y.frozen? ⟨q, 0, none⟩ = false ∧ Y.cell? ⟨q, 0, none⟩ = some z ∧ Y.setCell ⟨q, 0, none⟩ v = Z ∧ Below w.heap.size w Z ∧ Z.heap.size = q + 1 ∧ Z.heap[q]? = some (.cells #[v] ty (0, 0)) := by
  have h0 : (w.alloc (.cells #[z] ty)).heap[w.heap.size]? = some (.cells #[z] ty (0, 0)) := heap_alloc_new _ _
  have b1 := below_new w (.cells #[z] ty)
  have s1 : (w.alloc (.cells #[z] ty)).heap.size = w.heap.size + 1 := by simp
  generalize w.alloc (.cells #[z] ty) = Y at h0 b1 s1
  have b2 : Below w.heap.size Y (Y.setCell ⟨w.heap.size, 0, none⟩ v) := (only_set Y w.heap.size 0 v).below (fun b e => by omega) (by omega)
  exact ⟨Y, _, _, rfl, rfl, frozen_of_row Y _ 0 _ _ h0, by rw [cell_of_row Y _ _ _ _ (0, 0) h0]; rfl, rfl, b1.trans b2, by simp [s1], heap_setCell_same Y _ 0 _ _ v h0⟩
theorem pr_push {w : World} {v : Value} {l : List (Int × Int)} {g : Nat} {z y : Int} (h : w.ownsRow 0 arW 2 v l.length (cellsP l)) (hg : Arr w g z y) (hn : l.length ≤ 100) :
    ∃ v' Z, (Builtin.append_ #[psT, psT] psT #[v, .slice (some ⟨g, 0, none⟩) 1 1]).run Try.prog w = .ok v' Z ∧ Z.ownsRow 0 arW 2 v' (l.length + 1) (cellsP (l ++ [(z, y)])) ∧ w.grownBy Z v.ownBlock ∧ ∀ b, v'.ownBlock = some b → v.ownBlock = some b ∨ w.heap.size ≤ b := by
  obtain ⟨i0, hi0, hz0, hz1, hz2⟩ := info_parts ar_info
  obtain ⟨v', Z, q1, q2, q3, q4⟩ := run_push (w := w) psT psT arW i0 _ 2 16 Try.underlying62 hi0 hz0 hz1 hz2 rfl (by omega) v l.length (cellsP l) h ⟨g, 0, none⟩ 1 1 (cellsP [(z, y)]) rfl
    (by
      intro j u hj
      rw [add_lit0, cell_of_row w g _ _ _ (0, 0) hg]
      simpa [cellsP] using hj) (cellsP_oneCell _) (by unfold maxLen; omega) (by omega)
  exact ⟨v', Z, q1, by rw [cellsP_append]; exact q2, q3, q4⟩
/-- The law's lists, behind j changes. -/
structure L1 (v2 : World) (X : Nat → Nat) (b6 : Nat) (nv : Value) (j : Nat) (v : Value) (w : World) : Prop where
  bel : Below v2.heap.size v2 w
  arr : Arr w (b6 + 1) (zwv 0 (zla X 0 j)) (zwv 1 (zla X 1 j))
  box : w.heap[b6 + 3]? = some (.cells #[v] psT (0, 0))
  nod : w.cell? ⟨b6, 0, none⟩ = some nv
  row : w.ownsRow 0 arW 2 v (j + 1) (cellsP (prsL X (j + 1)))
  own : ∀ b, v.ownBlock = some b → b6 ≤ b ∧ b ≠ b6 + 1 ∧ b ≠ b6 + 3 ∧ b ≠ b6
  at_ : v2.heap.size = b6
section
variable {v2 w w' : World} {X : Nat → Nat} {b6 j x : Nat} {nv v : Value}
theorem L1.boxc (h : L1 v2 X b6 nv j v w) : w.cell? ⟨b6 + 3, 0, none⟩ = some v := by rw [cell_of_row w _ _ _ _ (0, 0) h.box]; rfl
theorem L1.lt (h : L1 v2 X b6 nv j v w) : b6 + 3 < w.heap.size := (Array.getElem?_eq_some_iff.1 h.box).1
/-- A change more. -/
theorem L1.step (h : L1 v2 X b6 nv j v w) (hx : X j = x) (hx2 : x = 0 ∨ x = 1) (hj : j ≤ 50) :
    ∃ (w1 : World) (g : Nat) (w2 : World) (A' : Option Addr) (m' c' : Nat) (w3 w4 : World), w.setCell ⟨b6 + 1, x, none⟩ (.int .i64 (300 + (j : Int))) = w1 ∧ w1.heap.size = g ∧ w1.alloc (.cells #[.int .i64 (zwv 0 (zla X 0 (j + 1))), .int .i64 (zwv 1 (zla X 1 (j + 1)))] arW) = w2 ∧
      (Builtin.append_ #[psT, psT] psT #[v, .slice (some ⟨g, 0, none⟩) 1 1]).run Try.prog w2 = .ok (.slice A' m' c') w3 ∧ w3.setCell ⟨b6 + 3, 0, none⟩ (.slice A' m' c') = w4 ∧
      w1.cell? ⟨b6 + 1, 0, none⟩ = some (.int .i64 (zwv 0 (zla X 0 (j + 1)))) ∧ w1.cell? ⟨b6 + 1, 1, none⟩ = some (.int .i64 (zwv 1 (zla X 1 (j + 1)))) ∧ w1.cell? ⟨b6 + 3, 0, none⟩ = some v ∧
      w3.cell? ⟨b6 + 3, 0, none⟩ = some v ∧ w3.frozen? ⟨b6 + 3, 0, none⟩ = false ∧ L1 v2 X b6 nv (j + 1) (.slice A' m' c') w4 := by
  obtain ⟨h1, h2, h3, h4, h5, h6, h7⟩ := h
  have lt3 : b6 + 3 < w.heap.size := (Array.getElem?_eq_some_iff.1 h3).1
  have a1 : Arr (w.setCell ⟨b6 + 1, x, none⟩ (.int .i64 (300 + (j : Int)))) (b6 + 1) (zwv 0 (zla X 0 (j + 1))) (zwv 1 (zla X 1 (j + 1))) := by
    have e1 : zla X x (j + 1) = j + 1 := zla_hit hx
    have e3 : ∀ y, zwv y (j + 1) = 300 + (j : Int) := fun y => by unfold zwv; rw [if_neg (by omega)]; omega
    rcases hx2 with rfl | rfl
    · rw [e1, zla_off (x := 1) (by omega), e3]; exact h2.set0 _
    · rw [e1, zla_off (x := 0) (by omega), e3]; exact h2.set1 _
  have o1 := only_set w (b6 + 1) x (.int .i64 (300 + (j : Int)))
  have k1 : ∀ b, b ≠ b6 + 1 → (w.setCell ⟨b6 + 1, x, none⟩ (.int .i64 (300 + (j : Int)))).heap[b]? = w.heap[b]? := fun b e => heap_setCell_other w ⟨b6 + 1, x, none⟩ b _ e
  have s1 : (w.setCell ⟨b6 + 1, x, none⟩ (.int .i64 (300 + (j : Int)))).heap.size = w.heap.size := by simp
  have b1 : Below v2.heap.size v2 (w.setCell ⟨b6 + 1, x, none⟩ (.int .i64 (300 + (j : Int)))) := h1.trans (o1.below (fun b e => by omega) (by have := h1.size; omega))
  generalize w.setCell ⟨b6 + 1, x, none⟩ (.int .i64 (300 + (j : Int))) = w1 at a1 o1 k1 s1 b1
  have r1 : w1.ownsRow 0 arW 2 v (j + 1) (cellsP (prsL X (j + 1))) := own_at h5 fun b e => k1 b (h6 b e).2.1
  obtain ⟨w2, hw2⟩ : ∃ w2, w1.alloc (.cells #[.int .i64 (zwv 0 (zla X 0 (j + 1))), .int .i64 (zwv 1 (zla X 1 (j + 1)))] arW) = w2 := ⟨_, rfl⟩
  have b2 : Below w1.heap.size w1 w2 := by rw [← hw2]; exact below_new _ _
  have a2 : Arr w2 w1.heap.size (zwv 0 (zla X 0 (j + 1))) (zwv 1 (zla X 1 (j + 1))) := by rw [← hw2]; exact heap_alloc_new _ _
  have s2 : w2.heap.size = w1.heap.size + 1 := by rw [← hw2]; simp
  have r2 : w2.ownsRow 0 arW 2 v (prsL X (j + 1)).length (cellsP (prsL X (j + 1))) := by
    rw [prsL_len]
    exact own_at r1 fun b e => b2.block b (World.ownsRow.lt r1 b e).2
  obtain ⟨v', w3, q1, q2, q3, q4⟩ := pr_push r2 a2 (by rw [prsL_len]; omega)
  have hv : ∃ A' m' c', v' = .slice A' m' c' := by
    rcases q2.2 with ⟨rfl, h0⟩ | ⟨g, cap, cur, rfl, _⟩
    · exact ⟨_, _, _, rfl⟩
    · exact ⟨_, _, _, rfl⟩
  obtain ⟨A', m', c', rfl⟩ := hv
  have k3 : ∀ b, b < w2.heap.size → v.ownBlock ≠ some b → w3.heap[b]? = w2.heap[b]? := fun b e1 e2 => q3.block b e1 fun e => e2 e.symm
  have s3 : w2.heap.size ≤ w3.heap.size := q3.size
  have nown : ∀ b, (b = b6 + 1 ∨ b = b6 + 3 ∨ b = b6 ∨ b < b6) → v.ownBlock ≠ some b := fun b e f => by
    have := h6 b f; omega
  have keep : ∀ b, b < w1.heap.size → (b = b6 + 1 ∨ b = b6 + 3 ∨ b = b6 ∨ b < b6) → w3.heap[b]? = w1.heap[b]? := fun b e1 e2 => (k3 b (by omega) (nown b e2)).trans (b2.block b e1)
  have x3 : w3.heap[b6 + 3]? = some (.cells #[v] psT (0, 0)) := (keep _ (by omega) (.inr (.inl rfl))).trans ((k1 _ (by omega)).trans h3)
  have b3 : Below v2.heap.size v2 w3 := by
    have b12 : Below v2.heap.size v2 w2 := b1.trans (b2.mono b1.size)
    exact b12.grown q3 b12.size fun k hk => by have := (h6 k hk).1; omega
  have k4 : ∀ b, b ≠ b6 + 3 → (w3.setCell ⟨b6 + 3, 0, none⟩ (.slice A' m' c')).heap[b]? = w3.heap[b]? := fun b e => heap_setCell_other w3 ⟨b6 + 3, 0, none⟩ b _ e
  have hown : ∀ b, (Value.slice A' m' c').ownBlock = some b → b6 ≤ b ∧ b ≠ b6 + 1 ∧ b ≠ b6 + 3 ∧ b ≠ b6 := fun b e => by
    rcases q4 b e with e | e
    · exact h6 b e
    · omega
  refine ⟨w1, _, w2, A', m', c', w3, _, rfl, rfl, hw2, q1, rfl, a1.c0, a1.c1, by rw [cell_of_row w1 _ _ _ _ (0, 0) ((k1 _ (by omega)).trans h3)]; rfl, by rw [cell_of_row w3 _ _ _ _ (0, 0) x3]; rfl, frozen_of_row w3 _ 0 _ _ x3, ?_, ?_, heap_setCell_same w3 _ 0 _ _ _ x3, ?_, ?_, hown, h7⟩
  · exact b3.trans ((only_set w3 (b6 + 3) 0 (.slice A' m' c')).below (fun b e => by omega) (by have := b3.size; omega))
  · exact a1.same ((k4 _ (by omega)).trans (keep _ (by omega) (.inl rfl)))
  · exact cell_same ((k4 _ (by omega)).trans ((keep _ (by omega) (.inr (.inr (.inl rfl)))).trans (k1 _ (by omega)))) h4
  · rw [prsL_len, ← prsL_succ] at q2
    exact own_at q2 fun b e => k4 b (hown b e).2.2.1
end
/-! Its threads. -/
abbrev wrF : Nat := 21
abbrev rdF : Nat := 24
theorem Sk.keepAt {k : IntKind} {lo hi : Int} {w w' : World} {A : Option Addr} {n : Nat} {zs : List Int} (h : Sk k lo hi w A n zs) (hb : ∀ b, b < w.heap.size → w'.heap[b]? = w.heap[b]?) : Sk k lo hi w' A n zs :=
  ⟨h.len, h.max, h.rng, h.cells.imp id fun ⟨b, off, e, hc⟩ => ⟨b, off, e, fun i z hi => cell_same (hb b (World.block_lt_of_cell? _ _ (hc i z hi))) (hc i z hi)⟩⟩
theorem Sk.blk {k : IntKind} {lo hi : Int} {w : World} {A : Option Addr} {n : Nat} {zs : List Int} (h : Sk k lo hi w A n zs) : ∀ ad : Addr, zs ≠ [] → A = some ad → ad.block < w.heap.size := by
  intro ad hne e
  rcases h.cells with h0 | ⟨b, off, e2, hc⟩
  · exact absurd h0 hne
  · subst e
    injection e2 with e2
    subst e2
    match zs, hne with
    | z :: l, _ => exact World.block_lt_of_cell? _ _ (hc 0 z rfl)
section
variable {W w : World} {d : Wd} {A B : Option Addr} {m c0 n cB T b2 b6 b8 gp m1 q1 : Nat} {l : List Int} {X : Nat → Nat} {cs : List (Nat × Nat × Value)} {s : Sig} {ps : List (Nat × Ts)}
theorem two_all : ∀ x ∈ twoN, x ∈ ndsN 2 ∧ x.2.small := by
  intro x hx
  simp only [twoN, List.mem_cons, List.mem_nil_iff, or_false] at hx
  rcases hx with rfl | rfl
  · exact ⟨ndsN_mem (by omega), nodeNd_small 0⟩
  · exact ⟨ndsN_mem (by omega), nodeNd_small 1⟩
theorem RG.startW (h : RG W (.slice A m c0) cs d 2 T s w ps) (hdm : d.m = 40) (hk : Sk .u8 0 255 W B n l) (hn : n ≤ 6) (hX : ∀ i z, l[i]? = some z → X i = z.toNat % 2) (h2 : W.cell? ⟨b2, 0, none⟩ = some (.slice B n cB))
    (hm : 0 < m1) (h8 : (b8, 0, .slice (some ⟨gp, 0, none⟩) m1 q1) ∈ cs) (h6 : (b6, 0, .slice A m c0) ∈ cs) (g0 : (gp, 0, .int .i64 200) ∈ cs) (g1 : (gp, 1, .int .i64 210) ∈ cs) :
    Calls Try.prog 20 #[ptr d.W, .int .i64 ((0 : Nat) : Int), .func (.func wrF) #[] #[ptr b8, ptr b2, ptr b6]] w fun e w' => ∃ a, e = .returned (ptr a) ∧ RG W (.slice A m c0) cs d 2 T s w' (ps ++ [(a, .run (nrm (tWr X 0 n) s))]) ∧ Below w.heap.size w w' := by
  have hbel := h.bel
  refine h.start (me := 0) (fun Y hY hcs => ?_) (fun a W => rfl) (good_hd (good_wr n 0 s))
  obtain ⟨A', c2, hv, hsl, hA⟩ := hY.len
  rw [refN_len] at hv hsl
  injection hv with e5 e6 e4
  subst e5 e6 e4
  intro a wk R' w' k1 k2 w1 R1 zs st s k3 k4 k5 k6 k7 gp
  have kr : ∀ q, (q < W.heap.size ∨ Y q) → R1 q ∧ w1.heap[q]? = w.heap[q]? := fun q e => ⟨k3 _ (k1 _ e), (k4 _ (k1 _ e)).trans (k2 _ e)⟩
  have kb : ∀ q, q < W.heap.size → w1.heap[q]? = W.heap[q]? := fun q e => (kr q (.inl e)).2.trans (hbel.block q e)
  have hb2 : b2 < W.heap.size := World.block_lt_of_cell? _ _ h2
  exact wr1_walk hdm two_all (hsl.keepAt fun ad e _ => (kr _ (.inr (hA ad e))).2) (fun ad e => (kr _ (.inr (hA ad e))).1) (hk.keepAt kb) (fun ad e1 e2 => (kr _ (.inl (hk.blk ad e1 e2))).1) hn hX
    ⟨(kr _ (.inr (hcs _ h8).1)).1, (kr _ (.inl hb2)).1, (kr _ (.inr (hcs _ h6).1)).1, (kr _ (.inr (hcs _ g0).1)).1⟩ hm
    (cell_same (kr _ (.inr (hcs _ h8).1)).2 (hcs _ h8).2) (cell_same (kb _ hb2) h2) (cell_same (kr _ (.inr (hcs _ h6).1)).2 (hcs _ h6).2) (cell_same (kr _ (.inr (hcs _ g0).1)).2 (hcs _ g0).2) (cell_same (kr _ (.inr (hcs _ g1).1)).2 (hcs _ g1).2) k7 k6
theorem RG.startR (h : RG W (.slice A m c0) cs d 2 T s w ps) (h6 : (b6, 0, .slice A m c0) ∈ cs) :
    Calls Try.prog 20 #[ptr d.W, .int .i64 ((1 : Nat) : Int), .func (.func rdF) #[] #[ptr b6]] w fun e w' => ∃ a, e = .returned (ptr a) ∧ RG W (.slice A m c0) cs d 2 T s w' (ps ++ [(a, .run (nrm (tRd 12) s))]) ∧ Below w.heap.size w w' := by
  refine h.start (me := 1) (fun Y hY hcs => ?_) (fun a W => rfl) (good_hd (good_rd 12 s))
  obtain ⟨A', c2, hv, hsl, hA⟩ := hY.len
  rw [refN_len] at hv hsl
  injection hv with e5 e6 e4
  subst e5 e6 e4
  intro a wk R' w' k1 k2 w1 R1 zs st s k3 k4 k5 k6 k7 gp
  have kr : ∀ q, (q < W.heap.size ∨ Y q) → R1 q ∧ w1.heap[q]? = w.heap[q]? := fun q e => ⟨k3 _ (k1 _ e), (k4 _ (k1 _ e)).trans (k2 _ e)⟩
  exact rd1_walk two_all (hsl.keepAt fun ad e _ => (kr _ (.inr (hA ad e))).2) (fun ad e => (kr _ (.inr (hA ad e))).1) (kr _ (.inr (hcs _ h6).1)).1 (cell_same (kr _ (.inr (hcs _ h6).1)).2 (hcs _ h6).2) k7 k6
end
end Go.Proofs.Ytoeilogakfggfaa
