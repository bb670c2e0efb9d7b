/-
  What a node's same returns: a node of its own memory.
-/
import Derived.Test.YtmnbdhngadjmiaaAr5
import Derived.Test.YtmnbdhngadjmiaaTail
namespace Go.Proofs.Ytmnbdhngadjmiaa
open Go.ChangeShapes Go.WideShapes Go.ChangeAt Go.RowKit
set_option linter.unusedVariables false
set_option linter.unusedSimpArgs false
set_option maxRecDepth 20000

section
variable {P : Program} {ops : Array Oper} {Q : Exit → Act → World → Prop} {md : Region.Mode} {C : World → Prop} {st i j : Nat} {listed : Array Bool}
end

/-- A node as a value. -/
abbrev ndv (x y : Bool) (pv kv zv : Value) : Value := .agg #[.bool x, .bool y, pv, kv, zv]
/-- A node of its own memory. -/
def MadeN (w : World) (nd : Nd) (e : Ending) (w' : World) : Prop :=
  ∃ pv kv zv, e = .returned (ndv nd.inn nd.tag pv kv zv) ∧ Prs w.heap.size w' pv nd.ps ∧ Row 2 w.heap.size w' kv nd.ks ∧ Row 30 w.heap.size w' zv nd.zs ∧ Below w.heap.size w w'
/-- A variable of five cells. -/
def Five (w : World) (b : Nat) (x y : Bool) (pv kv zv : Value) : Prop := w.heap[b]? = some (.cells #[.bool x, .bool y, pv, kv, zv] 42 (0, 0))
section
variable {w w' : World} {b : Nat} {x y : Bool} {pv kv zv : Value}
theorem Five.cells (h : Five w b x y pv kv zv) : w.cell? ⟨b, 0, none⟩ = some (.bool x) ∧ w.cell? ⟨b, 1, none⟩ = some (.bool y) ∧ w.cell? ⟨b, 2, none⟩ = some pv ∧ w.cell? ⟨b, 3, none⟩ = some kv ∧ w.cell? ⟨b, 4, none⟩ = some zv := by
  refine ⟨?_, ?_, ?_, ?_, ?_⟩ <;> (rw [cell_of_row w b _ _ _ (0, 0) h]; rfl)
theorem Five.free (h : Five w b x y pv kv zv) (j : Nat) : w.frozen? ⟨b, j, none⟩ = false := frozen_of_row w b j _ _ h
theorem Five.below (h : Five w b x y pv kv zv) (hb : Below w.heap.size w w') : Five w' b x y pv kv zv := (hb.block b (Array.getElem?_eq_some_iff.1 h).1).trans h
theorem Five.lt (h : Five w b x y pv kv zv) : b < w.heap.size := (Array.getElem?_eq_some_iff.1 h).1
theorem Five.off (h : Five w b x y pv kv zv) {p : Addr} (hp : b ≠ p.block) (u : Value) : Five (w.setCell p u) b x y pv kv zv := (heap_setCell_other w p b u hp).trans h
theorem Five.set2 (h : Five w b x y pv kv zv) (u : Value) : Five (w.setCell ⟨b, 2, none⟩ u) b x y u kv zv := heap_setCell_same w b 2 _ _ u h
theorem Five.set3 (h : Five w b x y pv kv zv) (u : Value) : Five (w.setCell ⟨b, 3, none⟩ u) b x y pv u zv := heap_setCell_same w b 3 _ _ u h
theorem Five.set4 (h : Five w b x y pv kv zv) (u : Value) : Five (w.setCell ⟨b, 4, none⟩ u) b x y pv kv u := heap_setCell_same w b 4 _ _ u h
theorem Five.new (w : World) {b : Nat} (hb : w.heap.size = b) (x y : Bool) (pv kv zv : Value) : Five (w.alloc (.cells #[.bool x, .bool y, pv, kv, zv] 42)) b x y pv kv zv := by subst hb; exact heap_alloc_new w _
end
theorem load_five {w : World} {R : Nat} {x y : Bool} {pv kv zv : Value} (e0 : w.cell? ⟨R, 0, none⟩ = some (.bool x)) (e1 : w.cell? ⟨R, 1, none⟩ = some (.bool y)) (e2 : w.cell? ⟨R, 2, none⟩ = some pv) (e3 : w.cell? ⟨R, 3, none⟩ = some kv) (e4 : w.cell? ⟨R, 4, none⟩ = some zv) :
    (loadVar 42 ⟨R, 0, none⟩).run Try.prog w = .ok (ndv x y pv kv zv) w := by
  simp [go_sem, e0, e1, e2, e3, e4]
theorem results_five {fn : Func} {t : Tmp} {R : Nat} {x y : Bool} {pv kv zv : Value} {tmps : Array Value} {w : World} (h : fn.results = #[.cell t 42]) (ht : tmps.getD t undef = .pointer (some ⟨R, 0, none⟩))
    (h5 : Five w R x y pv kv zv) : (results fn tmps).run Try.prog w = .ok (ndv x y pv kv zv) w := by
  obtain ⟨e0, e1, e2, e3, e4⟩ := h5.cells
  have := load_five e0 e1 e2 e3 e4
  have ht' : tmps[t]?.getD undef = .pointer (some ⟨R, 0, none⟩) := by simpa using ht
  simp [results, h, ht', asAddr, this]

/-- The world behind a box for the node and a variable for the result. -/
theorem boxed5 (w : World) (x y : Bool) (pv kv zv : Value) : ∃ (W : World) (R : Nat), (w.alloc (.cells #[.bool x, .bool y, pv, kv, zv] 42)).alloc (.cells #[.bool false, .bool false, .slice none 0 0, .slice none 0 0, .slice none 0 0] 42) = W ∧ w.heap.size + 1 = R ∧ Below w.heap.size w W ∧ R < W.heap.size ∧
    Five W w.heap.size x y pv kv zv ∧ Five W R false false (.slice none 0 0) (.slice none 0 0) (.slice none 0 0) ∧ w.heap.size < R ∧ w.heap.size ≠ R ∧ R ≠ w.heap.size :=
  ⟨_, _, rfl, rfl, ((Below.refl _ w).alloc (Nat.le_refl _) _).alloc (by simp) _, by simp, (Five.new w rfl x y pv kv zv).below (below_new _ _), Five.new _ (by simp) _ _ _ _ _, by omega, by omega, by omega⟩
/-- A slice of one is built. -/
theorem stepB (cw : World) (v : Value) (t : TypeId) : ∃ (X : World) (b : Nat), cw.alloc (.cells #[v] t) = X ∧ cw.heap.size = b ∧ Below cw.heap.size cw X ∧ X.cell? ⟨b, 0, none⟩ = some v :=
  ⟨_, _, rfl, rfl, below_new _ _, c_new rfl rfl⟩
theorem Prs.set_below {base : Nat} {w : World} {v : Value} {l : List (Int × Int)} (h : Prs base w v l) {p : Addr} (hp : p.block < base) (u : Value) : Prs base (w.setCell p u) v l := ownsRow_setCell_below h hp u

/-- The node's rows, stored where the result stands. -/
theorem same_end {w W V X : World} {b R : Nat} {x y : Bool} {pv kv zv k0 z0 r2 r3 r4 : Value} {ps : List (Int × Int)} {ks zs : List Int} {r0 r1 : Bool} (hp : Prs W.heap.size V pv ps) (hk : Row 2 V.heap.size X kv ks) (hz : Row 30 V.heap.size X zv zs)
    (hb : Below b w X) (h5 : Five X b x y pv k0 z0) (hv : Five X R r0 r1 r2 r3 r4) (hbW : b < W.heap.size) (hRW : R < W.heap.size) (hWV : W.heap.size ≤ V.heap.size) (hne : b ≠ R) (hbw : b = w.heap.size) (hbR : b ≤ R) (hVX : Below V.heap.size V X) :
    Five ((X.setCell ⟨b, 3, none⟩ kv).setCell ⟨b, 4, none⟩ zv) b x y pv kv zv ∧ Five ((X.setCell ⟨b, 3, none⟩ kv).setCell ⟨b, 4, none⟩ zv) R r0 r1 r2 r3 r4 ∧
    Five (((((((X.setCell ⟨b, 3, none⟩ kv).setCell ⟨b, 4, none⟩ zv).setCell ⟨R, 0, none⟩ (.bool x)).setCell ⟨R, 1, none⟩ (.bool y)).setCell ⟨R, 2, none⟩ pv).setCell ⟨R, 3, none⟩ kv).setCell ⟨R, 4, none⟩ zv) R x y pv kv zv ∧
    MadeN w ⟨x, y, ps, ks, zs⟩ (.returned (ndv x y pv kv zv)) (((((((X.setCell ⟨b, 3, none⟩ kv).setCell ⟨b, 4, none⟩ zv).setCell ⟨R, 0, none⟩ (.bool x)).setCell ⟨R, 1, none⟩ (.bool y)).setCell ⟨R, 2, none⟩ pv).setCell ⟨R, 3, none⟩ kv).setCell ⟨R, 4, none⟩ zv) := by
  subst hbw
  have hp2 : Prs W.heap.size X pv ps := hp.next hVX
  have q5 := (h5.set3 kv).set4 zv
  have qv := (hv.off (p := ⟨w.heap.size, 3, none⟩) (Ne.symm hne) kv).off (p := ⟨w.heap.size, 4, none⟩) (Ne.symm hne) zv
  refine ⟨q5, qv, ?_, pv, kv, zv, rfl, ?_, ?_, ?_, ?_⟩
  · unfold Five
    rw [heap_setCell_same _ R 4 _ _ zv (heap_setCell_same _ R 3 _ _ kv (heap_setCell_same _ R 2 _ _ pv (heap_setCell_same _ R 1 _ _ _ (heap_setCell_same _ R 0 _ _ _ qv))))]
    rfl
  · exact (((((((hp2.set_below hbW _).set_below hbW _).set_below hRW _).set_below hRW _).set_below hRW _).set_below hRW _).set_below hRW _).lower (by omega)
  · exact (((((((hk.set_below (by simp; omega) _).set_below (by simp; omega) _).set_below (by simp; omega) _).set_below (by simp; omega) _).set_below (by simp; omega) _).set_below (by simp; omega) _).set_below (by simp; omega) _).lower (by omega)
  · exact (((((((hz.set_below (by simp; omega) _).set_below (by simp; omega) _).set_below (by simp; omega) _).set_below (by simp; omega) _).set_below (by simp; omega) _).set_below (by simp; omega) _).set_below (by simp; omega) _).lower (by omega)
  · exact ((((((hb.setCell (p := ⟨w.heap.size, 3, none⟩) (Nat.le_refl _) _).setCell (p := ⟨w.heap.size, 4, none⟩) (Nat.le_refl _) _).setCell (p := ⟨R, 0, none⟩) hbR _).setCell (p := ⟨R, 1, none⟩) hbR _).setCell (p := ⟨R, 2, none⟩) hbR _).setCell (p := ⟨R, 3, none⟩) hbR _).setCell (p := ⟨R, 4, none⟩) hbR _

set_option maxHeartbeats 4000000 in
theorem nodeSame_walk (x y : Bool) (A B C : Option Addr) (n c m d p q : Nat) (ps : List (Int × Int)) (ks zs : List Int) (w : World) (hp : Lp w A n c ps) (hk : Sl w B m d ks) (hz : Sl w C p q zs) (hps : ps.length ≤ 100) (hks : ks.length ≤ 100) (hzs : zs.length ≤ 100) :
    Calls Try.prog 52 #[ndv x y (.slice A n c) (.slice B m d) (.slice C p q)] w (MadeN w ⟨x, y, ps, ks, zs⟩) := by
  go_enter Try.func52, Try.ntmps52
  go_wp2_with fail
  obtain ⟨W, R, hW, hR, hb0, hs0, h5, hv5, hR0, l1, l2⟩ := boxed5 w x y (.slice A n c) (.slice B m d) (.slice C p q)
  rw [hW, hR, show R + 1 = W.heap.size from by rw [← hW, ← hR]; simp]
  clear hW hR
  have Hp := Lib.hid hp
  have Hk := Lib.hid hk
  have Hz := Lib.hid hz
  clear hp hk hz
  have HW := Lib.hid hb0
  clear hb0
  generalize hb : w.heap.size = b at *
  have HB := Lib.hid hb
  clear hb
  refine (concatP1 W.heap.size A n c ps _ (c_new rfl rfl) ((Hp.out.keep fun p h => HW.out.cell (by have := HB.out; omega)).below (below_new _ _)) (by omega)).mono ?_
  rintro e w1 ⟨v1, rfl, hr1, hb1⟩
  obtain ⟨F1, N1, f1, rfl⟩ := hr1.shape
  have p1 : Below W.heap.size W w1 := (below_new W _).trans (hb1.mono (by simp))
  have g5 := h5.below p1
  have gv := hv5.below p1
  have hr2 := hr1.lower (base' := W.heap.size) (by simp)
  clear hr1 hb1
  obtain ⟨d0, d1, d2, d3, d4⟩ := g5.cells
  have f2 := g5.free 2
  have hbW : b < W.heap.size := by omega
  go_wp2_with fail
  obtain ⟨V, hV, k5, kv5, hbV, hrV, hsV⟩ : ∃ V : World, w1.setCell ⟨b, 2, none⟩ (.slice F1 N1 f1) = V ∧ Five V b x y (.slice F1 N1 f1) (.slice B m d) (.slice C p q) ∧ Five V R false false (.slice none 0 0) (.slice none 0 0) (.slice none 0 0) ∧ Below b w V ∧ Prs W.heap.size V (.slice F1 N1 f1) ps ∧ W.heap.size ≤ V.heap.size :=
    ⟨_, rfl, g5.set2 _, gv.off l2 _, (HW.out.trans (p1.mono (by omega))).setCell (p := ⟨b, 2, none⟩) (Nat.le_refl _) _, hr2.set_below hbW _, by simpa using p1.size⟩
  rw [hV]
  clear hV hr2 gv g5 p1 d0 d1 d2 d3 d4 f2
  obtain ⟨d0, d1, d2, d3, d4⟩ := k5.cells
  have KK : Hid (Sl V B m d ks) := Hk.out.keep fun p h => hbV.cell (by have := HB.out; omega)
  have KZ : Hid (Sl V C p q zs) := Hz.out.keep fun p h => hbV.cell (by have := HB.out; omega)
  have HC : Hid (∀ w', Below V.heap.size V w' → (w'.cell? ⟨b, 3, none⟩ = some (.slice B m d) ∧ w'.cell? ⟨b, 4, none⟩ = some (.slice C p q))) := fun w' h => ⟨below_read h d3, below_read h d4⟩
  refine region_T (fun k => k == 12) (fun w' => w'.cell? ⟨b, 3, none⟩ = some (.slice B m d) ∧ w'.cell? ⟨b, 4, none⟩ = some (.slice C p q)) (by kernel_rfl) ?_
  obtain ⟨X0, hX0, hbX0⟩ : ∃ X0 : World, V.drew = X0 ∧ Below V.heap.size V X0 := ⟨_, rfl, (Below.refl _ V).drew⟩
  rw [hX0]
  clear hX0
  have hC := HC.out X0 hbX0
  refine takeT (i := 0) (v := ?_) rfl (by kernel_rfl) (by kernel_rfl) (by kernel_rfl) (by kernel_rfl) (fun _ _ _ h => h) hC (by rfl) ?_ ?_
  rotate_left
  · intro w hSw; (try dsimp only at hSw); go_simp; try (with_reducible rfl)
  try simp only [Act.put, List.setIfInBounds_toArray, List.set_cons_zero, List.set_cons_succ]
  refine takeT (i := 1) (v := ?_) rfl (by kernel_rfl) (by kernel_rfl) (by kernel_rfl) (by kernel_rfl) (fun _ _ _ h => h) hC (by rfl) ?_ ?_
  rotate_left
  · intro w hSw; (try dsimp only at hSw); go_simp; try (with_reducible rfl)
  try simp only [Act.put, List.setIfInBounds_toArray, List.set_cons_zero, List.set_cons_succ]
  refine takeT (i := 2) (v := ?_) rfl (by kernel_rfl) (by kernel_rfl) (by kernel_rfl) (by kernel_rfl) (fun _ _ _ h => h) hC (by rfl) ?_ ?_
  rotate_left
  · intro w hSw; (try dsimp only at hSw); go_simp; try (with_reducible rfl)
  try simp only [Act.put, List.setIfInBounds_toArray, List.set_cons_zero, List.set_cons_succ]
  refine takeT (i := 5) (v := ?_) rfl (by kernel_rfl) (by kernel_rfl) (by kernel_rfl) (by kernel_rfl) (fun _ _ _ h => h) hC (by rfl) ?_ ?_
  rotate_left
  · intro w hSw; (try dsimp only at hSw); go_simp; try (with_reducible rfl)
  try simp only [Act.put, List.setIfInBounds_toArray, List.set_cons_zero, List.set_cons_succ]
  refine takeT (i := 6) (v := ?_) rfl (by kernel_rfl) (by kernel_rfl) (by kernel_rfl) (by kernel_rfl) (fun _ _ _ h => h) hC (by rfl) ?_ ?_
  rotate_left
  · intro w hSw; (try dsimp only at hSw); go_simp; try (with_reducible rfl)
  try simp only [Act.put, List.setIfInBounds_toArray, List.set_cons_zero, List.set_cons_succ]
  refine takeT (i := 7) (v := ?_) rfl (by kernel_rfl) (by kernel_rfl) (by kernel_rfl) (by kernel_rfl) (fun _ _ _ h => h) hC (by rfl) ?_ ?_
  rotate_left
  · intro w hSw; (try dsimp only at hSw); go_simp; try (with_reducible rfl)
  try simp only [Act.put, List.setIfInBounds_toArray, List.set_cons_zero, List.set_cons_succ]
  clear hC
  refine twoT (i := 3) (j := 8) (by kernel_rfl) rfl rfl (by rfl) (by rfl) (fun K hK => ?_) (fun K hK => ?_)
  · go_simp
    obtain ⟨X1, bk, hX, hbk, hst, cbk⟩ := stepB X0 (.slice B m d) 37
    rw [hX, hbk]
    clear hX hbk
    have hbX1 := hbX0.trans (hst.mono hbX0.size)
    refine hK.out _ _ (fun _ => HC.out X1 hbX1) ?_
    clear hK K hst
    try simp only [Act.put, List.setIfInBounds_toArray, List.set_cons_zero, List.set_cons_succ]
    refine twoT (i := 4) (j := 8) (by kernel_rfl) rfl rfl (by rfl) (by rfl) (fun K hK => ?_) (fun K hK => ?_)
    · go_simp
      refine (concatK1 bk B m d ks X1 cbk (KK.out.below hbX1) (by omega)).mono ?_
      rintro e X2 ⟨v2, rfl, g2, hst⟩
      obtain ⟨F2, N2, f2, rfl⟩ := g2.shape
      have rk := g2.lower (base' := V.heap.size) hbX1.size
      clear g2
      have hbX2 := hbX1.trans (hst.mono hbX1.size)
      replace cbk := below_read hst cbk
      refine hK.out _ _ (fun _ => HC.out X2 hbX2) ?_
      clear hK K hst
      try simp only [Act.put, List.setIfInBounds_toArray, List.set_cons_zero, List.set_cons_succ]
      refine oneT (i := 8) (by kernel_rfl) rfl (by rfl) (fun K hK => ?_)
      go_simp
      obtain ⟨X3, bz, hX, hbz, hst, cbz⟩ := stepB X2 (.slice C p q) 38
      rw [hX, hbz]
      clear hX hbz
      have hbX3 := hbX2.trans (hst.mono hbX2.size)
      replace rk := rk.next hst
      refine hK.out _ _ (fun _ => HC.out X3 hbX3) ?_
      clear hK K hst
      try simp only [Act.put, List.setIfInBounds_toArray, List.set_cons_zero, List.set_cons_succ]
      refine oneT (i := 9) (by kernel_rfl) rfl (by rfl) (fun K hK => ?_)
      go_simp
      refine (concatR1 bz C p q zs X3 cbz (KZ.out.below hbX3) (by omega)).mono ?_
      rintro e X4 ⟨v3, rfl, g3, hst⟩
      obtain ⟨F3, N3, f3, rfl⟩ := g3.shape
      have rz := g3.lower (base' := V.heap.size) hbX3.size
      clear g3
      have hbX4 := hbX3.trans (hst.mono hbX3.size)
      replace rk := rk.next hst
      refine hK.out _ _ (fun _ => HC.out X4 hbX4) ?_
      clear hK K hst
      try simp only [Act.put, List.setIfInBounds_toArray, List.set_cons_zero, List.set_cons_succ]
      have hC := HC.out X4 hbX4
      refine takeT (i := 10) (v := ?_) rfl (by kernel_rfl) (by kernel_rfl) (by kernel_rfl) (by kernel_rfl) (fun _ _ _ h => h) hC (by rfl) ?_ ?_
      rotate_left
      · intro w hSw; (try dsimp only at hSw); go_simp; try (with_reducible rfl)
      try simp only [Act.put, List.setIfInBounds_toArray, List.set_cons_zero, List.set_cons_succ]
      refine takeT (i := 11) (v := ?_) rfl (by kernel_rfl) (by kernel_rfl) (by kernel_rfl) (by kernel_rfl) (fun _ _ _ h => h) hC (by rfl) ?_ ?_
      rotate_left
      · intro w hSw; (try dsimp only at hSw); go_simp; try (with_reducible rfl)
      try simp only [Act.put, List.setIfInBounds_toArray, List.set_cons_zero, List.set_cons_succ]
      have m5 := k5.below hbX4
      have mv := kv5.below hbX4
      obtain ⟨y0, y1, y2, y3, y4⟩ := m5.cells
      have z3 := m5.free 3
      have z4 := m5.free 4
      have HE := same_end hrV rk rz (Below.trans hbV (hbX4.mono (Nat.le_trans (Nat.le_of_lt hbW) hsV))) m5 mv hbW hs0 hsV l1 HB.out.symm (by omega) hbX4
      have hsC := hbX4.size
      refine oneT (i := 12) (by kernel_rfl) rfl (by rfl) (fun K hK => ?_)
      go_simp
      refine hK.out _ _ (fun h => by cases h) ?_
      clear hK K
      refine doneT (by kernel_rfl) ?_
      obtain ⟨q5, qv, HE⟩ := HE
      generalize (X4.setCell ⟨b, 3, none⟩ (.slice F2 N2 f2)).setCell ⟨b, 4, none⟩ (.slice F3 N3 f3) = Z at *
      obtain ⟨y0, y1, y2, y3, y4⟩ := q5.cells
      obtain ⟨x0, x1, x2, x3, x4⟩ := qv.cells
      have f0 := qv.free 0
      have f1 := qv.free 1
      have f2 := qv.free 2
      have f3 := qv.free 3
      have f4 := qv.free 4
      clear m5 mv rk rz q5 qv
      go_wp2
      ((try simp only [Exit.inBlock, Exit.then]); refine bodyPost_ret (results_five rfl rfl HE.1) rfl ?_)
      exact HE.2
    · go_simp
      obtain ⟨X2, bz, hX, hbz, hst, cbz⟩ := stepB X1 (.slice C p q) 38
      rw [hX, hbz]
      clear hX hbz
      have hbX2 := hbX1.trans (hst.mono hbX1.size)
      replace cbk := below_read hst cbk
      refine hK.out _ _ (fun _ => HC.out X2 hbX2) ?_
      clear hK K hst
      try simp only [Act.put, List.setIfInBounds_toArray, List.set_cons_zero, List.set_cons_succ]
      refine oneT (i := 4) (by kernel_rfl) rfl (by rfl) (fun K hK => ?_)
      go_simp
      refine (concatK1 bk B m d ks X2 cbk (KK.out.below hbX2) (by omega)).mono ?_
      rintro e X3 ⟨v2, rfl, g2, hst⟩
      obtain ⟨F2, N2, f2, rfl⟩ := g2.shape
      have rk := g2.lower (base' := V.heap.size) hbX2.size
      clear g2
      have hbX3 := hbX2.trans (hst.mono hbX2.size)
      replace cbz := below_read hst cbz
      refine hK.out _ _ (fun _ => HC.out X3 hbX3) ?_
      clear hK K hst
      try simp only [Act.put, List.setIfInBounds_toArray, List.set_cons_zero, List.set_cons_succ]
      refine oneT (i := 9) (by kernel_rfl) rfl (by rfl) (fun K hK => ?_)
      go_simp
      refine (concatR1 bz C p q zs X3 cbz (KZ.out.below hbX3) (by omega)).mono ?_
      rintro e X4 ⟨v3, rfl, g3, hst⟩
      obtain ⟨F3, N3, f3, rfl⟩ := g3.shape
      have rz := g3.lower (base' := V.heap.size) hbX3.size
      clear g3
      have hbX4 := hbX3.trans (hst.mono hbX3.size)
      replace rk := rk.next hst
      refine hK.out _ _ (fun _ => HC.out X4 hbX4) ?_
      clear hK K hst
      try simp only [Act.put, List.setIfInBounds_toArray, List.set_cons_zero, List.set_cons_succ]
      have hC := HC.out X4 hbX4
      refine takeT (i := 10) (v := ?_) rfl (by kernel_rfl) (by kernel_rfl) (by kernel_rfl) (by kernel_rfl) (fun _ _ _ h => h) hC (by rfl) ?_ ?_
      rotate_left
      · intro w hSw; (try dsimp only at hSw); go_simp; try (with_reducible rfl)
      try simp only [Act.put, List.setIfInBounds_toArray, List.set_cons_zero, List.set_cons_succ]
      refine takeT (i := 11) (v := ?_) rfl (by kernel_rfl) (by kernel_rfl) (by kernel_rfl) (by kernel_rfl) (fun _ _ _ h => h) hC (by rfl) ?_ ?_
      rotate_left
      · intro w hSw; (try dsimp only at hSw); go_simp; try (with_reducible rfl)
      try simp only [Act.put, List.setIfInBounds_toArray, List.set_cons_zero, List.set_cons_succ]
      have m5 := k5.below hbX4
      have mv := kv5.below hbX4
      obtain ⟨y0, y1, y2, y3, y4⟩ := m5.cells
      have z3 := m5.free 3
      have z4 := m5.free 4
      have HE := same_end hrV rk rz (Below.trans hbV (hbX4.mono (Nat.le_trans (Nat.le_of_lt hbW) hsV))) m5 mv hbW hs0 hsV l1 HB.out.symm (by omega) hbX4
      have hsC := hbX4.size
      refine oneT (i := 12) (by kernel_rfl) rfl (by rfl) (fun K hK => ?_)
      go_simp
      refine hK.out _ _ (fun h => by cases h) ?_
      clear hK K
      refine doneT (by kernel_rfl) ?_
      obtain ⟨q5, qv, HE⟩ := HE
      generalize (X4.setCell ⟨b, 3, none⟩ (.slice F2 N2 f2)).setCell ⟨b, 4, none⟩ (.slice F3 N3 f3) = Z at *
      obtain ⟨y0, y1, y2, y3, y4⟩ := q5.cells
      obtain ⟨x0, x1, x2, x3, x4⟩ := qv.cells
      have f0 := qv.free 0
      have f1 := qv.free 1
      have f2 := qv.free 2
      have f3 := qv.free 3
      have f4 := qv.free 4
      clear m5 mv rk rz q5 qv
      go_wp2
      ((try simp only [Exit.inBlock, Exit.then]); refine bodyPost_ret (results_five rfl rfl HE.1) rfl ?_)
      exact HE.2
  · go_simp
    obtain ⟨X1, bz, hX, hbz, hst, cbz⟩ := stepB X0 (.slice C p q) 38
    rw [hX, hbz]
    clear hX hbz
    have hbX1 := hbX0.trans (hst.mono hbX0.size)
    refine hK.out _ _ (fun _ => HC.out X1 hbX1) ?_
    clear hK K hst
    try simp only [Act.put, List.setIfInBounds_toArray, List.set_cons_zero, List.set_cons_succ]
    refine oneT (i := 3) (by kernel_rfl) rfl (by rfl) (fun K hK => ?_)
    go_simp
    obtain ⟨X2, bk, hX, hbk, hst, cbk⟩ := stepB X1 (.slice B m d) 37
    rw [hX, hbk]
    clear hX hbk
    have hbX2 := hbX1.trans (hst.mono hbX1.size)
    replace cbz := below_read hst cbz
    refine hK.out _ _ (fun _ => HC.out X2 hbX2) ?_
    clear hK K hst
    try simp only [Act.put, List.setIfInBounds_toArray, List.set_cons_zero, List.set_cons_succ]
    refine oneT (i := 4) (by kernel_rfl) rfl (by rfl) (fun K hK => ?_)
    go_simp
    refine (concatK1 bk B m d ks X2 cbk (KK.out.below hbX2) (by omega)).mono ?_
    rintro e X3 ⟨v2, rfl, g2, hst⟩
    obtain ⟨F2, N2, f2, rfl⟩ := g2.shape
    have rk := g2.lower (base' := V.heap.size) hbX2.size
    clear g2
    have hbX3 := hbX2.trans (hst.mono hbX2.size)
    replace cbz := below_read hst cbz
    refine hK.out _ _ (fun _ => HC.out X3 hbX3) ?_
    clear hK K hst
    try simp only [Act.put, List.setIfInBounds_toArray, List.set_cons_zero, List.set_cons_succ]
    refine oneT (i := 9) (by kernel_rfl) rfl (by rfl) (fun K hK => ?_)
    go_simp
    refine (concatR1 bz C p q zs X3 cbz (KZ.out.below hbX3) (by omega)).mono ?_
    rintro e X4 ⟨v3, rfl, g3, hst⟩
    obtain ⟨F3, N3, f3, rfl⟩ := g3.shape
    have rz := g3.lower (base' := V.heap.size) hbX3.size
    clear g3
    have hbX4 := hbX3.trans (hst.mono hbX3.size)
    replace rk := rk.next hst
    refine hK.out _ _ (fun _ => HC.out X4 hbX4) ?_
    clear hK K hst
    try simp only [Act.put, List.setIfInBounds_toArray, List.set_cons_zero, List.set_cons_succ]
    have hC := HC.out X4 hbX4
    refine takeT (i := 10) (v := ?_) rfl (by kernel_rfl) (by kernel_rfl) (by kernel_rfl) (by kernel_rfl) (fun _ _ _ h => h) hC (by rfl) ?_ ?_
    rotate_left
    · intro w hSw; (try dsimp only at hSw); go_simp; try (with_reducible rfl)
    try simp only [Act.put, List.setIfInBounds_toArray, List.set_cons_zero, List.set_cons_succ]
    refine takeT (i := 11) (v := ?_) rfl (by kernel_rfl) (by kernel_rfl) (by kernel_rfl) (by kernel_rfl) (fun _ _ _ h => h) hC (by rfl) ?_ ?_
    rotate_left
    · intro w hSw; (try dsimp only at hSw); go_simp; try (with_reducible rfl)
    try simp only [Act.put, List.setIfInBounds_toArray, List.set_cons_zero, List.set_cons_succ]
    have m5 := k5.below hbX4
    have mv := kv5.below hbX4
    obtain ⟨y0, y1, y2, y3, y4⟩ := m5.cells
    have z3 := m5.free 3
    have z4 := m5.free 4
    have HE := same_end hrV rk rz (Below.trans hbV (hbX4.mono (Nat.le_trans (Nat.le_of_lt hbW) hsV))) m5 mv hbW hs0 hsV l1 HB.out.symm (by omega) hbX4
    have hsC := hbX4.size
    refine oneT (i := 12) (by kernel_rfl) rfl (by rfl) (fun K hK => ?_)
    go_simp
    refine hK.out _ _ (fun h => by cases h) ?_
    clear hK K
    refine doneT (by kernel_rfl) ?_
    obtain ⟨q5, qv, HE⟩ := HE
    generalize (X4.setCell ⟨b, 3, none⟩ (.slice F2 N2 f2)).setCell ⟨b, 4, none⟩ (.slice F3 N3 f3) = Z at *
    obtain ⟨y0, y1, y2, y3, y4⟩ := q5.cells
    obtain ⟨x0, x1, x2, x3, x4⟩ := qv.cells
    have f0 := qv.free 0
    have f1 := qv.free 1
    have f2 := qv.free 2
    have f3 := qv.free 3
    have f4 := qv.free 4
    clear m5 mv rk rz q5 qv
    go_wp2
    ((try simp only [Exit.inBlock, Exit.then]); refine bodyPost_ret (results_five rfl rfl HE.1) rfl ?_)
    exact HE.2
end Go.Proofs.Ytmnbdhngadjmiaa
