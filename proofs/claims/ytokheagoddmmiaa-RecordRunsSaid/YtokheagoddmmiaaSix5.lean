/-
  A record in a variable; what record's same returns: a record of its own memory.
-/
import Derived.Test.YtokheagoddmmiaaRec5
namespace Go.Proofs.Ytokheagoddmmiaa
open Go.ChangeShapes Go.WideShapes Go.ChangeAt Go.RowKit
set_option linter.unusedVariables false
set_option linter.unusedSimpArgs false
set_option maxRecDepth 20000

/-- A record of its own memory. -/
def MadeR (w : World) (r : Rc) (e : Ending) (w' : World) : Prop :=
  ∃ u v, e = .returned (rcv u v r) ∧ Row 30 w.heap.size w' u r.ns ∧ Row 2 w.heap.size w' v r.is ∧ Below w.heap.size w w'
/-- A variable of six cells. -/
def Six (w : World) (b : Nat) (u v : Value) (k y o n : Int) : Prop := w.heap[b]? = some (.cells #[u, v, .int .i64 k, .int .i64 y, .int .i64 o, .int .i64 n] 32 (0, 0))
section
variable {w w' : World} {b : Nat} {u v : Value} {k y o n : Int}
theorem Six.cells (h : Six w b u v k y o n) : w.cell? ⟨b, 0, none⟩ = some u ∧ w.cell? ⟨b, 1, none⟩ = some v ∧ w.cell? ⟨b, 2, none⟩ = some (.int .i64 k) ∧ w.cell? ⟨b, 3, none⟩ = some (.int .i64 y) ∧ w.cell? ⟨b, 4, none⟩ = some (.int .i64 o) ∧ w.cell? ⟨b, 5, none⟩ = some (.int .i64 n) := by
  refine ⟨?_, ?_, ?_, ?_, ?_, ?_⟩ <;> (rw [cell_of_row w b _ _ _ (0, 0) h]; rfl)
theorem Six.free (h : Six w b u v k y o n) (j : Nat) : w.frozen? ⟨b, j, none⟩ = false := frozen_of_row w b j _ _ h
theorem Six.frees (h : Six w b u v k y o n) : w.frozen? ⟨b, 0, none⟩ = false ∧ w.frozen? ⟨b, 1, none⟩ = false ∧ w.frozen? ⟨b, 2, none⟩ = false ∧ w.frozen? ⟨b, 3, none⟩ = false ∧ w.frozen? ⟨b, 4, none⟩ = false ∧ w.frozen? ⟨b, 5, none⟩ = false := ⟨h.free 0, h.free 1, h.free 2, h.free 3, h.free 4, h.free 5⟩
theorem Six.below (h : Six w b u v k y o n) (hb : Below w.heap.size w w') : Six w' b u v k y o n := (hb.block b (Array.getElem?_eq_some_iff.1 h).1).trans h
theorem Six.lt (h : Six w b u v k y o n) : b < w.heap.size := (Array.getElem?_eq_some_iff.1 h).1
theorem Six.off (h : Six w b u v k y o n) {p : Addr} (hp : b ≠ p.block) (x : Value) : Six (w.setCell p x) b u v k y o n := (heap_setCell_other w p b x hp).trans h
theorem Six.set0 (h : Six w b u v k y o n) (x : Value) : Six (w.setCell ⟨b, 0, none⟩ x) b x v k y o n := heap_setCell_same w b 0 _ _ x h
theorem Six.set1 (h : Six w b u v k y o n) (x : Value) : Six (w.setCell ⟨b, 1, none⟩ x) b u x k y o n := heap_setCell_same w b 1 _ _ x h
theorem Six.new (w : World) {b : Nat} (hb : w.heap.size = b) (u v : Value) (k y o n : Int) : Six (w.alloc (.cells #[u, v, .int .i64 k, .int .i64 y, .int .i64 o, .int .i64 n] 32)) b u v k y o n := by subst hb; exact heap_alloc_new w _
end
/-- The six stores of a record into a variable. -/
abbrev put6 (w : World) (R : Nat) (u v : Value) (k y o n : Int) : World := (((((w.setCell ⟨R, 0, none⟩ u).setCell ⟨R, 1, none⟩ v).setCell ⟨R, 2, none⟩ (.int .i64 k)).setCell ⟨R, 3, none⟩ (.int .i64 y)).setCell ⟨R, 4, none⟩ (.int .i64 o)).setCell ⟨R, 5, none⟩ (.int .i64 n)
theorem Six.put {w : World} {R : Nat} {u v u' v' : Value} {k y o n k' y' o' n' : Int} (h : Six w R u' v' k' y' o' n') : Six (put6 w R u v k y o n) R u v k y o n := by
  unfold Six
  rw [heap_setCell_same _ R 5 _ _ _ (heap_setCell_same _ R 4 _ _ _ (heap_setCell_same _ R 3 _ _ _ (heap_setCell_same _ R 2 _ _ _ (heap_setCell_same _ R 1 _ _ _ (heap_setCell_same _ R 0 _ _ _ h)))))]
  rfl
theorem Row.put6 {el : TypeId} {B R : Nat} {w : World} {x u v : Value} {zs : List Int} {k y o n : Int} (h : Row el B w x zs) (hR : R < B) : Row el B (put6 w R u v k y o n) x zs :=
  (((((h.set_below (p := ⟨R, 0, none⟩) hR _).set_below (p := ⟨R, 1, none⟩) hR _).set_below (p := ⟨R, 2, none⟩) hR _).set_below (p := ⟨R, 3, none⟩) hR _).set_below (p := ⟨R, 4, none⟩) hR _).set_below (p := ⟨R, 5, none⟩) hR _
theorem below_put6 {B R : Nat} {a w : World} {u v : Value} {k y o n : Int} (h : Below B a w) (hR : B ≤ R) : Below B a (put6 w R u v k y o n) :=
  (((((h.setCell (p := ⟨R, 0, none⟩) hR _).setCell (p := ⟨R, 1, none⟩) hR _).setCell (p := ⟨R, 2, none⟩) hR _).setCell (p := ⟨R, 3, none⟩) hR _).setCell (p := ⟨R, 4, none⟩) hR _).setCell (p := ⟨R, 5, none⟩) hR _
theorem load_six {w : World} {R : Nat} {u v : Value} {k y o n : Int} (h : Six w R u v k y o n) :
    (loadVar 32 ⟨R, 0, none⟩).run Try.prog w = .ok (.agg #[u, v, .int .i64 k, .int .i64 y, .int .i64 o, .int .i64 n]) w := by
  obtain ⟨e0, e1, e2, e3, e4, e5⟩ := h.cells
  simp [go_sem, e0, e1, e2, e3, e4, e5]
theorem results_six {fn : Func} {t : Tmp} {R : Nat} {u v : Value} {k y o n : Int} {tmps : Array Value} {w : World} (h : fn.results = #[.cell t 32]) (ht : tmps.getD t undef = .pointer (some ⟨R, 0, none⟩))
    (h6 : Six w R u v k y o n) : (results fn tmps).run Try.prog w = .ok (.agg #[u, v, .int .i64 k, .int .i64 y, .int .i64 o, .int .i64 n]) w := by
  have := load_six h6
  have ht' : tmps[t]?.getD undef = .pointer (some ⟨R, 0, none⟩) := by simpa using ht
  simp [results, h, ht', asAddr, this]

/-- The world behind a box for a record and a variable for the result. -/
theorem boxed6 (w : World) (u v : Value) (k y o n : Int) : ∃ (W : World) (R : Nat), (w.alloc (.cells #[u, v, .int .i64 k, .int .i64 y, .int .i64 o, .int .i64 n] 32)).alloc (.cells #[.slice none 0 0, .slice none 0 0, .int .i64 0, .int .i64 0, .int .i64 0, .int .i64 0] 32) = W ∧ w.heap.size + 1 = R ∧ Below w.heap.size w W ∧ R < W.heap.size ∧
    Six W w.heap.size u v k y o n ∧ Six W R (.slice none 0 0) (.slice none 0 0) 0 0 0 0 ∧ w.heap.size < R ∧ w.heap.size ≠ R ∧ R ≠ w.heap.size :=
  ⟨_, _, rfl, rfl, ((Below.refl _ w).alloc (Nat.le_refl _) _).alloc (by simp) _, by simp, (Six.new w rfl u v k y o n).below (below_new _ _), Six.new _ (by simp) _ _ _ _ _ _, by omega, by omega, by omega⟩
/-- A slice of one is built. -/
theorem stepB (cw : World) (v : Value) (t : TypeId) : ∃ (X : World) (b : Nat), cw.alloc (.cells #[v] t) = X ∧ cw.heap.size = b ∧ Below cw.heap.size cw X ∧ X.cell? ⟨b, 0, none⟩ = some v :=
  ⟨_, _, rfl, rfl, below_new _ _, c_new rfl rfl⟩
/-- The record stands where the result stands. -/
theorem six_end {w Z : World} {B R : Nat} {u v u' v' : Value} {k' y' o' n' : Int} {r : Rc} (hr : Row 30 B Z u r.ns) (hk : Row 2 B Z v r.is) (hRB : R < B) (hB : w.heap.size ≤ B) (hb : Below w.heap.size w Z) (hR : w.heap.size ≤ R) (hv : Six Z R u' v' k' y' o' n') :
    Six (put6 Z R u v r.kp r.wy r.od r.nw) R u v r.kp r.wy r.od r.nw ∧ MadeR w r (.returned (rcv u v r)) (put6 Z R u v r.kp r.wy r.od r.nw) :=
  ⟨hv.put, u, v, rfl, (hr.put6 hRB).lower hB, (hk.put6 hRB).lower hB, below_put6 hb hR⟩

set_option maxHeartbeats 4000000 in
theorem same_walk (A B : Option Addr) (n c m d : Nat) (r : Rc) (w : World) (hr : Sl w A n c r.ns) (hk : Sl w B m d r.is) (hrl : r.ns.length ≤ 100) (hkl : r.is.length ≤ 100) :
    Calls Try.prog 22 #[rcv (.slice A n c) (.slice B m d) r] w (MadeR w r) := by
  obtain ⟨ns, is, kp, wy, od, nw⟩ := r
  simp only at hr hk hrl hkl
  obtain ⟨W, R, hW, hR, hb0, hs0, h6, hv6, hR0, l1, l2⟩ := boxed6 w (.slice A n c) (.slice B m d) kp wy od nw
  obtain ⟨c0, c1, c2, c3, c4, c5⟩ := h6.cells
  have Hr := Lib.hid hr
  have Hk := Lib.hid hk
  clear hr hk
  go_enter Try.func22, Try.ntmps22
  go_wp2_with fail
  clear hW hR
  have HW := Lib.hid hb0
  clear hb0
  generalize hb : w.heap.size = b at *
  have HB := Lib.hid hb
  clear hb
  refine (concatR1 W.heap.size A n c ns _ (c_new rfl rfl) ((Hr.out.keep fun p h => HW.out.cell (by have := HB.out; omega)).below (below_new _ _)) (by omega)).mono ?_
  rintro e w1 ⟨v1, rfl, hr1, hb1⟩
  obtain ⟨F1, N1, f1, rfl⟩ := hr1.shape
  have p1 : Below W.heap.size W w1 := (below_new W _).trans (hb1.mono (by simp))
  have g6 := h6.below p1
  have gv := hv6.below p1
  have hr2 := hr1.lower (base' := W.heap.size) (by simp)
  clear hr1 hb1 c0 c1 c2 c3 c4 c5
  obtain ⟨d0, d1, d2, d3, d4, d5⟩ := g6.cells
  have f0 := g6.free 0
  have hbW : b < W.heap.size := by omega
  have hb1 : Below b w w1 := HW.out.trans (p1.mono (by omega))
  have hs1 := p1.size
  clear p1
  go_wp2_with fail
  obtain ⟨V, hV, k6, kv6, hbV, hrV, hsV⟩ : ∃ V : World, w1.setCell ⟨b, 0, none⟩ (.slice F1 N1 f1) = V ∧ Six V b (.slice F1 N1 f1) (.slice B m d) kp wy od nw ∧ Six V R (.slice none 0 0) (.slice none 0 0) 0 0 0 0 ∧ Below b w V ∧ Row 30 W.heap.size V (.slice F1 N1 f1) ns ∧ W.heap.size ≤ V.heap.size :=
    ⟨_, rfl, g6.set0 _, gv.off l2 _, hb1.setCell (p := ⟨b, 0, none⟩) (Nat.le_refl _) _, hr2.set_below hbW _, by simpa using hs1⟩
  have eV : w1.heap.size = V.heap.size := by rw [← hV]; simp
  (try rw [hV]); (try rw [eV])
  clear eV
  clear hV hr2 gv g6 d0 d1 d2 d3 d4 d5 f0 hb1 hs1
  refine (concatK1 V.heap.size B m d is _ (c_new rfl rfl) ((Hk.out.keep fun p h => hbV.cell (by have := HB.out; omega)).below (below_new _ _)) (by omega)).mono ?_
  rintro e w3 ⟨v3, rfl, hk3, hb3⟩
  obtain ⟨F3, N3, f3, rfl⟩ := hk3.shape
  have p3 : Below V.heap.size V w3 := (below_new V _).trans (hb3.mono (by simp))
  have g6 := k6.below p3
  have gv := kv6.below p3
  have hr3 := hrV.next p3
  have hk4 := hk3.lower (base' := W.heap.size) (by simp; omega)
  have hb4 : Below b w w3 := hbV.trans (p3.mono (by omega))
  have f1 := g6.free 1
  obtain ⟨d0, d1, d2, d3, d4, d5⟩ := g6.cells
  have HE := Lib.hid (six_end (w := w) (r := ⟨ns, is, kp, wy, od, nw⟩) (hr3.set_below (p := ⟨b, 1, none⟩) hbW (.slice F3 N3 f3)) (hk4.set_below (p := ⟨b, 1, none⟩) hbW (.slice F3 N3 f3)) hs0 (by have := HB.out; omega) (by have := HB.out; subst this; exact hb4.setCell (p := ⟨_, 1, none⟩) (Nat.le_refl _) _) (by have := HB.out; omega) (gv.off l2 _))
  have e6 := g6.set1 (.slice F3 N3 f3)
  have ev := gv.off (p := ⟨b, 1, none⟩) l2 (.slice F3 N3 f3)
  clear k6 kv6 hbV hrV hsV hk3 hb3 p3 gv hr3 hk4 hb4 g6
  obtain ⟨Z, hZ⟩ : ∃ Z : World, w3.setCell ⟨b, 1, none⟩ (.slice F3 N3 f3) = Z := ⟨_, rfl⟩
  rw [hZ] at HE e6 ev
  obtain ⟨y0, y1, y2, y3, y4, y5⟩ := e6.cells
  obtain ⟨x0, x1, x2, x3, x4, x5⟩ := ev.cells
  obtain ⟨z0, z1, z2, z3, z4, z5⟩ := ev.frees
  clear e6 ev h6 hv6
  go_wp2
  obtain ⟨h1, h2⟩ := HE.out
  ((try simp only [Exit.inBlock, Exit.then]); refine bodyPost_ret (results_six rfl rfl h1) rfl ?_)
  exact h2
end Go.Proofs.Ytokheagoddmmiaa
