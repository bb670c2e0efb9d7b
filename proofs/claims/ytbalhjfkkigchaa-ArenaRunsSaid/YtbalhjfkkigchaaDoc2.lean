/-
  What the document's arena's Alloc returns.
-/
import Derived.Test.YtbalhjfkkigchaaDoc1
namespace Go.Proofs.Ytbalhjfkkigchaa
open Go.ChangeShapes Go.WideShapes Go.ChangeAt Go.RowKit
set_option linter.unusedVariables false
set_option linter.unusedSimpArgs false
set_option maxRecDepth 20000

theorem Prs.of_block {base g : Nat} {w : World} (h : w.heap[g]? = some (.cells #[] 73 (0, 0))) (hb : base ≤ g) : Prs base w (.slice (some ⟨g, 0, none⟩) 0 0) [] :=
  ⟨rfl, .inr ⟨g, 0, #[], rfl, hb, h, Nat.le_refl _, Nat.zero_le _, rfl, rfl⟩⟩

/-- The node's rows, stored where the result stands. -/
theorem same_endN {w V X : World} {b R B0 : Nat} {x y : Bool} {pv kv zv k0 z0 r2 r3 r4 : Value} {ps : List (Int × Int)} {ks zs : List Int} {r0 r1 : Bool} (hp : Prs B0 V pv ps) (hk : Row 2 V.heap.size X kv ks) (hz : Row 46 V.heap.size X zv zs)
    (hb : Below b w X) (h5 : Five X b x y pv k0 z0) (hv : Five X R r0 r1 r2 r3 r4) (hbW : b < B0) (hRW : R < B0) (hWV : B0 ≤ V.heap.size) (hne : b ≠ R) (hbw : b = w.heap.size) (hbR : b ≤ R) (hVX : Below V.heap.size V X) :
    Five ((X.setCell ⟨b, 3, none⟩ kv).setCell ⟨b, 4, none⟩ zv) b x y pv kv zv ∧ Five ((X.setCell ⟨b, 3, none⟩ kv).setCell ⟨b, 4, none⟩ zv) R r0 r1 r2 r3 r4 ∧
    Five (((((((X.setCell ⟨b, 3, none⟩ kv).setCell ⟨b, 4, none⟩ zv).setCell ⟨R, 0, none⟩ (.bool x)).setCell ⟨R, 1, none⟩ (.bool y)).setCell ⟨R, 2, none⟩ pv).setCell ⟨R, 3, none⟩ kv).setCell ⟨R, 4, none⟩ zv) R x y pv kv zv ∧
    MadeN w ⟨x, y, ps, ks, zs⟩ (.returned (ndv x y pv kv zv)) (((((((X.setCell ⟨b, 3, none⟩ kv).setCell ⟨b, 4, none⟩ zv).setCell ⟨R, 0, none⟩ (.bool x)).setCell ⟨R, 1, none⟩ (.bool y)).setCell ⟨R, 2, none⟩ pv).setCell ⟨R, 3, none⟩ kv).setCell ⟨R, 4, none⟩ zv) := by
  subst hbw
  have hp2 : Prs B0 X pv ps := hp.next hVX
  have q5 := (h5.set3 kv).set4 zv
  have qv := (hv.off (p := ⟨w.heap.size, 3, none⟩) (Ne.symm hne) kv).off (p := ⟨w.heap.size, 4, none⟩) (Ne.symm hne) zv
  refine ⟨q5, qv, ?_, pv, kv, zv, rfl, ?_, ?_, ?_, ?_⟩
  · unfold Five
    rw [heap_setCell_same _ R 4 _ _ zv (heap_setCell_same _ R 3 _ _ kv (heap_setCell_same _ R 2 _ _ pv (heap_setCell_same _ R 1 _ _ _ (heap_setCell_same _ R 0 _ _ _ qv))))]
    rfl
  · exact (((((((hp2.set_below hbW _).set_below hbW _).set_below hRW _).set_below hRW _).set_below hRW _).set_below hRW _).set_below hRW _).lower (by omega)
  · exact (((((((hk.set_below (by simp; omega) _).set_below (by simp; omega) _).set_below (by simp; omega) _).set_below (by simp; omega) _).set_below (by simp; omega) _).set_below (by simp; omega) _).set_below (by simp; omega) _).lower (by omega)
  · exact (((((((hz.set_below (by simp; omega) _).set_below (by simp; omega) _).set_below (by simp; omega) _).set_below (by simp; omega) _).set_below (by simp; omega) _).set_below (by simp; omega) _).set_below (by simp; omega) _).lower (by omega)
  · exact ((((((hb.setCell (p := ⟨w.heap.size, 3, none⟩) (Nat.le_refl _) _).setCell (p := ⟨w.heap.size, 4, none⟩) (Nat.le_refl _) _).setCell (p := ⟨R, 0, none⟩) hbR _).setCell (p := ⟨R, 1, none⟩) hbR _).setCell (p := ⟨R, 2, none⟩) hbR _).setCell (p := ⟨R, 3, none⟩) hbR _).setCell (p := ⟨R, 4, none⟩) hbR _

/-- The node's pairs are copied. -/
theorem copy_mid (w : World) (x y : Bool) (pv kv zv : Value) {v' : Value} {w' : World} {ps : List (Int × Int)} (hrow : Prs (w.heap.size + 1 + 1) w' v' ps)
    (hgr : (((w.alloc (.cells #[.bool x, .bool y, pv, kv, zv] 55)).alloc (.cells #[.bool false, .bool false, .slice none 0 0, .slice none 0 0, .slice none 0 0] 55)).alloc (.cells #[] 73)).grownBy w' (some (w.heap.size + 1 + 1))) :
    ∃ (V : World) (R : Nat), w'.setCell ⟨w.heap.size, 2, none⟩ v' = V ∧ w.heap.size + 1 = R ∧ Five w' w.heap.size x y pv kv zv ∧ w'.frozen? ⟨w.heap.size, 2, none⟩ = false ∧ Five V w.heap.size x y v' kv zv ∧ Five V R false false (.slice none 0 0) (.slice none 0 0) (.slice none 0 0) ∧ Below w.heap.size w V ∧ Prs (R + 1) V v' ps ∧ R + 1 ≤ V.heap.size := by
  obtain ⟨W, R, hW, hR, hb0, hs0, h5, hv5, hR0, l1, l2⟩ := boxed5 w x y pv kv zv
  have hWs : W.heap.size = R + 1 := by rw [← hW, ← hR]; simp
  rw [hW] at hgr
  rw [hR] at hrow hgr
  have pw : Below W.heap.size W w' := (below_new W (.cells #[] 73)).grown hgr (by simp) (fun b e => by injection e with e; omega)
  have g5 := h5.below pw
  have gv := hv5.below pw
  refine ⟨_, R, rfl, hR, g5, g5.free 2, g5.set2 _, gv.off l2 _, (hb0.trans (pw.mono (by omega))).setCell (p := ⟨w.heap.size, 2, none⟩) (Nat.le_refl _) _, hrow.set_below (p := ⟨w.heap.size, 2, none⟩) (by simp; omega) _, ?_⟩
  have := pw.size
  simp
  omega

set_option maxHeartbeats 4000000 in
theorem copyNode_walk (x y : Bool) (A B C : Option Addr) (n c m d p q : Nat) (ps : List (Int × Int)) (ks zs : List Int) (w : World) (hp : Lp w A n c ps) (hk : Sl w B m d ks) (hz : Sl w C p q zs) (hps : ps.length ≤ 100) (hks : ks.length ≤ 100) (hzs : zs.length ≤ 100) :
    Calls Try.prog 41 #[ndv x y (.slice A n c) (.slice B m d) (.slice C p q)] w (MadeN w ⟨x, y, ps, ks, zs⟩) := by
  have hm1 : m ≤ 1000 := by have := hk.len; omega
  have hp1 : p ≤ 1000 := by have := hz.len; omega
  have hpl : ([] : List (Int × Int)).length + ps.length ≤ 100000 := by simp; omega
  have Hp := Lib.hid hp
  have Hk := Lib.hid hk
  have Hz := Lib.hid hz
  clear hp hk hz
  go_enter Try.func41, Try.ntmps41
  go_wp2_with (at_builtin; refine pushP (base := w.heap.size + 1 + 1) rfl (.tmp 3) (.tmp 5) rfl _ [] rfl (Prs.of_block (h_new (by simp)) (Nat.le_refl _)) A n c ps rfl (((Hp.out.below (below_new _ _)).below (below_new _ _)).below (below_new _ _)) hpl (by simp) ?_; intro v' w' hrow hgr; obtain ⟨F1, N1, f1, rfl⟩ := hrow.shape; obtain ⟨V, R, hV, hR, w5, z2, k5, kv5, hbV, hrV, hsV⟩ := copy_mid w x y _ _ _ hrow hgr; obtain ⟨y0, y1, y2, y3, y4⟩ := w5.cells; have HV := Lib.hid hV; have HR := Lib.hid hR; have HRV := Lib.hid hrV; clear hrow hgr hV hR hrV)
  rw [HV.out]; (try rw [HR.out])
  have KK : Hid (Sl V B m d ks) := Hk.out.keep fun p h => hbV.cell h
  have KZ : Hid (Sl V C p q zs) := Hz.out.keep fun p h => hbV.cell h
  clear y0 y1 y2 y3 y4 z2 w5
  have hne : w.heap.size ≠ R := by have := HR.out; omega
  refine (copy_walk B C m d p q ks zs V KK.out KZ.out hm1 hp1).mono ?_
  rintro e X ⟨u, v, rfl, g1, g2, p1⟩
  obtain ⟨F2, N2, f2, rfl⟩ := g1.shape
  obtain ⟨F3, N3, f3, rfl⟩ := g2.shape
  have m5 := k5.below p1
  have mv := kv5.below p1
  obtain ⟨y0, y1, y2, y3, y4⟩ := m5.cells
  have z3 := m5.free 3
  have z4 := m5.free 4
  obtain ⟨q5, qv, hE5, hEM⟩ := same_endN (B0 := R + 1) HRV.out g1 g2 (hbV.trans (p1.mono hbV.size)) m5 mv (by have := HR.out; omega) (by omega) hsV hne rfl (by have := HR.out; omega) p1
  have HE5 := Lib.hid hE5
  have HEM := Lib.hid hEM
  obtain ⟨x0, x1, x2, x3, x4⟩ := qv.cells
  have e0 := mv.cells
  obtain ⟨x0, x1, x2, x3, x4⟩ := mv.cells
  have f0 := mv.free 0
  have f1 := mv.free 1
  have f2 := mv.free 2
  have f3 := mv.free 3
  have f4 := mv.free 4
  have hne2 : R ≠ w.heap.size := fun e => hne e.symm
  clear hE5 hEM m5 mv g1 g2 k5 kv5
  go_wp2
  ((try simp only [Exit.inBlock, Exit.then]); refine bodyPost_ret (results_five rfl rfl HE5.out) rfl ?_)
  exact HEM.out
end Go.Proofs.Ytbalhjfkkigchaa
