/-
  What inner's With and Turned return.
-/
import Derived.Test.YtpbbkfpapmomhaaInner3
namespace Go.Proofs.Ytpbbkfpapmomhaa
open Go.ChangeShapes Go.WideShapes Go.ChangeAt Go.RowKit
set_option linter.unusedVariables false
set_option linter.unusedSimpArgs false

/-- The world behind a copy that lies in a variable of its own. -/
theorem after_same {w W0 w1 : World} {u v : Value} {ks ws : List Int} {R : Nat} (g1 : Row 2 W0.heap.size w1 u ks) (g2 : Row 35 W0.heap.size w1 v ws) (p1 : Below W0.heap.size W0 w1) (hs : R < W0.heap.size) (hb : Below w.heap.size w W0) (hR : w.heap.size < R) :
    ∃ (W1 : World) (O : Nat), w1.alloc (.cells #[u, v] 26) = W1 ∧ w1.heap.size = O ∧ Below W0.heap.size W0 W1 ∧ Box W1 O u v ∧ Row 2 W0.heap.size W1 u ks ∧ Row 35 W0.heap.size W1 v ws ∧
      w.heap.size < W1.heap.size ∧ R < W1.heap.size ∧ O < W1.heap.size ∧ R ≠ O ∧ O ≠ R ∧ w.heap.size ≠ O ∧ O ≠ w.heap.size := by
  have := p1.size
  have := hb.size
  exact ⟨_, _, rfl, rfl, p1.alloc p1.size _, Box.new w1 rfl u v _, g1.alloc _, g2.alloc _, by simp; omega, by simp; omega, by simp, by omega, by omega, by omega, by omega⟩

set_option maxHeartbeats 1000000 in
theorem with_out (A B : Option Addr) (n c m d : Nat) (ks ws : List Int) (i r : Int) (w : World) (hk : Sl w A n c ks) (hw : Sl w B m d ws) (hn : n ≤ 200) (hm : m ≤ 200)
    (hno : (fitsB n m && hasB m i) = false) :
    Calls Try.prog 22 #[inn A n c B m d, .int .i64 i, .int .i64 r] w (MadeI w ks ws) := by
  go_enter Try.func22, Try.ntmps22
  go_wp2_with fail
  obtain ⟨W0, R, hW, hR, hb00, hs00, HN0, HV0, hR0, l3, l4⟩ := boxed1v w (.slice A n c) (.slice B m d)
  rw [hW, hR]
  clear hW hR
  refine (same_walk A B n c m d ks ws W0 (hk.below hb00) (hw.below hb00) (by omega) (by omega)).mono ?_
  rintro e w1 ⟨u, v, rfl, g1, g2, p1⟩
  obtain ⟨F1, N1, f1, rfl⟩ := g1.shape
  obtain ⟨F2, N2, f2, rfl⟩ := g2.shape
  obtain ⟨j0, j1⟩ := HN0.below p1
  have s1 : w.heap.size < w1.heap.size := Nat.lt_of_lt_of_le (by omega) p1.size
  go_wp2_with fail
  obtain ⟨W1, O, hW, hO, b1, HO, r1, r2, z1, z2, z3, l5, l6, l7, l8⟩ := after_same g1 g2 p1 hs00 hb00 hR0
  rw [hW, hO]
  clear hW hO g1 g2 p1 j0 j1 s1
  refine (fits_walk A B n c m d W1 (by omega) (by omega)).mono ?_
  rintro e w2 ⟨rfl, p2⟩
  obtain ⟨i0, i1⟩ := HO.below p2
  have b2 := b1.trans (p2.mono b1.size)
  obtain ⟨j0, j1⟩ := HN0.below b2
  obtain ⟨t0, t1, u0, u1⟩ := HV0.below b2
  cases hf : fitsB n m with
  | false =>
    clear hf hno
    go_wp2
    refine bodyPost_ret (results_stored rfl rfl t0 t1) rfl ?_
    exact madeI_end1 (r1.next p2) (r2.next p2) hb00 hs00 (by omega) (hb00.trans (b2.mono hb00.size))
  | true =>
    rw [hf, Bool.true_and] at hno
    have HNO := Lib.hid hno
    clear hf hno
    go_wp2_with fail
    refine (has_walk A B n c m d i w2 (by omega)).mono ?_
    rintro e w3 ⟨rfl, p23⟩
    rw [HNO.out]
    have p3 := p2.trans (p23.mono p2.size)
    have b3 := b1.trans (p3.mono b1.size)
    clear i0 i1 j0 j1 t0 t1 u0 u1
    obtain ⟨i0, i1⟩ := HO.below p3
    obtain ⟨t0, t1, u0, u1⟩ := HV0.below b3
    go_wp2
    refine bodyPost_ret (results_stored rfl rfl t0 t1) rfl ?_
    exact madeI_end1 (r1.next p3) (r2.next p3) hb00 hs00 (by omega) (hb00.trans (b3.mono hb00.size))

theorem Row.set_ {el : TypeId} {base : Nat} {w : World} {g N c : Nat} {zs : List Int} (h : Row el base w (.slice (some ⟨g, 0, none⟩) N c) zs) (k : Nat) (z : Int) :
    Row el base (w.setCell ⟨g, k, none⟩ (.int .i64 z)) (.slice (some ⟨g, 0, none⟩) N c) (zs.set k z) ∧ w.grownBy (w.setCell ⟨g, k, none⟩ (.int .i64 z)) (some g) := by
  obtain ⟨A', c', e, _⟩ := h.form
  injection e with e1 e2 e3
  subst e1 e2 e3
  have := World.ownsRow.stored h k (.int .i64 z)
  refine ⟨?_, this.2⟩
  have h3 := this.1
  unfold Row ints
  rw [List.map_set, List.length_set]
  exact h3

set_option maxHeartbeats 1000000 in
theorem with_in (A B : Option Addr) (n c m d : Nat) (ks ws : List Int) (k : Nat) (r : Int) (w : World) (hk : Sl w A n c ks) (hw : Sl w B m d ws) (hn : n ≤ 200) (hm : m ≤ 200)
    (hf : fitsB n m = true) (hkm : k < m) :
    Calls Try.prog 22 #[inn A n c B m d, .int .i64 (k : Int), .int .i64 r] w (MadeI w ks (ws.set k r)) := by
  have HA := Lib.hid hf
  have HC : Hid (hasB m (k : Int) = true) := by show _ = _; simp [hasB]; omega
  have HM := Lib.hid hw.len
  clear hf
  go_enter Try.func22, Try.ntmps22
  go_wp2_with fail
  obtain ⟨W0, R, hW, hR, hb00, hs00, HN0, HV0, hR0, l3, l4⟩ := boxed1v w (.slice A n c) (.slice B m d)
  rw [hW, hR]
  clear hW hR
  refine (same_walk A B n c m d ks ws W0 (hk.below hb00) (hw.below hb00) (by omega) (by omega)).mono ?_
  rintro e w1 ⟨u, v, rfl, g1, g2, p1⟩
  obtain ⟨F1, N1, f1, rfl⟩ := g1.shape
  obtain ⟨g, f2, uu, rfl, hg0, hg1, hcap, d0, z0, _⟩ := g2.put (k := k) (by rw [← HM.out]; exact hkm)
  rw [← HM.out] at g2 ⊢
  obtain ⟨j0, j1⟩ := HN0.below p1
  have s1 : w.heap.size < w1.heap.size := Nat.lt_of_lt_of_le (by omega) p1.size
  go_wp2_with fail
  obtain ⟨W1, O, hW, hO, b1, HO, r1, r2, z1, z2, z3, l5, l6, l7, l8⟩ := after_same g1 g2 p1 hs00 hb00 hR0
  have l9 : g ≠ O := by omega
  have l10 : O ≠ g := by omega
  have l11 : g ≠ R := by omega
  have l12 : R ≠ g := by omega
  have d1 : W1.cell? ⟨g, k, none⟩ = some uu := by rw [← hW]; exact c_old d0
  have z4 : W1.frozen? ⟨g, k, none⟩ = false := by rw [← hW]; exact ((below_new w1 _).frozen (p := ⟨g, k, none⟩) hg1).trans z0
  have hg2 : g < W1.heap.size := by omega
  rw [hW, hO]
  clear hW hO g1 g2 p1 j0 j1 s1 d0 z0 hg1
  refine (fits_walk A B n c m d W1 (by omega) (by omega)).mono ?_
  rintro e w2 ⟨rfl, p2⟩
  rw [HA.out]
  have b2 := b1.trans (p2.mono b1.size)
  obtain ⟨j0, j1⟩ := HN0.below b2
  go_wp2_with fail
  refine (has_walk A B n c m d (k : Int) w2 (by omega)).mono ?_
  rintro e w3 ⟨rfl, p23⟩
  rw [HC.out]
  have p3 := p2.trans (p23.mono p2.size)
  have b3 := b1.trans (p3.mono b1.size)
  clear j0 j1
  obtain ⟨i0, i1⟩ := HO.below p3
  obtain ⟨t0, t1, u0, u1⟩ := HV0.below b3
  have d3 := (p3.cell (p := ⟨g, k, none⟩) hg2).trans d1
  have z5 := (p3.frozen (p := ⟨g, k, none⟩) hg2).trans z4
  have q1 := r1.next p3
  have q2 := r2.next p3
  have y2 := q2.set_ k r
  have y1 := q1.grown y2.2 (by have := q1.apart q2 (by decide); simpa [Value.ownBlock] using this)
  have e0 := (World.cell?_setCell_other w3 ⟨g, k, none⟩ ⟨R, 0, none⟩ (.int .i64 r) (by simp <;> omega)).trans t0
  have e1 := (World.cell?_setCell_other w3 ⟨g, k, none⟩ ⟨R, 1, none⟩ (.int .i64 r) (by simp <;> omega)).trans t1
  have Y1 := Lib.hid y1
  have Y2 := Lib.hid y2.1
  have hki : (k : Int) < (m : Int) := by omega
  have hk0 : (0 : Int) ≤ (k : Int) := by omega
  clear d1 z4 q1 q2 y1 y2
  go_wp2
  refine bodyPost_ret (results_stored rfl rfl e0 e1) rfl ?_
  exact madeI_end1 Y1.out Y2.out hb00 hs00 (by omega) ((hb00.trans (b3.mono hb00.size)).setCell (p := ⟨g, k, none⟩) (by have := hb00.size; show w.heap.size ≤ g; omega) _)

set_option maxHeartbeats 1000000 in
theorem turned_out (A B : Option Addr) (n c m d : Nat) (ks ws : List Int) (i a x b : Int) (w : World) (hk : Sl w A n c ks) (hw : Sl w B m d ws) (hn : n ≤ 200) (hm : m ≤ 200)
    (hno : (fitsB n m && hasTwoB m i) = false) :
    Calls Try.prog 31 #[inn A n c B m d, .int .i64 i, .int .i64 a, .int .i64 x, .int .i64 b] w (MadeI w ks ws) := by
  go_enter Try.func31, Try.ntmps31
  go_wp2_with fail
  obtain ⟨W0, R, hW, hR, hb00, hs00, HN0, HV0, hR0, l3, l4⟩ := boxed1v w (.slice A n c) (.slice B m d)
  rw [hW, hR]
  clear hW hR
  refine (same_walk A B n c m d ks ws W0 (hk.below hb00) (hw.below hb00) (by omega) (by omega)).mono ?_
  rintro e w1 ⟨u, v, rfl, g1, g2, p1⟩
  obtain ⟨F1, N1, f1, rfl⟩ := g1.shape
  obtain ⟨F2, N2, f2, rfl⟩ := g2.shape
  obtain ⟨j0, j1⟩ := HN0.below p1
  have s1 : w.heap.size < w1.heap.size := Nat.lt_of_lt_of_le (by omega) p1.size
  go_wp2_with fail
  obtain ⟨W1, O, hW, hO, b1, HO, r1, r2, z1, z2, z3, l5, l6, l7, l8⟩ := after_same g1 g2 p1 hs00 hb00 hR0
  rw [hW, hO]
  clear hW hO g1 g2 p1 j0 j1 s1
  refine (fits_walk A B n c m d W1 (by omega) (by omega)).mono ?_
  rintro e w2 ⟨rfl, p2⟩
  obtain ⟨i0, i1⟩ := HO.below p2
  have b2 := b1.trans (p2.mono b1.size)
  obtain ⟨j0, j1⟩ := HN0.below b2
  obtain ⟨t0, t1, u0, u1⟩ := HV0.below b2
  cases hf : fitsB n m with
  | false =>
    clear hf hno
    go_wp2
    refine bodyPost_ret (results_stored rfl rfl t0 t1) rfl ?_
    exact madeI_end1 (r1.next p2) (r2.next p2) hb00 hs00 (by omega) (hb00.trans (b2.mono hb00.size))
  | true =>
    rw [hf, Bool.true_and] at hno
    have HNO := Lib.hid hno
    clear hf hno
    go_wp2_with fail
    refine (hasTwo_walk A B n c m d i w2 (by omega)).mono ?_
    rintro e w3 ⟨rfl, p23⟩
    rw [HNO.out]
    have p3 := p2.trans (p23.mono p2.size)
    have b3 := b1.trans (p3.mono b1.size)
    clear i0 i1 j0 j1 t0 t1 u0 u1
    obtain ⟨i0, i1⟩ := HO.below p3
    obtain ⟨t0, t1, u0, u1⟩ := HV0.below b3
    go_wp2
    refine bodyPost_ret (results_stored rfl rfl t0 t1) rfl ?_
    exact madeI_end1 (r1.next p3) (r2.next p3) hb00 hs00 (by omega) (hb00.trans (b3.mono hb00.size))

set_option maxHeartbeats 2000000 in
theorem turned_in (A B : Option Addr) (n c m d : Nat) (ks ws : List Int) (k : Nat) (a x b : Int) (w : World) (hk : Sl w A n c ks) (hw : Sl w B m d ws) (hn : n ≤ 200) (hm : m ≤ 200)
    (hf : fitsB n m = true) (hkm : k + 1 < m) :
    Calls Try.prog 31 #[inn A n c B m d, .int .i64 (k : Int), .int .i64 a, .int .i64 x, .int .i64 b] w (MadeI w (ks.set k x) ((ws.set k a).set (k + 1) b)) := by
  have hnm : n + 1 = m := by simp [fitsB] at hf; omega
  have HA := Lib.hid hf
  have HC : Hid (hasTwoB m (k : Int) = true) := by show _ = _; simp [hasTwoB]; omega
  have HM := Lib.hid hw.len
  have HN := Lib.hid hk.len
  have hkn : k < n := by omega
  clear hf hnm
  go_enter Try.func31, Try.ntmps31
  go_wp2_with fail
  obtain ⟨W0, R, hW, hR, hb00, hs00, HN0, HV0, hR0, l3, l4⟩ := boxed1v w (.slice A n c) (.slice B m d)
  rw [hW, hR]
  clear hW hR
  refine (same_walk A B n c m d ks ws W0 (hk.below hb00) (hw.below hb00) (by omega) (by omega)).mono ?_
  rintro e w1 ⟨u, v, rfl, g1, g2, p1⟩
  have hap := g1.apart g2 (by decide)
  obtain ⟨h, f1, ux, rfl, hh0, hh1, hcap1, dx, zx, _⟩ := g1.put (k := k) (by rw [← HN.out]; exact hkn)
  obtain ⟨g, f2, uu, rfl, hg0, hg1, hcap, d0, z0, _⟩ := g2.put (k := k) (by rw [← HM.out]; omega)
  have hgh : h ≠ g := by simpa [Value.ownBlock] using hap
  have hgh' : g ≠ h := fun e => hgh e.symm
  obtain ⟨g', f2', ub, ev, _, _, _, db, zb, _⟩ := g2.put (k := k + 1) (by rw [← HM.out]; exact hkm)
  injection ev with e1 e2 e3
  injection e1 with e1
  injection e1 with e1
  subst e1
  clear e2 e3 hap
  rw [← HM.out] at g2 ⊢
  rw [← HN.out] at g1 ⊢
  obtain ⟨j0, j1⟩ := HN0.below p1
  have s1 : w.heap.size < w1.heap.size := Nat.lt_of_lt_of_le (by omega) p1.size
  go_wp2_with fail
  obtain ⟨W1, O, hW, hO, b1, HO, r1, r2, z1, z2, z3, l5, l6, l7, l8⟩ := after_same g1 g2 p1 hs00 hb00 hR0
  have l9 : g ≠ O := by omega
  have l10 : O ≠ g := by omega
  have l11 : g ≠ R := by omega
  have l12 : R ≠ g := by omega
  have m9 : h ≠ O := by omega
  have m10 : O ≠ h := by omega
  have m11 : h ≠ R := by omega
  have m12 : R ≠ h := by omega
  have d1 : W1.cell? ⟨g, k, none⟩ = some uu := by rw [← hW]; exact c_old d0
  have z4 : W1.frozen? ⟨g, k, none⟩ = false := by rw [← hW]; exact ((below_new w1 _).frozen (p := ⟨g, k, none⟩) hg1).trans z0
  have dx1 : W1.cell? ⟨h, k, none⟩ = some ux := by rw [← hW]; exact c_old dx
  have zx4 : W1.frozen? ⟨h, k, none⟩ = false := by rw [← hW]; exact ((below_new w1 _).frozen (p := ⟨h, k, none⟩) hh1).trans zx
  have db1 : W1.cell? ⟨g, k + 1, none⟩ = some ub := by rw [← hW]; exact c_old db
  have zb4 : W1.frozen? ⟨g, k + 1, none⟩ = false := by rw [← hW]; exact ((below_new w1 _).frozen (p := ⟨g, k + 1, none⟩) hg1).trans zb
  have hg2 : g < W1.heap.size := by omega
  have hh2 : h < W1.heap.size := by omega
  rw [hW, hO]
  clear hW hO g1 g2 p1 j0 j1 s1 d0 z0 dx zx db zb hg1 hh1
  refine (fits_walk A B n c m d W1 (by omega) (by omega)).mono ?_
  rintro e w2 ⟨rfl, p2⟩
  rw [HA.out]
  have b2 := b1.trans (p2.mono b1.size)
  obtain ⟨j0, j1⟩ := HN0.below b2
  go_wp2_with fail
  refine (hasTwo_walk A B n c m d (k : Int) w2 (by omega)).mono ?_
  rintro e w3 ⟨rfl, p23⟩
  rw [HC.out]
  have p3 := p2.trans (p23.mono p2.size)
  have b3 := b1.trans (p3.mono b1.size)
  clear j0 j1
  obtain ⟨i0, i1⟩ := HO.below p3
  obtain ⟨t0, t1, u0, u1⟩ := HV0.below b3
  have d3 := (p3.cell (p := ⟨g, k, none⟩) hg2).trans d1
  have z5 := (p3.frozen (p := ⟨g, k, none⟩) hg2).trans z4
  have dx3 := (p3.cell (p := ⟨h, k, none⟩) hh2).trans dx1
  have zx5 := (p3.frozen (p := ⟨h, k, none⟩) hh2).trans zx4
  have db3 := (p3.cell (p := ⟨g, k + 1, none⟩) hg2).trans db1
  have zb5 := (p3.frozen (p := ⟨g, k + 1, none⟩) hg2).trans zb4
  have q1 := r1.next p3
  have q2 := r2.next p3
  have y2 := q2.set_ k a
  have y1 := q1.grown y2.2 (by have := q1.apart q2 (by decide); simpa [Value.ownBlock] using this)
  have x1 := y1.set_ k x
  have x2 := y2.1.grown x1.2 (by right; simpa [Value.ownBlock] using hgh')
  have v2 := x2.set_ (k + 1) b
  have v1 := x1.1.grown v2.2 (by right; simpa [Value.ownBlock] using hgh)
  have Y1 := Lib.hid v1
  have Y2 := Lib.hid v2.1
  have hki : (k : Int) < (m : Int) := by omega
  have hki2 : (k : Int) + 1 < (m : Int) := by omega
  have hki3 : (k : Int) < (n : Int) := by omega
  have hk0 : (0 : Int) ≤ (k : Int) := by omega
  have hk1 : (0 : Int) ≤ (k : Int) + 1 := by omega
  have hwr : IntKind.i64.wrap ((k : Int) + 1) = (k : Int) + 1 := IntWalk.i64_in _ (by omega)
  have hb3 := hb00.trans (b3.mono hb00.size)
  have hbz := hb00.size
  clear d1 z4 q1 q2 y1 y2 x1 x2 v1 v2 dx1 zx4 db1 zb4
  have HX : Hid (∃ X : World, (((w3.setCell ⟨g, k, none⟩ (.int .i64 a)).setCell ⟨h, k, none⟩ (.int .i64 x)).setCell ⟨g, k + 1, none⟩ (.int .i64 b)).drew = X ∧ Row 2 W0.heap.size X (.slice (some ⟨h, 0, none⟩) n f1) (ks.set k x) ∧ Row 35 W0.heap.size X (.slice (some ⟨g, 0, none⟩) m f2) ((ws.set k a).set (k + 1) b) ∧ Below w.heap.size w X ∧
      X.cell? ⟨O, 0, none⟩ = some (.slice (some ⟨h, 0, none⟩) n f1) ∧ X.cell? ⟨O, 1, none⟩ = some (.slice (some ⟨g, 0, none⟩) m f2) ∧ X.cell? ⟨R, 0, none⟩ = some (.slice none 0 0) ∧ X.cell? ⟨R, 1, none⟩ = some (.slice none 0 0) ∧ X.frozen? ⟨R, 0, none⟩ = false ∧ X.frozen? ⟨R, 1, none⟩ = false) :=
    ⟨_, rfl, Y1.out.drew, Y2.out.drew, (((hb3.setCell (p := ⟨g, k, none⟩) (by show w.heap.size ≤ g; omega) _).setCell (p := ⟨h, k, none⟩) (by show w.heap.size ≤ h; omega) _).setCell (p := ⟨g, k + 1, none⟩) (by show w.heap.size ≤ g; omega) _).drew,
      (((World.cell?_setCell_other _ ⟨g, k + 1, none⟩ ⟨O, 0, none⟩ (.int .i64 b) (by simp <;> omega)).trans ((World.cell?_setCell_other _ ⟨h, k, none⟩ ⟨O, 0, none⟩ (.int .i64 x) (by simp <;> omega)).trans (World.cell?_setCell_other _ ⟨g, k, none⟩ ⟨O, 0, none⟩ (.int .i64 a) (by simp <;> omega)))).trans i0), (((World.cell?_setCell_other _ ⟨g, k + 1, none⟩ ⟨O, 1, none⟩ (.int .i64 b) (by simp <;> omega)).trans ((World.cell?_setCell_other _ ⟨h, k, none⟩ ⟨O, 1, none⟩ (.int .i64 x) (by simp <;> omega)).trans (World.cell?_setCell_other _ ⟨g, k, none⟩ ⟨O, 1, none⟩ (.int .i64 a) (by simp <;> omega)))).trans i1), (((World.cell?_setCell_other _ ⟨g, k + 1, none⟩ ⟨R, 0, none⟩ (.int .i64 b) (by simp <;> omega)).trans ((World.cell?_setCell_other _ ⟨h, k, none⟩ ⟨R, 0, none⟩ (.int .i64 x) (by simp <;> omega)).trans (World.cell?_setCell_other _ ⟨g, k, none⟩ ⟨R, 0, none⟩ (.int .i64 a) (by simp <;> omega)))).trans t0), (((World.cell?_setCell_other _ ⟨g, k + 1, none⟩ ⟨R, 1, none⟩ (.int .i64 b) (by simp <;> omega)).trans ((World.cell?_setCell_other _ ⟨h, k, none⟩ ⟨R, 1, none⟩ (.int .i64 x) (by simp <;> omega)).trans (World.cell?_setCell_other _ ⟨g, k, none⟩ ⟨R, 1, none⟩ (.int .i64 a) (by simp <;> omega)))).trans t1), by simpa using u0, by simpa using u1⟩
  go_wp2
  go_region_held3 (fun w' => w'.cell? ⟨O, 0, none⟩ = some (.slice (some ⟨h, 0, none⟩) n f1) ∧ w'.cell? ⟨O, 1, none⟩ = some (.slice (some ⟨g, 0, none⟩) m f2)) (go_keep) (fail)
  obtain ⟨X, hX, y1, y2, bx, o0, o1, e0, e1, f0, f3⟩ := HX.out
  rw [hX]
  clear hX HX Y1 Y2 i0 i1 t0 t1 u0 u1 d3 z5 dx3 zx5 db3 zb5
  go_wp2
  refine bodyPost_ret (results_stored rfl rfl e0 e1) rfl ?_
  exact madeI_end1 y1 y2 hb00 hs00 (by omega) bx
end Go.Proofs.Ytpbbkfpapmomhaa
