/-
  What inner's Halves returns.
-/
import Derived.Test.YtpbbkfpapmomhaaHalf
import Derived.Test.YtpbbkfpapmomhaaInner3
namespace Go.Proofs.Ytpbbkfpapmomhaa
open Go.ChangeShapes Go.WideShapes Go.ChangeAt Go.RowKit
set_option linter.unusedVariables false
set_option linter.unusedSimpArgs false

/-- What Halves gives: two Inners, a key. -/
def MadeH (w : World) (ks ws ks' ws' : List Int) (x : Int) (e : Ending) (w' : World) : Prop :=
  ∃ u v u' v', e = .returned (.tuple #[.agg #[u, v], .agg #[u', v'], .int .i64 x]) ∧ Row 2 w.heap.size w' u ks ∧ Row 35 w.heap.size w' v ws ∧ Row 2 w.heap.size w' u' ks' ∧ Row 35 w.heap.size w' v' ws' ∧ Below w.heap.size w w'

theorem results_halves {fn : Func} {t s q : Tmp} {R R' : Nat} {x y x' y' z : Value} {tmps : Array Value} {w : World} (h : fn.results = #[.cell t 26, .cell s 26, .tmp q]) (ht : tmps.getD t undef = .pointer (some ⟨R, 0, none⟩)) (hs : tmps.getD s undef = .pointer (some ⟨R', 0, none⟩)) (hq : tmps.getD q undef = z)
    (e0 : w.cell? ⟨R, 0, none⟩ = some x) (e1 : w.cell? ⟨R, 1, none⟩ = some y) (e2 : w.cell? ⟨R', 0, none⟩ = some x') (e3 : w.cell? ⟨R', 1, none⟩ = some y') : (results fn tmps).run Try.prog w = .ok (.tuple #[.agg #[x, y], .agg #[x', y'], z]) w := by
  have i1 := load_inn e0 e1
  have i2 := load_inn e2 e3
  have ht' : tmps[t]?.getD undef = .pointer (some ⟨R, 0, none⟩) := by simpa using ht
  have hs' : tmps[s]?.getD undef = .pointer (some ⟨R', 0, none⟩) := by simpa using hs
  have hq' : tmps[q]?.getD undef = z := by simpa using hq
  simp [results, h, ht', hs', hq', asAddr, i1, i2]

/-- The world behind a box and two variables. -/
theorem boxedH (w : World) (x y : Value) : ∃ (W : World) (R R' : Nat), ((w.alloc (.cells #[x, y] 26)).alloc (.cells #[.slice none 0 0, .slice none 0 0] 26)).alloc (.cells #[.slice none 0 0, .slice none 0 0] 26) = W ∧ w.heap.size + 1 = R ∧ w.heap.size + 1 + 1 = R' ∧ Below w.heap.size w W ∧ R < W.heap.size ∧ R' < W.heap.size ∧
    Box W w.heap.size x y ∧ Var W R ∧ Var W R' ∧ w.heap.size < R ∧ w.heap.size < R' ∧ R ≠ R' ∧ R' ≠ R ∧ w.heap.size ≠ R ∧ R ≠ w.heap.size ∧ w.heap.size ≠ R' ∧ R' ≠ w.heap.size :=
  ⟨_, _, _, rfl, rfl, rfl, (((Below.refl _ w).alloc (Nat.le_refl _) _).alloc (by simp) _).alloc (by simp; omega) _, by simp, by simp, ((Box.new w rfl x y _).below (below_new _ _)).below (below_new _ _), (Var.new _ (by simp) _).below (below_new _ _), Var.new _ (by simp) _, by omega, by omega, by omega, by omega, by omega, by omega, by omega, by omega⟩

/-- Cells of another block are as they were behind a store. -/
theorem c_far {w : World} {b b' o o' : Nat} {u v : Value} (h : w.cell? ⟨b, o, none⟩ = some v) (hne : b' ≠ b) : (w.setCell ⟨b', o', none⟩ u).cell? ⟨b, o, none⟩ = some v :=
  (World.cell?_setCell_other w ⟨b', o', none⟩ ⟨b, o, none⟩ u (by intro e; injection e with e; exact hne e)).trans h
theorem c_off {w : World} {b o o' : Nat} {u v : Value} (h : w.cell? ⟨b, o, none⟩ = some v) (hne : o' ≠ o) : (w.setCell ⟨b, o', none⟩ u).cell? ⟨b, o, none⟩ = some v :=
  (World.cell?_setCell_other w ⟨b, o', none⟩ ⟨b, o, none⟩ u (by intro e; injection e with _ e; exact hne e)).trans h
theorem c_put {w : World} {b o : Nat} {u v : Value} (h : w.cell? ⟨b, o, none⟩ = some v) : (w.setCell ⟨b, o, none⟩ u).cell? ⟨b, o, none⟩ = some u := World.cell?_setCell_same w _ _ h

theorem c_drew {w : World} {p : Addr} {v : Value} (h : w.cell? p = some v) : w.drew.cell? p = some v := h

set_option maxHeartbeats 1000000 in
theorem halves_out (A B : Option Addr) (n c m d : Nat) (ks ws : List Int) (w : World) (hk : Sl w A n c ks) (hw : Sl w B m d ws) (hn : n ≤ 200) (hm : m ≤ 200) (hno : (fitsB n m && decide (2 ≤ m)) = false) :
    Calls Try.prog 26 #[inn A n c B m d] w (MadeH w ks ws [] [] 0) := by
  go_enter Try.func26, Try.ntmps26
  go_wp2_with fail
  obtain ⟨W0, R, R', hW, hR, hR', hb00, hs00, hs01, HN0, HV0, HV1, hR0, hR1, l1, l2, l3, l4, l5, l6⟩ := boxedH w (.slice A n c) (.slice B m d)
  rw [hW, hR', hR]
  clear hW hR hR'
  refine (fits_walk A B n c m d W0 (by omega) (by omega)).mono ?_
  rintro e w1 ⟨rfl, p1⟩
  obtain ⟨j0, j1⟩ := HN0.below p1
  have hb1 := hb00.trans (p1.mono hb00.size)
  cases hf : fitsB n m with
  | false =>
    clear hf hno
    go_wp2_with fail
    refine (same_walk A B n c m d ks ws w1 (hk.below hb1) (hw.below hb1) (by omega) (by omega)).mono ?_
    rintro e w2 ⟨u, v, rfl, g1, g2, p2⟩
    obtain ⟨F1, N1, f1, rfl⟩ := g1.shape
    obtain ⟨F2, N2, f2, rfl⟩ := g2.shape
    have p3 := p1.trans (p2.mono p1.size)
    obtain ⟨t0, t1, u0, u1⟩ := HV0.below p3
    obtain ⟨t2, t3, u2, u3⟩ := HV1.below p3
    have hb2 := hb00.trans (p3.mono hb00.size)
    have hz1 : R < w1.heap.size := Nat.lt_of_lt_of_le hs00 p1.size
    have hz2 : R' < w1.heap.size := Nat.lt_of_lt_of_le hs01 p1.size
    clear j0 j1
    go_wp2
    refine bodyPost_ret (results_halves rfl rfl rfl rfl (c_far (c_far (c_off (c_put t0) (by omega)) l2) l2) (c_far (c_far (c_put (c_off t1 (by omega))) l2) l2) (c_off (c_put (c_far (c_far t2 l1) l1)) (by omega)) (c_put (c_off (c_far (c_far t3 l1) l1) (by omega)))) rfl ?_
    exact ⟨_, _, _, _, rfl, ((((g1.set_below hz1 _).set_below hz1 _).set_below hz2 _).set_below hz2 _).lower hb1.size, ((((g2.set_below hz1 _).set_below hz1 _).set_below hz2 _).set_below hz2 _).lower hb1.size, Row.nil _ _ _, Row.nil _ _ _, (((hb2.setCell (p := ⟨R, 0, none⟩) (by show w.heap.size ≤ R; omega) _).setCell (p := ⟨R, 1, none⟩) (by show w.heap.size ≤ R; omega) _).setCell (p := ⟨R', 0, none⟩) (by show w.heap.size ≤ R'; omega) _).setCell (p := ⟨R', 1, none⟩) (by show w.heap.size ≤ R'; omega) _⟩
  | true =>
    rw [hf, Bool.true_and] at hno
    have hm2 : (m : Int) < 2 := by simp at hno; omega
    clear hf hno
    go_wp2_with fail
    refine (same_walk A B n c m d ks ws w1 (hk.below hb1) (hw.below hb1) (by omega) (by omega)).mono ?_
    rintro e w2 ⟨u, v, rfl, g1, g2, p2⟩
    obtain ⟨F1, N1, f1, rfl⟩ := g1.shape
    obtain ⟨F2, N2, f2, rfl⟩ := g2.shape
    have p3 := p1.trans (p2.mono p1.size)
    obtain ⟨t0, t1, u0, u1⟩ := HV0.below p3
    obtain ⟨t2, t3, u2, u3⟩ := HV1.below p3
    have hb2 := hb00.trans (p3.mono hb00.size)
    have hz1 : R < w1.heap.size := Nat.lt_of_lt_of_le hs00 p1.size
    have hz2 : R' < w1.heap.size := Nat.lt_of_lt_of_le hs01 p1.size
    clear j0 j1
    go_wp2
    refine bodyPost_ret (results_halves rfl rfl rfl rfl (c_far (c_far (c_off (c_put t0) (by omega)) l2) l2) (c_far (c_far (c_put (c_off t1 (by omega))) l2) l2) (c_off (c_put (c_far (c_far t2 l1) l1)) (by omega)) (c_put (c_off (c_far (c_far t3 l1) l1) (by omega)))) rfl ?_
    exact ⟨_, _, _, _, rfl, ((((g1.set_below hz1 _).set_below hz1 _).set_below hz2 _).set_below hz2 _).lower hb1.size, ((((g2.set_below hz1 _).set_below hz1 _).set_below hz2 _).set_below hz2 _).lower hb1.size, Row.nil _ _ _, Row.nil _ _ _, (((hb2.setCell (p := ⟨R, 0, none⟩) (by show w.heap.size ≤ R; omega) _).setCell (p := ⟨R, 1, none⟩) (by show w.heap.size ≤ R; omega) _).setCell (p := ⟨R', 0, none⟩) (by show w.heap.size ≤ R'; omega) _).setCell (p := ⟨R', 1, none⟩) (by show w.heap.size ≤ R'; omega) _⟩

/-- The world behind two variables more. -/
theorem two_vars (w : World) : ∃ (V : World) (P Q : Nat), (w.alloc (.cells #[.slice none 0 0, .slice none 0 0] 26)).alloc (.cells #[.slice none 0 0, .slice none 0 0] 26) = V ∧ w.heap.size = P ∧ w.heap.size + 1 = Q ∧ Below w.heap.size w V ∧ Var V P ∧ Var V Q ∧ P < V.heap.size ∧ Q < V.heap.size ∧ w.heap.size ≤ P ∧ w.heap.size ≤ Q ∧ P ≠ Q ∧ Q ≠ P :=
  ⟨_, _, _, rfl, rfl, rfl, ((Below.refl _ w).alloc (Nat.le_refl _) _).alloc (by simp) _, (Var.new w rfl _).below (below_new _ _), Var.new _ (by simp) _, by simp; omega, by simp, by omega, by omega, by omega, by omega⟩

set_option maxHeartbeats 2000000 in
theorem halves_in (A B : Option Addr) (n c m d : Nat) (ks ws : List Int) (w : World) (hk : Sl w A n c ks) (hw : Sl w B m d ws) (hn : n ≤ 200) (hm : m ≤ 200) (hf : fitsB n m = true) (hm2 : 2 ≤ m) :
    Calls Try.prog 26 #[inn A n c B m d] w (MadeH w (ks.take (m / 2 - 1)) (ws.take (m / 2)) (ks.drop (m / 2)) (ws.drop (m / 2)) (ks.getD (m / 2 - 1) 0)) := by
  have hnm : n + 1 = m := by simp [fitsB] at hf; omega
  have HA := Lib.hid hf
  have hq : Hid ((m : Int) / 2 = ((m / 2 : Nat) : Int)) := by show _ = _; omega
  have h1 : 1 ≤ m / 2 := by omega
  have h2 : m / 2 ≤ n := by omega
  have h2' : m / 2 ≤ m := by omega
  have hm3 : ¬ ((m : Int) < 2) := by omega
  clear hf hnm
  go_enter Try.func26, Try.ntmps26
  go_wp2_with fail
  obtain ⟨W0, R, R', hW, hR, hR', hb00, hs00, hs01, HN0, HV0, HV1, hR0, hR1, l1, l2, l3, l4, l5, l6⟩ := boxedH w (.slice A n c) (.slice B m d)
  rw [hW, hR', hR]
  clear hW hR hR'
  refine (fits_walk A B n c m d W0 (by omega) (by omega)).mono ?_
  rintro e w1 ⟨rfl, p1⟩
  rw [HA.out]
  obtain ⟨j0, j1⟩ := HN0.below p1
  have s1 : w.heap.size < w1.heap.size := Nat.lt_of_lt_of_le (by omega) p1.size
  go_wp2_with fail
  rw [hq.out]
  generalize m / 2 = hh at *
  clear hq
  obtain ⟨V, P, Q, hW, hP, hQ, bV, VP, VQ, a1, a2, a3, a4, a5, a6⟩ := two_vars w1
  rw [hW, hQ, hP]
  clear hW hP hQ j0 j1
  have hb1 := hb00.trans (p1.mono hb00.size)
  have bV0 := p1.trans (bV.mono p1.size)
  have hbV := hb00.trans (bV0.mono hb00.size)
  have n1 : R < w1.heap.size := Nat.lt_of_lt_of_le hs00 p1.size
  have n2 : R' < w1.heap.size := Nat.lt_of_lt_of_le hs01 p1.size
  refine (halvesR_walk B m d hh hh ws V (hw.below hbV) hm h2' h2').mono ?_
  rintro e w2 ⟨u1, u2, rfl, g1, g2, p2⟩
  obtain ⟨F1, N1, f1, rfl⟩ := g1.shape
  obtain ⟨F2, N2, f2, rfl⟩ := g2.shape
  have b2 := bV0.trans (p2.mono bV0.size)
  obtain ⟨j0, j1⟩ := HN0.below b2
  obtain ⟨t0, t1, u0, u1⟩ := VP.below p2
  obtain ⟨t2, t3, u2, u3⟩ := VQ.below p2
  have m1 : P ≠ w.heap.size := by omega
  have m2 : Q ≠ w.heap.size := by omega
  have m3 : w.heap.size ≠ P := by omega
  have m4 : w.heap.size ≠ Q := by omega
  have hwr : wrap64 ((hh : Int) - 1) = (hh : Int) - 1 := IntWalk.wrap64_in _ (by omega)
  go_wp2_with fail
  rw [show (hh : Int) - 1 = ((hh - 1 : Nat) : Int) from by omega]
  clear hwr
  obtain ⟨X, hX, a7, bX, x0, x1, x2, x3, y0, y2, r1, r2⟩ : ∃ X : World, (w2.setCell ⟨P, 1, none⟩ (.slice F1 N1 f1)).setCell ⟨Q, 1, none⟩ (.slice F2 N2 f2) = X ∧ V.heap.size ≤ X.heap.size ∧ Below w1.heap.size w1 X ∧
      X.cell? ⟨P, 0, none⟩ = some (.slice none 0 0) ∧ X.cell? ⟨P, 1, none⟩ = some (.slice F1 N1 f1) ∧ X.cell? ⟨Q, 0, none⟩ = some (.slice none 0 0) ∧ X.cell? ⟨Q, 1, none⟩ = some (.slice F2 N2 f2) ∧ X.frozen? ⟨P, 0, none⟩ = false ∧ X.frozen? ⟨Q, 0, none⟩ = false ∧
      Row 35 V.heap.size X (.slice F1 N1 f1) (ws.take hh) ∧ Row 35 V.heap.size X (.slice F2 N2 f2) (ws.drop hh) :=
    ⟨_, rfl, (by simp; exact p2.size), ((bV.trans (p2.mono bV.size)).setCell (p := ⟨P, 1, none⟩) a3 _).setCell (p := ⟨Q, 1, none⟩) a4 _, c_far (c_off t0 (by omega)) a6, c_far (c_put t1) a6, c_off (c_far t2 a5) (by omega), c_put (c_far t3 a5), by simpa using u0, by simpa using u2,
      (g1.set_below a1 _).set_below a2 _, (g2.set_below a1 _).set_below a2 _⟩
  rw [hX]
  clear hX t0 t1 u0 u1 t2 t3 u2 u3 j0 j1 g1 g2 p2 b2
  have bX0 := p1.trans (bX.mono p1.size)
  have hbX := hb00.trans (bX0.mono hb00.size)
  refine (halvesK_walk A n c (hh - 1) hh ks X (hk.below hbX) hn (by omega) h2).mono ?_
  rintro e w3 ⟨v1, v2, rfl, g1, g2, p3⟩
  obtain ⟨E1, M1, e1, rfl⟩ := g1.shape
  obtain ⟨E2, M2, e2, rfl⟩ := g2.shape
  have b3 := bX0.trans (p3.mono bX0.size)
  have z1 := (p3.cell (p := ⟨P, 0, none⟩) (Nat.lt_of_lt_of_le a1 a7)).trans x0
  have z2 := (p3.cell (p := ⟨P, 1, none⟩) (Nat.lt_of_lt_of_le a1 a7)).trans x1
  have z3 := (p3.cell (p := ⟨Q, 0, none⟩) (Nat.lt_of_lt_of_le a2 a7)).trans x2
  have z4 := (p3.cell (p := ⟨Q, 1, none⟩) (Nat.lt_of_lt_of_le a2 a7)).trans x3
  have z5 := (p3.frozen (p := ⟨P, 0, none⟩) (Nat.lt_of_lt_of_le a1 a7)).trans y0
  have z6 := (p3.frozen (p := ⟨Q, 0, none⟩) (Nat.lt_of_lt_of_le a2 a7)).trans y2
  have r3 := r1.next p3
  have r4 := r2.next p3
  clear x0 x1 x2 x3 y0 y2 r1 r2
  go_wp2
  have hbk := World.block_lt_of_cell? W0 _ HN0.1
  obtain ⟨Y, hY, bY, c0, c1, c2, c3, q1, q2, q3, q4⟩ : ∃ Y : World, (w3.setCell ⟨P, 0, none⟩ (.slice E1 M1 e1)).setCell ⟨Q, 0, none⟩ (.slice E2 M2 e2) = Y ∧ Below W0.heap.size W0 Y ∧
      Y.cell? ⟨P, 0, none⟩ = some (.slice E1 M1 e1) ∧ Y.cell? ⟨P, 1, none⟩ = some (.slice F1 N1 f1) ∧ Y.cell? ⟨Q, 0, none⟩ = some (.slice E2 M2 e2) ∧ Y.cell? ⟨Q, 1, none⟩ = some (.slice F2 N2 f2) ∧
      Row 2 V.heap.size Y (.slice E1 M1 e1) (ks.take (hh - 1)) ∧ Row 2 V.heap.size Y (.slice E2 M2 e2) (ks.drop hh) ∧ Row 35 V.heap.size Y (.slice F1 N1 f1) (ws.take hh) ∧ Row 35 V.heap.size Y (.slice F2 N2 f2) (ws.drop hh) :=
    ⟨_, rfl, (b3.setCell (p := ⟨P, 0, none⟩) (Nat.le_trans p1.size a3) _).setCell (p := ⟨Q, 0, none⟩) (Nat.le_trans p1.size a4) _, c_far (c_put z1) a6, c_far (c_off z2 (by omega)) a6, c_put (c_far z3 a5), c_off (c_far z4 a5) (by omega),
      ((g1.lower a7).set_below a1 _).set_below a2 _, ((g2.lower a7).set_below a1 _).set_below a2 _, (r3.set_below a1 _).set_below a2 _, (r4.set_below a1 _).set_below a2 _⟩
  rw [hY]
  clear hY z1 z2 z3 z4 z5 z6 r3 r4 g1 g2 p3 b3
  obtain ⟨j0, j1⟩ := HN0.below bY
  obtain ⟨t0, t1, u0, u1⟩ := HV0.below bY
  obtain ⟨t2, t3, u2, u3⟩ := HV1.below bY
  have hbY := hb00.trans (bY.mono hb00.size)
  obtain ⟨b, off, rfl, hbl, d0⟩ := hk.at0 (k := hh - 1) (by omega)
  have d1 := (hbY.cell (p := ⟨b, off + (hh - 1), none⟩) hbl).trans d0
  have hjj : (hh : Int) - 1 = ((hh - 1 : Nat) : Int) := by omega
  have hwr : IntKind.i64.wrap (((hh - 1 : Nat)) : Int) = ((hh - 1 : Nat) : Int) := IntWalk.i64_in _ (by omega)
  have i1 : (0 : Int) ≤ ((hh - 1 : Nat) : Int) := by omega
  have i0 : ((hh - 1 : Nat) : Int) < (n : Int) := by omega
  have v1 : b ≠ R := by omega
  have v2 : b ≠ R' := by omega
  have v3 : R ≠ b := by omega
  have v4 : R' ≠ b := by omega
  have v5 : R ≠ P := by omega
  have v6 : R ≠ Q := by omega
  have v7 : R' ≠ P := by omega
  have v8 : R' ≠ Q := by omega
  have v9 : P ≠ R := by omega
  have v10 : Q ≠ R := by omega
  have v11 : P ≠ R' := by omega
  have v12 : Q ≠ R' := by omega
  have HK : Hid (ks.getD (hh - 1) 0 = ks.getD (hh - 1) 0) := rfl
  generalize hkey : ks.getD (hh - 1) 0 = key at *
  generalize hh - 1 = jj at *
  clear hkey HK d0
  go_region_held3 (fun w' => w'.cell? ⟨P, 0, none⟩ = some (.slice E1 M1 e1) ∧ w'.cell? ⟨P, 1, none⟩ = some (.slice F1 N1 f1) ∧ w'.cell? ⟨Q, 0, none⟩ = some (.slice E2 M2 e2) ∧ w'.cell? ⟨Q, 1, none⟩ = some (.slice F2 N2 f2) ∧ w'.cell? ⟨w.heap.size, 0, none⟩ = some (.slice (some ⟨b, off, none⟩) n c) ∧ w'.cell? ⟨b, off + jj, none⟩ = some (.int .i64 key)) (go_keep) (fail)
  have hz1 : R < V.heap.size := by omega
  have hz2 : R' < V.heap.size := by omega
  go_wp2
  refine bodyPost_ret (results_halves rfl rfl rfl rfl (c_drew (c_far (c_far (c_off (c_put t0) (by omega)) l2) l2)) (c_drew (c_far (c_far (c_put (c_off t1 (by omega))) l2) l2)) (c_drew (c_off (c_put (c_far (c_far t2 l1) l1)) (by omega))) (c_drew (c_put (c_off (c_far (c_far t3 l1) l1) (by omega))))) rfl ?_
  exact ⟨_, _, _, _, rfl, (((((q1.set_below hz1 _).set_below hz1 _).set_below hz2 _).set_below hz2 _).drew).lower hbV.size, (((((q3.set_below hz1 _).set_below hz1 _).set_below hz2 _).set_below hz2 _).drew).lower hbV.size, (((((q2.set_below hz1 _).set_below hz1 _).set_below hz2 _).set_below hz2 _).drew).lower hbV.size, (((((q4.set_below hz1 _).set_below hz1 _).set_below hz2 _).set_below hz2 _).drew).lower hbV.size, ((((hbY.setCell (p := ⟨R, 0, none⟩) (by show w.heap.size ≤ R; omega) _).setCell (p := ⟨R, 1, none⟩) (by show w.heap.size ≤ R; omega) _).setCell (p := ⟨R', 0, none⟩) (by show w.heap.size ≤ R'; omega) _).setCell (p := ⟨R', 1, none⟩) (by show w.heap.size ≤ R'; omega) _).drew⟩
end Go.Proofs.Ytpbbkfpapmomhaa
