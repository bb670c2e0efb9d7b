/-
  The law's own 'parted': a right one of some keys, one with a single way instead of some of its ways, and those ways.
-/
import Derived.Test.YtpbbkfpapmomhaaLawsA
namespace Go.Proofs.Ytpbbkfpapmomhaa
open Go.ChangeShapes Go.WideShapes Go.ChangeAt Go.RowKit
set_option linter.unusedVariables false
set_option linter.unusedSimpArgs false

theorem boxedP (w : World) : ∃ (W : World) (R S T : Nat), ((w.alloc (.cells #[.slice none 0 0, .slice none 0 0] 26)).alloc (.cells #[.slice none 0 0, .slice none 0 0] 26)).alloc (.cells #[.slice none 0 0, .slice none 0 0] 26) = W ∧ w.heap.size = R ∧ w.heap.size + 1 = S ∧ w.heap.size + 1 + 1 = T ∧ Below w.heap.size w W ∧ Var W R ∧ Var W S ∧ Var W T ∧ w.heap.size ≤ R ∧ w.heap.size ≤ S ∧ w.heap.size ≤ T ∧ R < W.heap.size ∧ S < W.heap.size ∧ T < W.heap.size ∧ R ≠ S ∧ R ≠ T ∧ S ≠ R ∧ S ≠ T ∧ T ≠ R ∧ T ≠ S :=
  ⟨_, _, _, _, rfl, rfl, rfl, rfl, (((Below.refl _ w).alloc (Nat.le_refl _) _).alloc (by simp) _).alloc (by simp; omega) _, ((Var.new w rfl _).below (below_new _ _)).below (below_new _ _), (Var.new _ (by simp) _).below (below_new _ _), Var.new _ (by simp) _, by omega, by omega, by omega, by simp <;> omega, by simp <;> omega, by simp, by omega, by omega, by omega, by omega, by omega, by omega⟩

theorem Var.far {w : World} {b b' o : Nat} {u : Value} (h : Var w b) (hne : b' ≠ b) : Var (w.setCell ⟨b', o, none⟩ u) b :=
  ⟨c_far h.1 hne, c_far h.2.1 hne, by simpa using h.2.2.1, by simpa using h.2.2.2⟩

/-- What 'parted' gives: all, one with a single way instead of some, those ways, where. -/
def PartedPost (w : World) (ks : List Int) (e : Ending) (w' : World) : Prop :=
  ∃ (at_ t : Nat) (u1 v1 u2 v2 u3 v3 : Value), at_ < t ∧ t ≤ ks.length + 1 ∧ e = .returned (.tuple #[.agg #[u1, v1], .agg #[u2, v2], .agg #[u3, v3], .int .i64 (at_ : Int)]) ∧
    Row 2 w.heap.size w' u1 ks ∧ Row 35 w.heap.size w' v1 (waysTo 1 ks.length) ∧
    Row 2 w.heap.size w' u2 (ks.take at_ ++ ([] ++ ks.drop (t - 1))) ∧ Row 35 w.heap.size w' v2 ((waysTo 1 ks.length).take at_ ++ ([-5] ++ (waysTo 1 ks.length).drop t)) ∧
    Row 2 w.heap.size w' u3 ((ks.drop at_).take (t - 1 - at_)) ∧ Row 35 w.heap.size w' v3 (((waysTo 1 ks.length).drop at_).take (t - at_)) ∧ Below w.heap.size w w'

theorem results_parted {fn : Func} {t s r q : Tmp} {R R' R'' : Nat} {x y x' y' x'' y'' z : Value} {tmps : Array Value} {w : World} (h : fn.results = #[.cell t 26, .cell s 26, .cell r 26, .tmp q]) (ht : tmps.getD t undef = .pointer (some ⟨R, 0, none⟩)) (hs : tmps.getD s undef = .pointer (some ⟨R', 0, none⟩)) (hr : tmps.getD r undef = .pointer (some ⟨R'', 0, none⟩)) (hq : tmps.getD q undef = z)
    (e0 : w.cell? ⟨R, 0, none⟩ = some x) (e1 : w.cell? ⟨R, 1, none⟩ = some y) (e2 : w.cell? ⟨R', 0, none⟩ = some x') (e3 : w.cell? ⟨R', 1, none⟩ = some y') (e4 : w.cell? ⟨R'', 0, none⟩ = some x'') (e5 : w.cell? ⟨R'', 1, none⟩ = some y'') : (results fn tmps).run Try.prog w = .ok (.tuple #[.agg #[x, y], .agg #[x', y'], .agg #[x'', y''], z]) w := by
  have i1 := load_inn e0 e1
  have i2 := load_inn e2 e3
  have i3 := load_inn e4 e5
  have ht' : tmps[t]?.getD undef = .pointer (some ⟨R, 0, none⟩) := by simpa using ht
  have hs' : tmps[s]?.getD undef = .pointer (some ⟨R', 0, none⟩) := by simpa using hs
  have hr' : tmps[r]?.getD undef = .pointer (some ⟨R'', 0, none⟩) := by simpa using hr
  have hq' : tmps[q]?.getD undef = z := by simpa using hq
  simp [results, h, ht', hs', hr', hq', asAddr, i1, i2, i3]

set_option maxHeartbeats 4000000 in
theorem parted_walk (A : Option Addr) (n c : Nat) (zs ks : List Int) (p q : Nat) (w : World) (h : Sl w A n c zs) (hn : n ≤ 40) (hp : p < 256) (hq : q < 256) (hks : (risingL zs).map (·.1) = ks) :
    Calls Try.prog 32 #[.slice A n c, .int .u8 (p : Int), .int .u8 (q : Int)] w (PartedPost w ks) := by
  have hlr : (risingL zs).length ≤ 40 := by unfold risingL; have := risingTo_length zs zs.length; have := h.len; omega
  go_enter Try.func32, Try.ntmps32
  go_wp2_with fail
  obtain ⟨W, R, S, T, hW, hR, hS, hT, bW, V1, V2, V3, a1, a2, a3, a4, a5, a6, l1, l2, l3, l4, l5, l6⟩ := boxedP w
  rw [hW, hT, hS, hR]
  clear hW hS hT hR
  refine (of_walk A n c zs 1 W (h.below bW) (by omega) (by omega) (by omega)).mono ?_
  rintro e w1 ⟨u, v, rfl, g1, g2, p1⟩
  obtain ⟨F1, N1, f1, rfl⟩ := g1.shape
  obtain ⟨F2, N2, f2, rfl⟩ := g2.shape
  have hlk : ((risingL zs).map (·.1)).length = (risingL zs).length := List.length_map _
  rw [← hlk] at g2 hlr
  clear hlk h
  rw [hks] at g1 g2 hlr
  clear hks
  have hN1 : N1 = ks.length := g1.sl.len
  have hN2 : N2 = ks.length + 1 := g2.sl.len.trans (waysTo_length 1 ks.length)
  have HN1 := Lib.hid hN1
  have HN2 := Lib.hid hN2
  have b1 : N1 ≤ 40 := by omega
  have b2 : N2 ≤ 41 := by omega
  have b3 : 0 < N2 := by omega
  clear hN1 hN2
  obtain ⟨t0, t1, t2, t3⟩ := V1.below p1
  have hnz : ((N2 : Int) == 0) = false := by rw [beq_eq_false_iff_ne]; omega
  have hat0 : p % N2 < N2 := Nat.mod_lt _ b3
  have hat : (p : Int) % (N2 : Int) = ((p % N2 : Nat) : Int) := by omega
  generalize hatt : p % N2 = at_ at *
  have HAT := Lib.hid hatt
  clear hatt
  have hr0 : q % (N2 - at_) < N2 - at_ := Nat.mod_lt _ (by omega)
  have hr : (q : Int) % ((N2 : Int) - (at_ : Int)) = ((q % (N2 - at_) : Nat) : Int) := by rw [show (N2 : Int) - (at_ : Int) = ((N2 - at_ : Nat) : Int) from by omega]; omega
  generalize hrr : q % (N2 - at_) = r at *
  have HRR := Lib.hid hrr
  clear hrr
  have hnz2 : ((N2 : Int) - (at_ : Int) == 0) = false := by rw [beq_eq_false_iff_ne]; omega
  go_wp2_with fail
  rw [show (at_ : Int) + 1 + (r : Int) = ((at_ + 1 + r : Nat) : Int) from by omega]
  have ht0 : at_ < at_ + 1 + r := by omega
  have ht1 : at_ + 1 + r ≤ N2 := by omega
  generalize at_ + 1 + r = t at *
  clear hr hnz hnz2 hr0 hat0
  rw [hat]
  obtain ⟨X, hX, bX, c0, c1, z0, z1, V2X, V3X, g3, g4⟩ : ∃ X : World, (w1.setCell ⟨R, 0, none⟩ (.slice F1 N1 f1)).setCell ⟨R, 1, none⟩ (.slice F2 N2 f2) = X ∧ Below w.heap.size w X ∧ X.cell? ⟨R, 0, none⟩ = some (.slice F1 N1 f1) ∧ X.cell? ⟨R, 1, none⟩ = some (.slice F2 N2 f2) ∧ X.frozen? ⟨R, 0, none⟩ = false ∧ X.frozen? ⟨R, 1, none⟩ = false ∧ Var X S ∧ Var X T ∧ Row 2 W.heap.size X (.slice F1 N1 f1) ks ∧ Row 35 W.heap.size X (.slice F2 N2 f2) (waysTo 1 ks.length) :=
    ⟨_, rfl, ((bW.trans (p1.mono bW.size)).setCell (p := ⟨R, 0, none⟩) a1 _).setCell (p := ⟨R, 1, none⟩) a1 _, c_off (c_put t0) (by omega), c_put (c_off t1 (by omega)), by simpa using t2, by simpa using t3, Var.far (Var.far (V2.below p1) l1) l1, Var.far (Var.far (V3.below p1) l2) l2, (g1.set_below a4 _).set_below a4 _, (g2.set_below a4 _).set_below a4 _⟩
  have hsz : W.heap.size ≤ X.heap.size := by rw [← hX]; simp; exact p1.size
  rw [hX]
  clear hX g1 g2 t0 t1 t2 t3
  refine (cut_walk F1 F2 N1 f1 N2 f2 ks (waysTo 1 ks.length) at_ t X g3.sl g4.sl (by rw [HN1.out, HN2.out]) (by omega) (by omega) (by omega)).mono ?_
  rintro e w2 ⟨u, v, rfl, g5, g6, p2⟩
  obtain ⟨E1, L1, e1, rfl⟩ := g5.shape
  obtain ⟨E2, L2, e2, rfl⟩ := g6.shape
  obtain ⟨t0, t1, t2, t3⟩ := V3X.below p2
  have d0 := below_read p2 c0
  have d1 := below_read p2 c1
  have zz0 := (p2.frozen (p := ⟨R, 0, none⟩) (World.block_lt_of_cell? X _ c0)).trans z0
  have zz1 := (p2.frozen (p := ⟨R, 1, none⟩) (World.block_lt_of_cell? X _ c1)).trans z1
  go_wp2
  obtain ⟨Y, hY, bY, c0', c1', c2', c3', y0, y1, y2, y3, V2Y, h1, h2, h3, h4⟩ : ∃ Y : World, (w2.setCell ⟨T, 0, none⟩ (.slice E1 L1 e1)).setCell ⟨T, 1, none⟩ (.slice E2 L2 e2) = Y ∧ Below w.heap.size w Y ∧ Y.cell? ⟨R, 0, none⟩ = some (.slice F1 N1 f1) ∧ Y.cell? ⟨R, 1, none⟩ = some (.slice F2 N2 f2) ∧ Y.cell? ⟨T, 0, none⟩ = some (.slice E1 L1 e1) ∧ Y.cell? ⟨T, 1, none⟩ = some (.slice E2 L2 e2) ∧ Y.frozen? ⟨R, 0, none⟩ = false ∧ Y.frozen? ⟨R, 1, none⟩ = false ∧ Y.frozen? ⟨T, 0, none⟩ = false ∧ Y.frozen? ⟨T, 1, none⟩ = false ∧ Var Y S ∧ Row 2 W.heap.size Y (.slice F1 N1 f1) ks ∧ Row 35 W.heap.size Y (.slice F2 N2 f2) (waysTo 1 ks.length) ∧ Row 2 W.heap.size Y (.slice E1 L1 e1) ((ks.drop at_).take (t - 1 - at_)) ∧ Row 35 W.heap.size Y (.slice E2 L2 e2) (((waysTo 1 ks.length).drop at_).take (t - at_)) :=
    ⟨_, rfl, ((bX.trans (p2.mono bX.size)).setCell (p := ⟨T, 0, none⟩) a3 _).setCell (p := ⟨T, 1, none⟩) a3 _, c_far (c_far d0 l5) l5, c_far (c_far d1 l5) l5, c_off (c_put t0) (by omega), c_put (c_off t1 (by omega)), by simpa using zz0, by simpa using zz1, by simpa using t2, by simpa using t3, Var.far (Var.far (V2X.below p2) l6) l6, ((g3.next p2).set_below a6 _).set_below a6 _, ((g4.next p2).set_below a6 _).set_below a6 _, ((g5.lower hsz).set_below a6 _).set_below a6 _, ((g6.lower hsz).set_below a6 _).set_below a6 _⟩
  have hsy : W.heap.size ≤ Y.heap.size := by rw [← hY]; simp; exact Nat.le_trans hsz p2.size
  rw [hY]
  clear hY zz0 zz1 d0 d1 t0 t1 t2 t3 p2 c0 c1 z0 z1 g3 g4 g5 g6
  have HRL := World.block_lt_of_cell? Y _ c0'
  have HTL := World.block_lt_of_cell? Y _ c2'
  have HF : Hid (∀ w', Below Y.heap.size Y w' → (w'.cell? ⟨R, 0, none⟩ = some (.slice F1 N1 f1) ∧ w'.cell? ⟨R, 1, none⟩ = some (.slice F2 N2 f2) ∧ w'.cell? ⟨T, 0, none⟩ = some (.slice E1 L1 e1) ∧ w'.cell? ⟨T, 1, none⟩ = some (.slice E2 L2 e2))) := fun w' h => ⟨below_read h c0', below_read h c1', below_read h c2', below_read h c3'⟩
  go_region_held3 (fun w' => w'.cell? ⟨R, 0, none⟩ = some (.slice F1 N1 f1) ∧ w'.cell? ⟨R, 1, none⟩ = some (.slice F2 N2 f2) ∧ w'.cell? ⟨T, 0, none⟩ = some (.slice E1 L1 e1) ∧ w'.cell? ⟨T, 1, none⟩ = some (.slice E2 L2 e2)) (first | (refine HF.out _ ?_; go_grown; done) | with_reducible exact ⟨c_off (c_put k0) (by omega), c_put (c_off k1 (by omega)), c_far (c_far k2 l2) l2, c_far (c_far k3 l2) l2⟩ | with_reducible exact ⟨c_far (c_far (c_off (c_put k0) (by omega)) l3) l3, c_far (c_far (c_put (c_off k1 (by omega))) l3) l3, c_far (c_far (c_far (c_far k2 l2) l2) l4) l4, c_far (c_far (c_far (c_far k3 l2) l2) l4) l4⟩ | with_reducible exact ⟨c_far (c_far (c_far (c_far (c_off (c_put k0) (by omega)) l3) l3) l5) l5, c_far (c_far (c_far (c_far (c_put (c_off k1 (by omega))) l3) l3) l5) l5, c_off (c_put (c_far (c_far (c_far (c_far k2 l2) l2) l4) l4)) (by omega), c_put (c_off (c_far (c_far (c_far (c_far k3 l2) l2) l4) l4) (by omega))⟩) (first
    | (go_at_call 24
       refine (instead_walk F1 F2 none (some ⟨Y.heap.size, 0, none⟩) N1 f1 N2 f2 0 0 1 1 ks (waysTo 1 ks.length) [] [-5] at_ t _ ?_ ?_ (Sl.nil _) ?_ (by rw [HN1.out, HN2.out]) (by omega) (by omega) (by omega) ht0 ht1).mono ?_; (· exact h1.sl.below (by go_grown)); (· exact h2.sl.below (by go_grown)); (· exact sl_one (c_top rfl rfl)); rintro e w3 ⟨u, v, rfl, g5, g6, p3⟩; obtain ⟨G1, M1, i1, rfl⟩ := g5.shape; obtain ⟨G2, M2, i2, rfl⟩ := g6.shape
       have q3 : Below Y.heap.size Y w3 := Below.trans (by go_grown) (p3.mono (by simp <;> omega))
       have r5 := g5.lower (base' := W.heap.size) (by simp <;> omega)
       have r6 := g6.lower (base' := W.heap.size) (by simp <;> omega)
       have k0 := below_read q3 c0'
       have k1 := below_read q3 c1'
       have k2 := below_read q3 c2'
       have k3 := below_read q3 c3'
       have m0 := (q3.frozen (p := ⟨R, 0, none⟩) HRL).trans y0
       have m1 := (q3.frozen (p := ⟨R, 1, none⟩) HRL).trans y1
       have m2 := (q3.frozen (p := ⟨T, 0, none⟩) HTL).trans y2
       have m3 := (q3.frozen (p := ⟨T, 1, none⟩) HTL).trans y3
       obtain ⟨s0, s1, s2, s3⟩ := V2Y.below q3
       clear g5 g6 p3))
  all_goals have hb3 := bY.trans (q3.mono bY.size)
  all_goals go_wp2
  all_goals refine bodyPost_ret (results_parted rfl rfl rfl rfl rfl (c_far (c_far (c_far (c_far (c_off (c_put k0) (by omega)) l3) l3) l5) l5) (c_far (c_far (c_far (c_far (c_put (c_off k1 (by omega))) l3) l3) l5) l5) (c_far (c_far (c_off (c_put (c_far (c_far s0 l1) l1)) (by omega)) l6) l6) (c_far (c_far (c_put (c_off (c_far (c_far s1 l1) l1) (by omega))) l6) l6) (c_off (c_put (c_far (c_far (c_far (c_far k2 l2) l2) l4) l4)) (by omega)) (c_put (c_off (c_far (c_far (c_far (c_far k3 l2) l2) l4) l4) (by omega)))) rfl ?_
  all_goals exact ⟨at_, t, _, _, _, _, _, _, ht0, by rw [← HN2.out]; exact ht1, rfl, (((((((h1.next q3).set_below a4 _).set_below a4 _).set_below a5 _).set_below a5 _).set_below a6 _).set_below a6 _).lower bW.size, (((((((h2.next q3).set_below a4 _).set_below a4 _).set_below a5 _).set_below a5 _).set_below a6 _).set_below a6 _).lower bW.size, (((((((r5).set_below a4 _).set_below a4 _).set_below a5 _).set_below a5 _).set_below a6 _).set_below a6 _).lower bW.size, (((((((r6).set_below a4 _).set_below a4 _).set_below a5 _).set_below a5 _).set_below a6 _).set_below a6 _).lower bW.size, (((((((h3.next q3).set_below a4 _).set_below a4 _).set_below a5 _).set_below a5 _).set_below a6 _).set_below a6 _).lower bW.size, (((((((h4.next q3).set_below a4 _).set_below a4 _).set_below a5 _).set_below a5 _).set_below a6 _).set_below a6 _).lower bW.size, ((((((hb3.setCell (p := ⟨R, 0, none⟩) a1 _).setCell (p := ⟨R, 1, none⟩) a1 _).setCell (p := ⟨S, 0, none⟩) a2 _).setCell (p := ⟨S, 1, none⟩) a2 _).setCell (p := ⟨T, 0, none⟩) a3 _).setCell (p := ⟨T, 1, none⟩) a3 _)⟩
end Go.Proofs.Ytpbbkfpapmomhaa
