/-
  What the law's own Instead returns: instead of some ways of a right one another one's.
-/
import Derived.Test.YtpbbkfpapmomhaaCut3
import Derived.Test.YtpbbkfpapmomhaaTail
namespace Go.Proofs.Ytpbbkfpapmomhaa
open Go.ChangeShapes Go.WideShapes Go.ChangeAt Go.RowKit
set_option linter.unusedVariables false
set_option linter.unusedSimpArgs false

theorem Row.sl {el : TypeId} {base : Nat} {w : World} {A : Option Addr} {n c : Nat} {zs : List Int} (h : Row el base w (.slice A n c) zs) : Sl w A n c zs := by
  obtain ⟨_, _, e, s⟩ := h.form
  injection e with e1 e2 e3
  subst e1 e2 e3
  exact s

/-- A variable at block O that reads as keys and ways. -/
structure Iv (W : World) (O : Nat) (F1 : Option Addr) (N1 f1 : Nat) (F2 : Option Addr) (N2 f2 : Nat) (ks ws : List Int) (w : World) : Prop where
  var : w.heap[O]? = some (.cells #[.slice F1 N1 f1, .slice F2 N2 f2] 26 (0, 0))
  keys : Sl w F1 N1 f1 ks
  ways : Sl w F2 N2 f2 ws
  low : W.heap.size ≤ O
  below : Below W.heap.size W w
section
variable {W w w' : World} {O : Nat} {F1 : Option Addr} {N1 f1 : Nat} {F2 : Option Addr} {N2 f2 : Nat} {ks ws : List Int}
theorem Iv.lt (h : Iv W O F1 N1 f1 F2 N2 f2 ks ws w) : O < w.heap.size := (Array.getElem?_eq_some_iff.1 h.var).1
theorem Iv.size (h : Iv W O F1 N1 f1 F2 N2 f2 ks ws w) : W.heap.size ≤ w.heap.size := h.below.size
theorem Iv.cell0 (h : Iv W O F1 N1 f1 F2 N2 f2 ks ws w) : w.cell? ⟨O, 0, none⟩ = some (.slice F1 N1 f1) := by rw [cell_of_row w O 0 _ _ (0, 0) h.var]; rfl
theorem Iv.cell1 (h : Iv W O F1 N1 f1 F2 N2 f2 ks ws w) : w.cell? ⟨O, 1, none⟩ = some (.slice F2 N2 f2) := by rw [cell_of_row w O 1 _ _ (0, 0) h.var]; rfl
theorem Iv.free (h : Iv W O F1 N1 f1 F2 N2 f2 ks ws w) (j : Nat) : w.frozen? ⟨O, j, none⟩ = false := frozen_of_row w O j _ _ h.var
theorem Iv.next (h : Iv W O F1 N1 f1 F2 N2 f2 ks ws w) (hb : Below w.heap.size w w') : Iv W O F1 N1 f1 F2 N2 f2 ks ws w' :=
  ⟨(hb.block O h.lt).trans h.var, h.keys.below hb, h.ways.below hb, h.low, h.below.trans (hb.mono h.size)⟩
/-- New rows are stored into it. -/
theorem Iv.store {G1 : Option Addr} {M1 g1 : Nat} {G2 : Option Addr} {M2 g2 : Nat} {ks' ws' : List Int} (h : Iv W O F1 N1 f1 F2 N2 f2 ks ws w) (hk : Row 2 w.heap.size w' (.slice G1 M1 g1) ks') (hw : Row 35 w.heap.size w' (.slice G2 M2 g2) ws') (hb : Below w.heap.size w w') :
    Iv W O G1 M1 g1 G2 M2 g2 ks' ws' ((w'.setCell ⟨O, 0, none⟩ (.slice G1 M1 g1)).setCell ⟨O, 1, none⟩ (.slice G2 M2 g2)) := by
  have h' := h.next hb
  refine ⟨?_, ?_, ?_, h.low, (h'.below.setCell (p := ⟨O, 0, none⟩) h.low _).setCell (p := ⟨O, 1, none⟩) h.low _⟩
  · exact heap_setCell_same _ O 1 _ _ _ (heap_setCell_same w' O 0 _ _ _ h'.var)
  · obtain ⟨A, c, e, s⟩ := ((hk.set_below (p := ⟨O, 0, none⟩) h.lt (.slice G1 M1 g1)).set_below (p := ⟨O, 1, none⟩) h.lt (.slice G2 M2 g2)).form
    injection e with e1 e2 e3
    subst e1 e2 e3
    exact s
  · obtain ⟨A, c, e, s⟩ := ((hw.set_below (p := ⟨O, 0, none⟩) h.lt (.slice G1 M1 g1)).set_below (p := ⟨O, 1, none⟩) h.lt (.slice G2 M2 g2)).form
    injection e with e1 e2 e3
    subst e1 e2 e3
    exact s
end

/-- The world behind two boxes, a variable for the result, and a copy of the second to build in. -/
theorem boxedI (w : World) (A B A' B' : Option Addr) (n c m d n' c' m' d' : Nat) (os vs : List Int) (ho : Sl w A' n' c' os) (hv : Sl w B' m' d' vs) : ∃ (W : World) (b R O : Nat) (X : World), (((w.alloc (.cells #[.slice A n c, .slice B m d] 26)).alloc (.cells #[.slice A' n' c', .slice B' m' d'] 26)).alloc (.cells #[.slice none 0 0, .slice none 0 0] 26)).alloc (.cells #[.slice A' n' c', .slice B' m' d'] 26) = X ∧ w.heap.size + 1 = b ∧ w.heap.size + 1 + 1 = R ∧ w.heap.size + 1 + 1 + 1 = O ∧ Below w.heap.size w W ∧ R < W.heap.size ∧
    Box W w.heap.size (.slice A n c) (.slice B m d) ∧ Var W R ∧ w.heap.size < R ∧ w.heap.size < O ∧ R < O ∧ Iv W O A' n' c' B' m' d' os vs X := by
  have hb : Below w.heap.size w (((w.alloc (.cells #[.slice A n c, .slice B m d] 26)).alloc (.cells #[.slice A' n' c', .slice B' m' d'] 26)).alloc (.cells #[.slice none 0 0, .slice none 0 0] 26)) := (((Below.refl _ w).alloc (Nat.le_refl _) _).alloc (by simp) _).alloc (by simp; omega) _
  exact ⟨_, _, _, _, _, rfl, rfl, rfl, rfl, hb, by simp, ((Box.new w rfl _ _ _).below (below_new _ _)).below (below_new _ _), Var.new _ (by simp) _, by omega, by omega, by omega,
    ⟨h_new (by simp), (ho.below hb).alloc _, (hv.below hb).alloc _, by simp, below_new _ _⟩⟩

theorem take_join {l m : List Int} {p : Nat} (hp : 0 < p) (h : p ≤ l.length) : (l.drop 0).take (p - 1 - 0) ++ ([l.getD (p - 1) 0] ++ m) = l.take p ++ m := by
  have hl : p - 1 < l.length := by omega
  rw [List.drop_zero, Nat.sub_zero, ← List.append_assoc]
  congr 1
  conv => rhs; rw [show p = (p - 1) + 1 from by omega]
  rw [take_snoc l (p - 1) hl]
  simp [List.getD, hl]

set_option maxHeartbeats 4000000 in
theorem instead_walk (A B A' B' : Option Addr) (n c m d n' c' m' d' : Nat) (ks ws os vs : List Int) (p q : Nat) (w : World) (hk : Sl w A n c ks) (hw : Sl w B m d ws) (ho : Sl w A' n' c' os) (hv : Sl w B' m' d' vs) (hnm : n + 1 = m) (hm : m ≤ 100) (hn' : n' ≤ 100) (hm' : m' ≤ 100) (hpq : p < q) (hq : q ≤ m) :
    Calls Try.prog 24 #[inn A n c B m d, .int .i64 (p : Int), .int .i64 (q : Int), inn A' n' c' B' m' d'] w (MadeI w (ks.take p ++ (os ++ ks.drop (q - 1))) (ws.take p ++ (vs ++ ws.drop q))) := by
  have HNM := Lib.hid hnm
  have hkl := Lib.hid hk.len
  have hwl := Lib.hid hw.len
  have hol := Lib.hid ho.len
  have hvl := Lib.hid hv.len
  clear hnm
  go_enter Try.func24, Try.ntmps24
  go_upto_if 12 with fail
  obtain ⟨W, b, R, O, X, hX, hb, hR, hO, hb00, hs00, HN0, HV0, hR0, hO0, hRO, iv0⟩ := boxedI w A B A' B' n c m d n' c' m' d' os vs ho hv
  rw [hX, hO, hR, hb]
  clear hX hR hO hb
  have Hk := hk.below hb00
  have Hw := hw.below hb00
  have Ho := ho.below hb00
  have Hv := hv.below hb00
  clear hk hw ho hv
  have l1 : w.heap.size ≠ O := by omega
  have l2 : O ≠ w.heap.size := by omega
  have l3 : R ≠ O := by omega
  have l4 : O ≠ R := by omega
  go_cut [] (fun wx => ∃ F1 N1 f1 F2 N2 f2, Hid (Iv W O F1 N1 f1 F2 N2 f2 (ks.take p ++ os) (ws.take p ++ vs) wx))
  case first =>
    by_cases hp0 : p = 0
    · subst hp0
      have h0 : ¬ ((0 : Int) < ((0 : Nat) : Int)) := by simp
      go_wp2_with fail
      go_meet
      exact ⟨A', n', c', B', m', d', iv0⟩
    have hp1 : (0 : Int) < (p : Int) := by omega
    obtain ⟨g, off, hA, hbl, d0⟩ := Hk.at0 (k := p - 1) (by have := HNM.out; omega)
    have d1 := (iv0.below.cell (p := ⟨g, off + (p - 1), none⟩) hbl).trans d0
    have HJ : Hid ((ks.drop 0).take (p - 1 - 0) ++ ([ks.getD (p - 1) 0] ++ os) = ks.take p ++ os) := take_join (by omega) (by have := HNM.out; have := hkl.out; omega)
    have HJ2 : Hid ((ws.drop 0).take (p - 0) ++ vs = ws.take p ++ vs) := by show _ = _; simp
    obtain ⟨k0, k1⟩ := HN0.below iv0.below
    have j0 := iv0.cell0
    have j1 := iv0.cell1
    have hjj : (p : Int) - 1 = ((p - 1 : Nat) : Int) := by omega
    have hwr : IntKind.i64.wrap (((p - 1 : Nat)) : Int) = ((p - 1 : Nat) : Int) := IntWalk.i64_in _ (by omega)
    have i0 : ((p - 1 : Nat) : Int) < (n : Int) := by have := HNM.out; omega
    have i1 : (0 : Int) ≤ ((p - 1 : Nat) : Int) := by omega
    generalize hz : ks.getD (p - 1) 0 = z at *
    generalize hj : p - 1 = j at *
    have HJJ := Lib.hid hj
    clear hz hj d0
    subst hA
    have HC : Hid (∀ w', Below X.heap.size X w' → (w'.cell? ⟨w.heap.size, 0, none⟩ = some (.slice (some ⟨g, off, none⟩) n c) ∧ w'.cell? ⟨w.heap.size, 1, none⟩ = some (.slice B m d) ∧ w'.cell? ⟨g, off + j, none⟩ = some (.int .i64 z) ∧ w'.cell? ⟨O, 0, none⟩ = some (.slice A' n' c') ∧ w'.cell? ⟨O, 1, none⟩ = some (.slice B' m' d'))) :=
      fun w' h => ⟨below_read h k0, below_read h k1, below_read h d1, below_read h j0, below_read h j1⟩
    go_wp2_with fail
    refine region_T 11 (fun w' => w'.cell? ⟨w.heap.size, 0, none⟩ = some (.slice (some ⟨g, off, none⟩) n c) ∧ w'.cell? ⟨w.heap.size, 1, none⟩ = some (.slice B m d) ∧ w'.cell? ⟨g, off + j, none⟩ = some (.int .i64 z) ∧ w'.cell? ⟨O, 0, none⟩ = some (.slice A' n' c') ∧ w'.cell? ⟨O, 1, none⟩ = some (.slice B' m' d')) (by kernel_rfl) ?_
    have hC := HC.out X.drew (Below.refl _ X).drew
    refine takeT (i := 0) (v := ?_) rfl (by kernel_rfl) (by kernel_rfl) (by kernel_rfl) (by kernel_rfl) (fun _ _ _ h => h) hC (by rfl) ?_ ?_
    rotate_left
    · intro w hSw; (try dsimp only at hSw); go_simp; try (with_reducible rfl)
    try simp only [Act.put, List.setIfInBounds_toArray, List.set_cons_zero, List.set_cons_succ]
    refine takeT (i := 1) (v := ?_) rfl (by kernel_rfl) (by kernel_rfl) (by kernel_rfl) (by kernel_rfl) (fun _ _ _ h => h) hC (by rfl) ?_ ?_
    rotate_left
    · intro w hSw; (try dsimp only at hSw); go_simp; try (with_reducible rfl)
    try simp only [Act.put, List.setIfInBounds_toArray, List.set_cons_zero, List.set_cons_succ]
    refine takeT (i := 3) (v := ?_) rfl (by kernel_rfl) (by kernel_rfl) (by kernel_rfl) (by kernel_rfl) (fun _ _ _ h => h) hC (by rfl) ?_ ?_
    rotate_left
    · intro w hSw; (try dsimp only at hSw); go_simp; try (with_reducible rfl)
    try simp only [Act.put, List.setIfInBounds_toArray, List.set_cons_zero, List.set_cons_succ]
    refine takeT (i := 4) (v := ?_) rfl (by kernel_rfl) (by kernel_rfl) (by kernel_rfl) (by kernel_rfl) (fun _ _ _ h => h) hC (by rfl) ?_ ?_
    rotate_left
    · intro w hSw; (try dsimp only at hSw); go_simp; try (with_reducible rfl)
    try simp only [Act.put, List.setIfInBounds_toArray, List.set_cons_zero, List.set_cons_succ]
    refine takeT (i := 5) (v := ?_) rfl (by kernel_rfl) (by kernel_rfl) (by kernel_rfl) (by kernel_rfl) (fun _ _ _ h => h) hC (by rfl) ?_ ?_
    rotate_left
    · intro w hSw; (try dsimp only at hSw); go_simp; try (with_reducible rfl)
    try simp only [Act.put, List.setIfInBounds_toArray, List.set_cons_zero, List.set_cons_succ]
    refine takeT (i := 6) (v := ?_) rfl (by kernel_rfl) (by kernel_rfl) (by kernel_rfl) (by kernel_rfl) (fun _ _ _ h => h) hC (by rfl) ?_ ?_
    rotate_left
    · intro w hSw; (try dsimp only at hSw); go_simp; try (with_reducible rfl)
    try simp only [Act.put, List.setIfInBounds_toArray, List.set_cons_zero, List.set_cons_succ]
    refine takeT (i := 7) (v := ?_) rfl (by kernel_rfl) (by kernel_rfl) (by kernel_rfl) (by kernel_rfl) (fun _ _ _ h => h) hC (by rfl) ?_ ?_
    rotate_left
    · intro w hSw; (try dsimp only at hSw); go_simp; try (with_reducible rfl)
    try simp only [Act.put, List.setIfInBounds_toArray, List.set_cons_zero, List.set_cons_succ]
    refine takeT (i := 8) (v := ?_) rfl (by kernel_rfl) (by kernel_rfl) (by kernel_rfl) (by kernel_rfl) (fun _ _ _ h => h) hC (by rfl) ?_ ?_
    rotate_left
    · intro w hSw; (try dsimp only at hSw); go_simp; try (with_reducible rfl)
    try simp only [Act.put, List.setIfInBounds_toArray, List.set_cons_zero, List.set_cons_succ]
    refine takeT (i := 9) (v := ?_) rfl (by kernel_rfl) (by kernel_rfl) (by kernel_rfl) (by kernel_rfl) (fun _ _ _ h => h) hC (by rfl) ?_ ?_
    rotate_left
    · intro w hSw; (try dsimp only at hSw); go_simp; try (with_reducible rfl)
    try simp only [Act.put, List.setIfInBounds_toArray, List.set_cons_zero, List.set_cons_succ]
    refine oneT (i := 2) (by kernel_rfl) rfl (by rfl) (fun K hK => ?_)
    go_simp
    refine (cut_walk (some ⟨g, off, none⟩) B n c m d ks ws 0 p X.drew ((Hk.below iv0.below).drew) ((Hw.below iv0.below).drew) HNM.out (by omega) (by omega) (by omega)).mono ?_
    rintro e w1 ⟨u1, u2, rfl, g1, g2, p1⟩
    obtain ⟨E1, M1, e1, rfl⟩ := g1.shape
    obtain ⟨E2, M2, e2, rfl⟩ := g2.shape
    have hb1 : Below X.heap.size X w1 := ((Below.refl _ X).drew).trans p1
    have sl1 := g1.sl
    have sl2 := g2.sl
    have hM1 : M1 ≤ 100 := by rw [sl1.len]; simp; omega
    have hM2 : M2 ≤ 100 := by rw [sl2.len]; simp; omega
    have iv1 := iv0.next hb1
    refine hK.out _ _ (fun _ => HC.out w1 hb1) ?_
    clear hK K g1 g2
    try simp only [Act.put, List.setIfInBounds_toArray, List.set_cons_zero, List.set_cons_succ]
    refine oneT (i := 10) (by kernel_rfl) rfl (by rfl) (fun K hK => ?_)
    go_simp
    refine (lawJoin_walk E1 E2 A' B' M1 e1 M2 e2 n' c' m' d' _ _ os vs z w1 sl1 sl2 iv1.keys iv1.ways (by omega) (by omega) (by omega) (by omega)).mono ?_
    rintro e w2 ⟨u1, u2, rfl, g1, g2, p2⟩
    obtain ⟨G1, L1, h1, rfl⟩ := g1.shape
    obtain ⟨G2, L2, h2, rfl⟩ := g2.shape
    have iv2 := iv1.store g1 g2 p2
    rw [show p - 1 - 0 = j from by have := HJJ.out; omega, HJ.out, HJ2.out] at iv2
    have hb2 := hb1.trans (p2.mono hb1.size)
    have iv3 := iv1.next p2
    have y0 := iv3.cell0
    have y1 := iv3.cell1
    have y2 := iv3.free 0
    have y3 := iv3.free 1
    have IV2 := Lib.hid iv2
    refine hK.out _ _ (fun _ => HC.out w2 hb2) ?_
    clear hK K iv2 g1 g2
    try simp only [Act.put, List.setIfInBounds_toArray, List.set_cons_zero, List.set_cons_succ]
    refine oneT (i := 11) (by kernel_rfl) rfl (by rfl) (fun K hK => ?_)
    go_simp
    refine hK.out _ _ (fun h => absurd rfl h) ?_
    clear hK K
    refine doneT (by kernel_rfl) ?_
    go_wp2_with fail
    go_meet
    exact ⟨G1, L1, h1, G2, L2, h2, IV2.out⟩
  case rest =>
    obtain ⟨F1, N1, f1, F2, N2, f2, hiv⟩ := hcut
    have iv := hiv.out
    clear hiv iv0
    obtain ⟨k0, k1⟩ := HN0.below iv.below
    by_cases hqm : q = m
    · have hq2 : ¬ ((q : Int) < (m : Int)) := by omega
      have HE : Hid (ks.take p ++ (os ++ ks.drop (q - 1)) = ks.take p ++ os ∧ ws.take p ++ (vs ++ ws.drop q) = ws.take p ++ vs) := by
        refine ⟨?_, ?_⟩
        · rw [List.drop_eq_nil_of_le (by have := HNM.out; have := hkl.out; omega), List.append_nil]
        · rw [List.drop_eq_nil_of_le (by have := hwl.out; omega), List.append_nil]
      have HQM := Lib.hid hqm
      clear hqm
      have hl1 : N1 ≤ 1000 := by rw [iv.keys.len]; have := HNM.out; have := hol.out; simp; omega
      have hl2 : N2 ≤ 1000 := by rw [iv.ways.len]; have := hvl.out; simp; omega
      have j0 := iv.cell0
      have j1 := iv.cell1
      go_wp2_with fail
      refine (copy_walk F1 F2 N1 f1 N2 f2 _ _ wc iv.keys iv.ways hl1 hl2).mono ?_
      rintro e w9 ⟨u1, u2, rfl, g1, g2, p9⟩
      obtain ⟨G1, L1, h1, rfl⟩ := g1.shape
      obtain ⟨G2, L2, h2, rfl⟩ := g2.shape
      have b9 := iv.below.trans (p9.mono iv.below.size)
      obtain ⟨t0, t1, u0, u1⟩ := HV0.below b9
      have hz : R < wc.heap.size := Nat.lt_of_lt_of_le hs00 iv.size
      have HZ := Lib.hid (madeI_end1 g1 g2 (hb00.trans (iv.below.mono hb00.size)) hz (Nat.le_of_lt hR0) (hb00.trans (b9.mono hb00.size)))
      clear g1 g2 k0 k1 j0 j1
      go_wp2
      refine bodyPost_ret (results_stored rfl rfl t0 t1) rfl ?_
      rw [HE.out.1, HE.out.2]
      exact HZ.out
    have hq2 : (q : Int) < (m : Int) := by omega
    obtain ⟨g, off, hA, hbl, d0⟩ := Hk.at0 (k := q - 1) (by have := HNM.out; omega)
    have d1 := (iv.below.cell (p := ⟨g, off + (q - 1), none⟩) hbl).trans d0
    have HE : Hid (ks.take p ++ (os ++ ks.drop (q - 1)) = (ks.take p ++ os) ++ ([ks.getD (q - 1) 0] ++ (ks.drop q).take (m - 1 - q)) ∧ ws.take p ++ (vs ++ ws.drop q) = (ws.take p ++ vs) ++ (ws.drop q).take (m - q)) := by
      have e1 := HNM.out
      have e2 := hkl.out
      have e3 := hwl.out
      refine ⟨?_, ?_⟩
      · rw [List.append_assoc]
        congr 2
        have hl : q - 1 < ks.length := by omega
        rw [List.drop_eq_getElem_cons hl, show q - 1 + 1 = q from by omega, List.take_of_length_le (by simp; omega)]
        simp [List.getD, hl]
      · rw [List.append_assoc, List.take_of_length_le (l := ws.drop q) (by simp; omega)]
    have j0 := iv.cell0
    have j1 := iv.cell1
    have hjj : (q : Int) - 1 = ((q - 1 : Nat) : Int) := by omega
    have hwr : IntKind.i64.wrap (((q - 1 : Nat)) : Int) = ((q - 1 : Nat) : Int) := IntWalk.i64_in _ (by omega)
    have i0 : ((q - 1 : Nat) : Int) < (n : Int) := by have := HNM.out; omega
    have i1 : (0 : Int) ≤ ((q - 1 : Nat) : Int) := by omega
    have hl1 : N1 ≤ 300 := by rw [iv.keys.len]; have := HNM.out; have := hol.out; simp; omega
    have hl2 : N2 ≤ 300 := by rw [iv.ways.len]; have := hvl.out; simp; omega
    have HQ : Hid (q ≠ m) := hqm
    clear hqm
    generalize hz : ks.getD (q - 1) 0 = z at *
    generalize hj : q - 1 = j at *
    have HJJ := Lib.hid hj
    clear hz hj d0
    subst hA
    have HC : Hid (∀ w', Below wc.heap.size wc w' → (w'.cell? ⟨w.heap.size, 0, none⟩ = some (.slice (some ⟨g, off, none⟩) n c) ∧ w'.cell? ⟨w.heap.size, 1, none⟩ = some (.slice B m d) ∧ w'.cell? ⟨g, off + j, none⟩ = some (.int .i64 z) ∧ w'.cell? ⟨O, 0, none⟩ = some (.slice F1 N1 f1) ∧ w'.cell? ⟨O, 1, none⟩ = some (.slice F2 N2 f2))) :=
      fun w' h => ⟨below_read h k0, below_read h k1, below_read h d1, below_read h j0, below_read h j1⟩
    go_wp2_with fail
    refine region_T 14 (fun w' => w'.cell? ⟨w.heap.size, 0, none⟩ = some (.slice (some ⟨g, off, none⟩) n c) ∧ w'.cell? ⟨w.heap.size, 1, none⟩ = some (.slice B m d) ∧ w'.cell? ⟨g, off + j, none⟩ = some (.int .i64 z) ∧ w'.cell? ⟨O, 0, none⟩ = some (.slice F1 N1 f1) ∧ w'.cell? ⟨O, 1, none⟩ = some (.slice F2 N2 f2)) (by kernel_rfl) ?_
    have hC := HC.out wc.drew (Below.refl _ wc).drew
    refine takeT (i := 0) (v := ?_) rfl (by kernel_rfl) (by kernel_rfl) (by kernel_rfl) (by kernel_rfl) (fun _ _ _ h => h) hC (by rfl) ?_ ?_
    rotate_left
    · intro w hSw; (try dsimp only at hSw); go_simp; try (with_reducible rfl)
    try simp only [Act.put, List.setIfInBounds_toArray, List.set_cons_zero, List.set_cons_succ]
    refine takeT (i := 1) (v := ?_) rfl (by kernel_rfl) (by kernel_rfl) (by kernel_rfl) (by kernel_rfl) (fun _ _ _ h => h) hC (by rfl) ?_ ?_
    rotate_left
    · intro w hSw; (try dsimp only at hSw); go_simp; try (with_reducible rfl)
    try simp only [Act.put, List.setIfInBounds_toArray, List.set_cons_zero, List.set_cons_succ]
    refine takeT (i := 2) (v := ?_) rfl (by kernel_rfl) (by kernel_rfl) (by kernel_rfl) (by kernel_rfl) (fun _ _ _ h => h) hC (by rfl) ?_ ?_
    rotate_left
    · intro w hSw; (try dsimp only at hSw); go_simp; try (with_reducible rfl)
    try simp only [Act.put, List.setIfInBounds_toArray, List.set_cons_zero, List.set_cons_succ]
    refine takeT (i := 3) (v := ?_) rfl (by kernel_rfl) (by kernel_rfl) (by kernel_rfl) (by kernel_rfl) (fun _ _ _ h => h) hC (by rfl) ?_ ?_
    rotate_left
    · intro w hSw; (try dsimp only at hSw); go_simp; try (with_reducible rfl)
    try simp only [Act.put, List.setIfInBounds_toArray, List.set_cons_zero, List.set_cons_succ]
    refine takeT (i := 4) (v := ?_) rfl (by kernel_rfl) (by kernel_rfl) (by kernel_rfl) (by kernel_rfl) (fun _ _ _ h => h) hC (by rfl) ?_ ?_
    rotate_left
    · intro w hSw; (try dsimp only at hSw); go_simp; try (with_reducible rfl)
    try simp only [Act.put, List.setIfInBounds_toArray, List.set_cons_zero, List.set_cons_succ]
    refine takeT (i := 5) (v := ?_) rfl (by kernel_rfl) (by kernel_rfl) (by kernel_rfl) (by kernel_rfl) (fun _ _ _ h => h) hC (by rfl) ?_ ?_
    rotate_left
    · intro w hSw; (try dsimp only at hSw); go_simp; try (with_reducible rfl)
    try simp only [Act.put, List.setIfInBounds_toArray, List.set_cons_zero, List.set_cons_succ]
    refine takeT (i := 6) (v := ?_) rfl (by kernel_rfl) (by kernel_rfl) (by kernel_rfl) (by kernel_rfl) (fun _ _ _ h => h) hC (by rfl) ?_ ?_
    rotate_left
    · intro w hSw; (try dsimp only at hSw); go_simp; try (with_reducible rfl)
    try simp only [Act.put, List.setIfInBounds_toArray, List.set_cons_zero, List.set_cons_succ]
    refine takeT (i := 7) (v := ?_) rfl (by kernel_rfl) (by kernel_rfl) (by kernel_rfl) (by kernel_rfl) (fun _ _ _ h => h) hC (by rfl) ?_ ?_
    rotate_left
    · intro w hSw; (try dsimp only at hSw); go_simp; try (with_reducible rfl)
    try simp only [Act.put, List.setIfInBounds_toArray, List.set_cons_zero, List.set_cons_succ]
    refine takeT (i := 8) (v := ?_) rfl (by kernel_rfl) (by kernel_rfl) (by kernel_rfl) (by kernel_rfl) (fun _ _ _ h => h) hC (by rfl) ?_ ?_
    rotate_left
    · intro w hSw; (try dsimp only at hSw); go_simp; try (with_reducible rfl)
    try simp only [Act.put, List.setIfInBounds_toArray, List.set_cons_zero, List.set_cons_succ]
    refine takeT (i := 9) (v := ?_) rfl (by kernel_rfl) (by kernel_rfl) (by kernel_rfl) (by kernel_rfl) (fun _ _ _ h => h) hC (by rfl) ?_ ?_
    rotate_left
    · intro w hSw; (try dsimp only at hSw); go_simp; try (with_reducible rfl)
    try simp only [Act.put, List.setIfInBounds_toArray, List.set_cons_zero, List.set_cons_succ]
    refine takeT (i := 10) (v := ?_) rfl (by kernel_rfl) (by kernel_rfl) (by kernel_rfl) (by kernel_rfl) (fun _ _ _ h => h) hC (by rfl) ?_ ?_
    rotate_left
    · intro w hSw; (try dsimp only at hSw); go_simp; try (with_reducible rfl)
    try simp only [Act.put, List.setIfInBounds_toArray, List.set_cons_zero, List.set_cons_succ]
    refine takeT (i := 11) (v := ?_) rfl (by kernel_rfl) (by kernel_rfl) (by kernel_rfl) (by kernel_rfl) (fun _ _ _ h => h) hC (by rfl) ?_ ?_
    rotate_left
    · intro w hSw; (try dsimp only at hSw); go_simp; try (with_reducible rfl)
    try simp only [Act.put, List.setIfInBounds_toArray, List.set_cons_zero, List.set_cons_succ]
    refine oneT (i := 12) (by kernel_rfl) rfl (by rfl) (fun K hK => ?_)
    go_simp
    refine (cut_walk (some ⟨g, off, none⟩) B n c m d ks ws q m wc.drew ((Hk.below iv.below).drew) ((Hw.below iv.below).drew) HNM.out (by omega) (by omega) (by omega)).mono ?_
    rintro e w1 ⟨u1, u2, rfl, g1, g2, p1⟩
    obtain ⟨E1, M1, e1, rfl⟩ := g1.shape
    obtain ⟨E2, M2, e2, rfl⟩ := g2.shape
    have hb1 : Below wc.heap.size wc w1 := ((Below.refl _ wc).drew).trans p1
    have sl1 := g1.sl
    have sl2 := g2.sl
    have hM1 : M1 ≤ 100 := by rw [sl1.len]; simp; omega
    have hM2 : M2 ≤ 100 := by rw [sl2.len]; simp; omega
    have iv1 := iv.next hb1
    refine hK.out _ _ (fun _ => HC.out w1 hb1) ?_
    clear hK K g1 g2
    try simp only [Act.put, List.setIfInBounds_toArray, List.set_cons_zero, List.set_cons_succ]
    refine oneT (i := 13) (by kernel_rfl) rfl (by rfl) (fun K hK => ?_)
    go_simp
    refine (lawJoin_walk F1 F2 E1 E2 N1 f1 N2 f2 M1 e1 M2 e2 _ _ _ _ z w1 iv1.keys iv1.ways sl1 sl2 (by omega) (by omega) (by omega) (by omega)).mono ?_
    rintro e w2 ⟨u1, u2, rfl, g1, g2, p2⟩
    obtain ⟨G1, L1, h1, rfl⟩ := g1.shape
    obtain ⟨G2, L2, h2, rfl⟩ := g2.shape
    have iv2 := iv1.store g1 g2 p2
    have hb2 := hb1.trans (p2.mono hb1.size)
    have iv3 := iv1.next p2
    have y0 := iv3.cell0
    have y1 := iv3.cell1
    have y2 := iv3.free 0
    have y3 := iv3.free 1
    have IV2 := Lib.hid iv2
    refine hK.out _ _ (fun _ => HC.out w2 hb2) ?_
    clear hK K iv2 g1 g2
    try simp only [Act.put, List.setIfInBounds_toArray, List.set_cons_zero, List.set_cons_succ]
    refine oneT (i := 14) (by kernel_rfl) rfl (by rfl) (fun K hK => ?_)
    go_simp
    refine hK.out _ _ (fun h => absurd rfl h) ?_
    clear hK K
    refine doneT (by kernel_rfl) ?_
    obtain ⟨Z, hZ, ivz⟩ : ∃ Z : World, (w2.setCell ⟨O, 0, none⟩ (.slice G1 L1 h1)).setCell ⟨O, 1, none⟩ (.slice G2 L2 h2) = Z ∧ Iv W O G1 L1 h1 G2 L2 h2 ((ks.take p ++ os) ++ ([z] ++ (ks.drop q).take (m - 1 - q))) ((ws.take p ++ vs) ++ (ws.drop q).take (m - q)) Z := ⟨_, rfl, IV2.out⟩
    rw [hZ]
    clear hZ IV2 iv iv1 iv3 y0 y1 y2 y3 sl1 sl2 j0 j1 k0 k1 d1 HC hC
    have hl3 : L1 ≤ 1000 := by rw [ivz.keys.len]; have := HNM.out; have := hol.out; have := hkl.out; simp; omega
    have hl4 : L2 ≤ 1000 := by rw [ivz.ways.len]; have := hvl.out; have := hwl.out; simp; omega
    have j0 := ivz.cell0
    have j1 := ivz.cell1
    go_wp2_with fail
    refine (copy_walk G1 G2 L1 h1 L2 h2 _ _ Z ivz.keys ivz.ways hl3 hl4).mono ?_
    rintro e w9 ⟨u1, u2, rfl, g1, g2, p9⟩
    obtain ⟨H1, J1, i2, rfl⟩ := g1.shape
    obtain ⟨H2, J2, i3, rfl⟩ := g2.shape
    have b9 := ivz.below.trans (p9.mono ivz.below.size)
    obtain ⟨t0, t1, u0, u1⟩ := HV0.below b9
    have hzz : R < Z.heap.size := Nat.lt_of_lt_of_le hs00 ivz.size
    have HZ := Lib.hid (madeI_end1 g1 g2 (hb00.trans (ivz.below.mono hb00.size)) hzz (Nat.le_of_lt hR0) (hb00.trans (b9.mono hb00.size)))
    clear g1 g2 j0 j1
    go_wp2
    refine bodyPost_ret (results_stored rfl rfl t0 t1) rfl ?_
    rw [HE.out.1, HE.out.2]
    exact HZ.out
end Go.Proofs.Ytpbbkfpapmomhaa
