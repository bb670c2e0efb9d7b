/-
  What inner's With, Absorb, Merged return where a way isn't there, or there isn't one key fewer than ways: it as it is, in new rows. And With, where the way is there.
-/
import Derived.Test.YtpbbkfpapmomhaaInner2
namespace Go.Proofs.Ytpbbkfpapmomhaa
open Go.ChangeShapes Go.WideShapes Go.ChangeAt Go.RowKit
set_option linter.unusedVariables false
set_option linter.unusedSimpArgs false

theorem MadeI.since {w W : World} {ks ws : List Int} {e : Ending} {w' : World} (h : MadeI W ks ws e w') (hb : Below w.heap.size w W) : MadeI w ks ws e w' := by
  obtain ⟨u, v, he, h1, h2, h3⟩ := h
  exact ⟨u, v, he, h1.lower hb.size, h2.lower hb.size, hb.trans (h3.mono hb.size)⟩

/-- Rows that were made in W or later, stored where the result stands. -/
theorem madeI_end1 {w W W3 : World} {u v : Value} {ks ws : List Int} {R : Nat} (h1 : Row 2 W.heap.size W3 u ks) (h2 : Row 35 W.heap.size W3 v ws) (hb1 : Below w.heap.size w W) (hR : R < W.heap.size) (hR0 : w.heap.size ≤ R) (hb : Below w.heap.size w W3) :
    MadeI w ks ws (.returned (.agg #[u, v])) ((W3.setCell ⟨R, 0, none⟩ u).setCell ⟨R, 1, none⟩ v) :=
  ⟨u, v, rfl, ((h1.set_below hR _).set_below hR _).lower hb1.size, ((h2.set_below hR _).set_below hR _).lower hb1.size,
    (hb.setCell (p := ⟨R, 0, none⟩) hR0 u).setCell (p := ⟨R, 1, none⟩) hR0 v⟩

set_option maxHeartbeats 1000000 in
theorem absorb_out (A B A' B' : Option Addr) (n c m d n' c' m' d' : Nat) (ks ws : List Int) (i : Int) (w : World) (hk : Sl w A n c ks) (hw : Sl w B m d ws) (hn : n ≤ 200) (hm : m ≤ 200) (hn' : n' ≤ 200) (hm' : m' ≤ 200)
    (hno : (fitsB n m && hasB m i && fitsB n' m') = false) :
    Calls Try.prog 25 #[inn A n c B m d, .int .i64 i, inn A' n' c' B' m' d'] w (MadeI w ks ws) := by
  go_enter Try.func25, Try.ntmps25
  go_wp2_with fail
  obtain ⟨W0, b, R, hW, hb, hR, hb00, hs00, HN0, HO0, HV0, hR0, l1, l2, l3, l4⟩ := boxed2 w (.slice A n c) (.slice B m d) (.slice A' n' c') (.slice B' m' d')
  rw [hW, hR, hb]
  clear hW hR hb
  refine (fits_walk A B n c m d W0 (by omega) (by omega)).mono ?_
  rintro e w1 ⟨rfl, p1⟩
  obtain ⟨j0, j1⟩ := HN0.below p1
  cases hf : fitsB n m with
  | false =>
    clear hf hno
    have hb1 := hb00.trans (p1.mono hb00.size)
    go_wp2_with fail
    refine (same_walk A B n c m d ks ws w1 (hk.below hb1) (hw.below hb1) (by omega) (by omega)).mono ?_
    rintro e w2 ⟨u, v, rfl, g1, g2, p2⟩
    obtain ⟨F1, N1, f1, rfl⟩ := g1.shape
    obtain ⟨F2, N2, f2, rfl⟩ := g2.shape
    have p3 := p1.trans (p2.mono p1.size)
    obtain ⟨t0, t1, u0, u1⟩ := HV0.below p3
    have hb2 := hb00.trans (p3.mono hb00.size)
    clear j0 j1
    go_wp2
    refine bodyPost_ret (results_stored rfl rfl t0 t1) rfl ?_
    exact madeI_end1 g1 g2 hb1 (Nat.lt_of_lt_of_le hs00 p1.size) (by omega) hb2
  | true =>
    rw [hf, Bool.true_and] at hno
    clear hf
    go_wp2_with fail
    refine (has_walk A B n c m d i w1 (by omega)).mono ?_
    rintro e w2 ⟨rfl, p12⟩
    have p2 := p1.trans (p12.mono p1.size)
    clear j0 j1
    obtain ⟨j0, j1⟩ := HN0.below p2
    obtain ⟨i0, i1⟩ := HO0.below p2
    cases hh : hasB m i with
    | false =>
      clear hh hno
      have hb1 := hb00.trans (p2.mono hb00.size)
      go_wp2_with fail
      refine (same_walk A B n c m d ks ws w2 (hk.below hb1) (hw.below hb1) (by omega) (by omega)).mono ?_
      rintro e w3 ⟨u, v, rfl, g1, g2, p23⟩
      obtain ⟨F1, N1, f1, rfl⟩ := g1.shape
      obtain ⟨F2, N2, f2, rfl⟩ := g2.shape
      have p3 := p2.trans (p23.mono p2.size)
      obtain ⟨t0, t1, u0, u1⟩ := HV0.below p3
      have hb2 := hb00.trans (p3.mono hb00.size)
      clear j0 j1 i0 i1
      go_wp2
      refine bodyPost_ret (results_stored rfl rfl t0 t1) rfl ?_
      exact madeI_end1 g1 g2 hb1 (Nat.lt_of_lt_of_le hs00 p2.size) (by omega) hb2
    | true =>
      rw [hh, Bool.true_and] at hno
      have HNO := Lib.hid hno
      clear hh hno
      go_wp2_with fail
      refine (fits_walk A' B' n' c' m' d' w2 (by omega) (by omega)).mono ?_
      rintro e w3 ⟨rfl, p23⟩
      rw [HNO.out]
      have p3 := p2.trans (p23.mono p2.size)
      clear j0 j1 i0 i1
      obtain ⟨j0, j1⟩ := HN0.below p3
      have hb1 := hb00.trans (p3.mono hb00.size)
      go_wp2_with fail
      refine (same_walk A B n c m d ks ws w3 (hk.below hb1) (hw.below hb1) (by omega) (by omega)).mono ?_
      rintro e w4 ⟨u, v, rfl, g1, g2, p34⟩
      obtain ⟨F1, N1, f1, rfl⟩ := g1.shape
      obtain ⟨F2, N2, f2, rfl⟩ := g2.shape
      have p4 := p3.trans (p34.mono p3.size)
      obtain ⟨t0, t1, u0, u1⟩ := HV0.below p4
      have hb2 := hb00.trans (p4.mono hb00.size)
      clear j0 j1
      go_wp2
      refine bodyPost_ret (results_stored rfl rfl t0 t1) rfl ?_
      exact madeI_end1 g1 g2 hb1 (Nat.lt_of_lt_of_le hs00 p3.size) (by omega) hb2

set_option maxHeartbeats 1000000 in
theorem merged_out (A B : Option Addr) (n c m d : Nat) (ks ws : List Int) (i r : Int) (w : World) (hk : Sl w A n c ks) (hw : Sl w B m d ws) (hn : n ≤ 200) (hm : m ≤ 200)
    (hno : (fitsB n m && hasTwoB m i) = false) :
    Calls Try.prog 30 #[inn A n c B m d, .int .i64 i, .int .i64 r] w (MadeI w ks ws) := by
  go_enter Try.func30, Try.ntmps30
  go_wp2_with fail
  obtain ⟨W0, R, hW, hR, hb00, hs00, HN0, HV0, hR0, l3, l4⟩ := boxed1v w (.slice A n c) (.slice B m d)
  rw [hW, hR]
  clear hW hR
  refine (fits_walk A B n c m d W0 (by omega) (by omega)).mono ?_
  rintro e w1 ⟨rfl, p1⟩
  obtain ⟨j0, j1⟩ := HN0.below p1
  cases hf : fitsB n m with
  | false =>
    clear hf hno
    have hb1 := hb00.trans (p1.mono hb00.size)
    go_wp2_with fail
    refine (same_walk A B n c m d ks ws w1 (hk.below hb1) (hw.below hb1) (by omega) (by omega)).mono ?_
    rintro e w2 ⟨u, v, rfl, g1, g2, p2⟩
    obtain ⟨F1, N1, f1, rfl⟩ := g1.shape
    obtain ⟨F2, N2, f2, rfl⟩ := g2.shape
    have p3 := p1.trans (p2.mono p1.size)
    obtain ⟨t0, t1, u0, u1⟩ := HV0.below p3
    have hb2 := hb00.trans (p3.mono hb00.size)
    clear j0 j1
    go_wp2
    refine bodyPost_ret (results_stored rfl rfl t0 t1) rfl ?_
    exact madeI_end1 g1 g2 hb1 (Nat.lt_of_lt_of_le hs00 p1.size) (by omega) hb2
  | true =>
    rw [hf, Bool.true_and] at hno
    have HNO := Lib.hid hno
    clear hf hno
    go_wp2_with fail
    refine (hasTwo_walk A B n c m d i w1 (by omega)).mono ?_
    rintro e w2 ⟨rfl, p12⟩
    rw [HNO.out]
    have p2 := p1.trans (p12.mono p1.size)
    clear j0 j1
    obtain ⟨j0, j1⟩ := HN0.below p2
    have hb1 := hb00.trans (p2.mono hb00.size)
    go_wp2_with fail
    refine (same_walk A B n c m d ks ws w2 (hk.below hb1) (hw.below hb1) (by omega) (by omega)).mono ?_
    rintro e w3 ⟨u, v, rfl, g1, g2, p23⟩
    obtain ⟨F1, N1, f1, rfl⟩ := g1.shape
    obtain ⟨F2, N2, f2, rfl⟩ := g2.shape
    have p3 := p2.trans (p23.mono p2.size)
    obtain ⟨t0, t1, u0, u1⟩ := HV0.below p3
    have hb2 := hb00.trans (p3.mono hb00.size)
    clear j0 j1
    go_wp2
    refine bodyPost_ret (results_stored rfl rfl t0 t1) rfl ?_
    exact madeI_end1 g1 g2 hb1 (Nat.lt_of_lt_of_le hs00 p2.size) (by omega) hb2
end Go.Proofs.Ytpbbkfpapmomhaa
