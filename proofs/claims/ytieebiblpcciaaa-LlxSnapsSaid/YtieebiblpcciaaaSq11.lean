/-
  Law LlxSnaps: what a snap tells of keys, ways, entries.
-/
import Derived.Test.YtieebiblpcciaaaSp11
import Derived.Test.YtieebiblpcciaaaSq3
namespace Go.Proofs.Ytieebiblpcciaaa
open Go.ChangeShapes Go.WideShapes Go.ChangeAt Go.RowKit
set_option linter.unusedVariables false
set_option linter.unusedSimpArgs false
set_option maxRecDepth 20000

theorem goesTo_zero (ws : List Int) (way r : Int) : goesTo ws way r 0 = false := by
  unfold goesTo; simp only [decide_eq_false_iff_not]; rintro ⟨-, h, -⟩; omega
theorem goesTo_true {ws : List Int} {way r : Int} {i : Nat} (h : goesTo ws way r i = true) : goesTo ws way r (i + 1) = true := by
  unfold goesTo at *; simp only [decide_eq_true_eq] at *; exact ⟨h.1, by omega, h.2.2⟩
theorem goesTo_off {ws : List Int} {way r : Int} {i : Nat} (h : goesTo ws way r i = false) (hi : (i : Int) ≠ way) : goesTo ws way r (i + 1) = false := by
  unfold goesTo at *; simp only [decide_eq_false_iff_not] at *; rintro ⟨h1, h2, h3⟩; exact h ⟨h1, by omega, h3⟩
theorem goesTo_at {ws : List Int} {r : Int} {i : Nat} {z : Int} (hz : ws[i]? = some z) : goesTo ws (i : Int) r (i + 1) = decide (z = r) := by
  unfold goesTo
  rw [decide_eq_decide, Int.toNat_natCast, hz]
  constructor
  · rintro ⟨-, -, h⟩; injection h
  · intro h; exact ⟨by omega, by omega, by rw [h]⟩
set_option maxHeartbeats 8000000 in
theorem llxSnaps_walk (rf inf : Int) (x y : Bool) (P B C : Option Addr) (n1 c1 m c p q : Nat) (zv : Value) (ks ws : List Int) (way r : Int) (w : World) (hk : Sl w B m c ks) (hz : Sl w C p q ws) :
    Calls Try.prog 6 #[snv rf inf x y (.slice P n1 c1) (.slice B m c) zv (.slice C p q), .int .i64 way, .int .i64 r] w fun e w' => e = .returned (.bool true) ∧ Below w.heap.size w w' := by
  obtain ⟨W, b, hW, hb, hb0, e8⟩ := snap_box w rf inf x y (.slice P n1 c1) (.slice B m c) zv (.slice C p q)
  have HW := Lib.hid hb0
  have HKK : Hid (Sl W B m c ks) := hk.below hb0
  have HZZ : Hid (Sl W C p q ws) := hz.below hb0
  have HE := Lib.hid e8
  clear hb0 e8 hk hz
  go_enter Try.func6, Try.ntmps6
  go_wp2_with fail
  (try rw [hW])
  refine (awake10_walk W).mono ?_
  rintro e v1 ⟨rfl, b1⟩
  have HB1 : Hid (Below w.heap.size w v1) := HW.out.trans (b1.mono HW.out.size)
  have HE1 := Lib.hid (HE.out.below b1)
  have HK1 := Lib.hid (HKK.out.below b1)
  have HZ1 := Lib.hid (HZZ.out.below b1)
  obtain ⟨d0, d1, d2, d3, d4, d5, d6, d7⟩ := HE1.out.cells
  have HHB := Lib.hid hb
  clear HW HKK HZZ HE b1 hW hb
  by_cases g1 : 40 < p
  · have i1 : (40 : Int) < (p : Int) := by omega
    go_wp2
    go_ret
    exact ⟨rfl, HB1.out⟩
  have i1 : ¬ (40 : Int) < (p : Int) := by omega
  by_cases g2 : 40 < n1
  · have i2 : (40 : Int) < (n1 : Int) := by omega
    go_wp2
    go_ret
    exact ⟨rfl, HB1.out⟩
  have i2 : ¬ (40 : Int) < (n1 : Int) := by omega
  by_cases g3 : 40 < m
  · have i3 : (40 : Int) < (m : Int) := by omega
    go_wp2
    go_ret
    exact ⟨rfl, HB1.out⟩
  have i3 : ¬ (40 : Int) < (m : Int) := by omega
  go_wp2_with fail
  refine (snapInner_walk HK1.out HZ1.out (by omega) (by omega)).mono ?_
  rintro e v2 ⟨u, v, rfl, hu, hv, b2⟩
  obtain ⟨F1, m1, f1, rfl⟩ := hu.shape
  obtain ⟨F2, m2, f2, rfl⟩ := hv.shape
  obtain rfl : m1 = m := by rw [hu.sl.len, HK1.out.len]
  obtain rfl : m2 = p := by rw [hv.sl.len, HZ1.out.len]
  obtain ⟨V, bq, hV, hq, hbV, hx, hbq⟩ : ∃ (V : World) (bq : Nat), v2.alloc (.cells #[.slice F1 m1 f1, .slice F2 m2 f2] inT) = V ∧ v2.heap.size = bq ∧ Below v2.heap.size v2 V ∧ Box V bq (.slice F1 m1 f1) (.slice F2 m2 f2) ∧ bq < V.heap.size :=
    ⟨_, _, rfl, rfl, below_new v2 _, Box.new v2 rfl _ _ _, by simp⟩
  have bV : Below v1.heap.size v1 V := b2.trans (hbV.mono b2.size)
  have HBV : Hid (Below w.heap.size w V) := HB1.out.trans (bV.mono HB1.out.size)
  have HEV := Lib.hid (HE1.out.below bV)
  have HZV := Lib.hid (HZ1.out.below bV)
  have HS := Lib.hid (lawSame_walk F1 F2 B C m1 f1 m2 f2 c q ks ws V (hu.sl.below hbV) (hv.sl.below hbV) (HK1.out.below bV) (HZ1.out.below bV) (by omega) (by omega))
  obtain ⟨x0, x1⟩ := hx
  have HQ := Lib.hid hq
  obtain ⟨y0, y1, y2, y3, y4, y5, y6, y7⟩ := HEV.out.cells
  clear HE1 HK1 HZ1 HB1 hu hv b2 hbV bV d0 d1 d2 d3 d4 d5 d6 d7
  go_upto_region 6 with fail
  (try rw [hV])
  clear hV hq
  go_wp2_with fail
  refine HS.out.mono ?_
  rintro e v3 ⟨rfl, b3⟩
  have HB3 : Hid (Below w.heap.size w v3) := HBV.out.trans (b3.mono HBV.out.size)
  have HE3 := Lib.hid (HEV.out.below b3)
  have HZ3 := Lib.hid (HZV.out.below b3)
  obtain ⟨d0, d1, d2, d3, d4, d5, d6, d7⟩ := HE3.out.cells
  have HG := Lib.hid (snapGoes_walk (rf := rf) (inf := inf) (x := x) (y := y) (pv := .slice B m1 c) (zv := zv) (P := P) (n1 := n1) (c1 := c1) (way := way) (r := r) HZ3.out (by omega))
  have HN := Lib.hid (snapSize_walk (rf := rf) (inf := inf) (x := x) (y := y) (pv := .slice B m1 c) (zv := zv) (P := P) (n1 := n1) (c1 := c1) (C := C) (p := m2) (q := q) (w := v3) (by omega) (by omega))
  clear HS HBV HEV HZV b3 x0 x1 y0 y1 y2 y3 y4 y5 y6 y7 HE3
  cases x
  all_goals
    go_wp2_with fail
    go_loopg [58, 9] m2 (fun gk iv gv wr => ∃ j : Nat, j + gk = m2 ∧ iv = .int .i64 (j : Int) ∧ gv = .bool (goesTo ws way r j) ∧ wr = v3)
    case atStart => exact ⟨0, by omega, rfl, by rw [goesTo_zero], rfl⟩
    case round =>
      obtain ⟨j, hj, rfl, rfl, rfl⟩ := hrel
      by_cases hlt : j < m2
      case neg =>
        have j1 : ¬ ((j : Int) < (m2 : Int)) := by omega
        obtain rfl : j = m2 := by omega
        go_wp2_with fail
        refine HN.out.mono ?_
        rintro e w8 ⟨rfl, b8⟩
        have d0' := below_read b8 d0
        have d1' := below_read b8 d1
        have d2' := below_read b8 d2
        have d3' := below_read b8 d3
        have d4' := below_read b8 d4
        have d5' := below_read b8 d5
        have d6' := below_read b8 d6
        have d7' := below_read b8 d7
        have HB8 : Hid (Below w.heap.size w w8) := HB3.out.trans (b8.mono HB3.out.size)
        have HG8 : Hid (∀ x, Calls Try.prog 30 #[snv rf inf x y (.slice P n1 c1) (.slice B m1 c) zv (.slice C j q), .int .i64 way, .int .i64 r] w8 fun e w' => e = .returned (.bool (goesTo ws way r j)) ∧ Below w8.heap.size w8 w') := fun x => snapGoes_walk (HZ3.out.below b8) (by omega)
        clear HN HG HB3 HZ3 b8 d0 d1 d2 d3 d4 d5 d6 d7
        go_wp2_with fail
        refine (HG8.out _).mono ?_
        rintro e w9 ⟨rfl, b9⟩
        have HB9 : Hid (Below w.heap.size w w9) := HB8.out.trans (b9.mono HB8.out.size)
        clear HG8 b9 HB8
        generalize goesTo ws way r j = gg at *
        go_wp2
        go_ret
        exact ⟨by first | rfl | simp, HB9.out⟩
      have i0 : (0 : Int) ≤ (j : Int) := by omega
      have j1 : (j : Int) < (m2 : Int) := by omega
      have hkw : IntKind.i64.wrap ((j : Int) + 1) = (j : Int) + 1 := IntWalk.i64_in _ (by omega)
      have hjl : j < ws.length := by have := HZ3.out.len; omega
      obtain ⟨ba, off, rfl, hbl, hcx⟩ := HZ3.out.at_ hjl
      have hze : ws[j]? = some ws[j] := List.getElem?_eq_getElem hjl
      generalize ws[j] = z at hcx hze
      cases hg : goesTo ws way r j with
      | true =>
        have HR := Lib.hid (goesTo_true hg)
        clear hg hze
        go_wp2
        go_roundg (gk - 1)
        case measure => omega
        case rel => exact ⟨j + 1, by omega, by go_num, by rw [HR.out], rfl⟩
      | false =>
        by_cases hw : (j : Int) = way
        · have HR := Lib.hid (goesTo_at (r := r) hze)
          have HWY := Lib.hid hw
          have hwb : ((j : Int) == way) = true := by rw [hw]; exact beq_self_eq_true _
          clear hg hze hw
          go_wp2
          go_roundg (gk - 1)
          case measure => omega
          case rel => exact ⟨j + 1, by omega, by go_num, by rw [← HWY.out, HR.out] <;> first | rfl | simp, rfl⟩
        · have HR := Lib.hid (goesTo_off hg hw)
          have hwb : ((j : Int) == way) = false := by simpa using hw
          clear hg hze
          go_wp2
          go_roundg (gk - 1)
          case measure => omega
          case rel => exact ⟨j + 1, by omega, by go_num, by rw [HR.out], rfl⟩
end Go.Proofs.Ytieebiblpcciaaa
