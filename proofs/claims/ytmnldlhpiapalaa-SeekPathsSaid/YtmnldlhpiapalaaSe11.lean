/-
  Law SeekPaths, of any plan whose Shape comes to what it should.
-/
import Derived.Test.YtmnldlhpiapalaaPh
import Derived.Test.YtmnldlhpiapalaaTx11
import Derived.Deep.Cut
namespace Go.Proofs.Ytmnldlhpiapalaa
open Go.ChangeShapes Go.WideShapes Go.ChangeAt Go.RowKit
set_option linter.unusedVariables false
set_option linter.unusedSimpArgs false
set_option maxRecDepth 20000

set_option maxHeartbeats 4000000 in
theorem seekPaths_of (HSC : ShapeC) (pl : Value) (n0 n1 n2 n3 n4 b : Nat) (key : Int) (w : World) (hp : PlanR w pl n0 n1 n2 n3 n4) (hb : b < 256) :
    Calls Try.prog 6 #[pl, .int .u8 (b : Int), .int .i64 key] w fun e w' => e = .returned (.bool true) ∧ Below w.heap.size w w' := by
  obtain ⟨A0, c0, ks, A1, c1, l1, A2, c2, l2, A3, c3, l3, A4, c4, l4, rfl, -⟩ := id hp
  have HP0 := Lib.hid hp
  obtain ⟨X, p, hX, hpx, bX, x0, x1, x2, x3, x4⟩ := plan_box w (.slice A0 n0 c0) (.slice A1 n1 c1) (.slice A2 n2 c2) (.slice A3 n3 c3) (.slice A4 n4 c4)
  have HBX := Lib.hid bX
  have HX0 : Hid (∀ w', Below X.heap.size X w' → w'.cell? ⟨p, 0, none⟩ = some (.slice A0 n0 c0) ∧ w'.cell? ⟨p, 1, none⟩ = some (.slice A1 n1 c1) ∧ w'.cell? ⟨p, 2, none⟩ = some (.slice A2 n2 c2) ∧ w'.cell? ⟨p, 3, none⟩ = some (.slice A3 n3 c3) ∧ w'.cell? ⟨p, 4, none⟩ = some (.slice A4 n4 c4)) := fun w' h => ⟨below_read h x0, below_read h x1, below_read h x2, below_read h x3, below_read h x4⟩
  clear bX hp
  go_enter Try.func6, Try.ntmps6
  go_wp2_with fail
  (try rw [hX]); (try rw [hpx])
  clear hX hpx x0 x1 x2 x3 x4
  refine (awake11_walk X).mono ?_
  rintro e v1 ⟨rfl, b1⟩
  obtain ⟨y0, y1, y2, y3, y4⟩ := HX0.out v1 b1
  have HB1 := Lib.hid b1
  have HLI := Lib.hid (light_walk (w := v1) A0 A1 A2 A3 A4 n0 c0 n1 c1 n2 c2 n3 c3 n4 c4)
  clear b1
  go_wp2_with fail
  refine HLI.out.mono ?_
  clear HLI y0 y1 y2 y3 y4
  rintro e v2 ⟨lb, rfl, hlb, b2⟩
  have HB2 : Hid (Below X.heap.size X v2) := HB1.out.trans (b2.mono HB1.out.size)
  have HBW2 : Hid (Below w.heap.size w v2) := HBX.out.trans (HB2.out.mono HBX.out.size)
  clear b2 HB1
  cases lb with
  | false =>
    clear hlb
    go_wp2
    go_ret
    exact ⟨rfl, HBW2.out⟩
  | true =>
    have HLB := Lib.hid (hlb rfl)
    clear hlb
    obtain ⟨y0, y1, y2, y3, y4⟩ := HX0.out v2 HB2.out
    go_upto_region 5 with fail
    have HPL2 := Lib.hid (HP0.out.below HBW2.out)
    clear y0 y1 y2 y3 y4
    go_cut [7] from 22 to 25 (fun t7 wx => ∃ q, t7 = .pointer (some ⟨q, 0, none⟩) ∧ Hid (ShpV v2 q wx))
    case first =>
      obtain ⟨X0, hX0, bX0⟩ : ∃ X0 : World, v2.drew = X0 ∧ Below v2.heap.size v2 X0 := ⟨_, rfl, (Below.refl _ v2).drew⟩
      have HX1 : Hid (∀ w', Below X0.heap.size X0 w' → w'.cell? ⟨p, 0, none⟩ = some (.slice A0 n0 c0) ∧ w'.cell? ⟨p, 1, none⟩ = some (.slice A1 n1 c1) ∧ w'.cell? ⟨p, 2, none⟩ = some (.slice A2 n2 c2) ∧ w'.cell? ⟨p, 3, none⟩ = some (.slice A3 n3 c3) ∧ w'.cell? ⟨p, 4, none⟩ = some (.slice A4 n4 c4)) := fun w' h => HX0.out w' (HB2.out.trans ((bX0.trans (h.mono bX0.size)).mono HB2.out.size))
      have HPX := Lib.hid (HPL2.out.below bX0)
      refine region_T (fun k => k == 5) (fun w' : World => w'.cell? ⟨p, 0, none⟩ = some (.slice A0 n0 c0) ∧ w'.cell? ⟨p, 1, none⟩ = some (.slice A1 n1 c1) ∧ w'.cell? ⟨p, 2, none⟩ = some (.slice A2 n2 c2) ∧ w'.cell? ⟨p, 3, none⟩ = some (.slice A3 n3 c3) ∧ w'.cell? ⟨p, 4, none⟩ = some (.slice A4 n4 c4)) (by kernel_rfl) ?_
      rw [hX0]
      clear hX0
      have hC := HX1.out X0 (Below.refl _ X0)
      refine takeX 0 22 (v := ?_) rfl rfl (by kernel_rfl) (by kernel_rfl) (by kernel_rfl) (by kernel_rfl) (by kernel_rfl) (fun _ _ _ _ h => h) hC (by rfl) ?_ ?_
      rotate_left
      · intro w hSw; (try dsimp only at hSw); go_simp; try (with_reducible rfl)
      simp only [List.setIfInBounds_toArray, List.set_cons_zero, List.set_cons_succ]
      refine takeX 1 23 (v := ?_) rfl rfl (by kernel_rfl) (by kernel_rfl) (by kernel_rfl) (by kernel_rfl) (by kernel_rfl) (fun _ _ _ _ h => h) hC (by rfl) ?_ ?_
      rotate_left
      · intro w hSw; (try dsimp only at hSw); go_simp; try (with_reducible rfl)
      simp only [List.setIfInBounds_toArray, List.set_cons_zero, List.set_cons_succ]
      refine twoT (i := 2) (j := 4) (by kernel_rfl) rfl rfl (by rfl) (by rfl) (fun K hK => ?_) (fun K hK => ?_)
      · go_simp
        refine (wide_walk (w := X0) b hb).mono ?_
        rintro e wq ⟨z, rfl, hz1, hz2, -, rfl⟩
        have HZ1 := Lib.hid hz1
        have HZ2 := Lib.hid hz2
        refine hK.out _ _ (fun _ => hC) ?_
        clear hK K hz1 hz2
        try simp only [Act.put, List.setIfInBounds_toArray, List.set_cons_zero, List.set_cons_succ]
        refine twoT (i := 3) (j := 4) (by kernel_rfl) rfl rfl (by rfl) (by rfl) (fun K hK => ?_) (fun K hK => ?_)
        · go_simp
          refine (HSC X0 _ n0 n1 n2 n3 n4 z HPX.out HLB.out ⟨HZ1.out, HZ2.out⟩).mono ?_
          rintro e wS ⟨s, v, rfl, hS, hGood, bS⟩
          obtain ⟨lf, tg, A, n, k, B, m, e', C, pp, c, rfl⟩ := shY_form hS
          refine hK.out _ _ (fun _ => HX1.out wS bS) ?_
          clear hK K
          try simp only [Act.put, List.setIfInBounds_toArray, List.set_cons_zero, List.set_cons_succ]
          refine oneT (i := 4) (by kernel_rfl) rfl (by rfl) (fun K hK => ?_)
          go_simp
          obtain ⟨V, q, hV, hq, bV, eV, sV⟩ := Shc.new wS (.bool false) (.bool false) (.slice none 0 0) (.slice none 0 0) (.slice none 0 0)
          (try rw [hV]); (try rw [hq])
          refine hK.out _ _ (fun _ => HX1.out _ (bS.trans (bV.mono bS.size))) ?_
          clear hK K hV
          try simp only [Act.put, List.setIfInBounds_toArray, List.set_cons_zero, List.set_cons_succ]
          have bAll : Below v2.heap.size v2 V := (bX0.trans (bS.mono bX0.size)).trans (bV.mono (bX0.trans (bS.mono bX0.size)).size)
          have hE := shp_end (v := v2) bAll eV (by have := bX0.size; have := bS.size; omega) (ShY.keep (fun b f => bV.block b f.2) (fun b f => f) _ _ hS) (fun b f => ⟨by have := bX0.size; have := f.1; omega, by have := f.2; have := bV.size; omega⟩) (fun f => by have := f.2; omega) hGood
          obtain ⟨c0', c1', c2', c3', c4'⟩ := eV.cells
          obtain ⟨f0', f1', f2', f3', f4'⟩ := eV.frees
          refine oneT (i := 5) (by kernel_rfl) rfl (by rfl) (fun K hK => ?_)
          go_simp
          refine hK.out _ _ (fun h => absurd h (by decide)) ?_
          clear hK K
          try simp only [Act.put, List.setIfInBounds_toArray, List.set_cons_zero, List.set_cons_succ]
          refine doneT (by kernel_rfl) ?_
          have HE := Lib.hid hE
          clear hE
          go_wp2_with fail
          go_meet
          exact ⟨q, rfl, HE.out⟩
        · go_simp
          obtain ⟨V, q, hV, hq, bV, eV, sV⟩ := Shc.new X0 (.bool false) (.bool false) (.slice none 0 0) (.slice none 0 0) (.slice none 0 0)
          (try rw [hV]); (try rw [hq])
          refine hK.out _ _ (fun _ => HX1.out _ bV) ?_
          clear hK K hV
          try simp only [Act.put, List.setIfInBounds_toArray, List.set_cons_zero, List.set_cons_succ]
          refine oneT (i := 3) (by kernel_rfl) rfl (by rfl) (fun K hK => ?_)
          go_simp
          refine (HSC V _ n0 n1 n2 n3 n4 z (HPX.out.below bV) HLB.out ⟨HZ1.out, HZ2.out⟩).mono ?_
          rintro e wS ⟨s, v, rfl, hS, hGood, bS⟩
          obtain ⟨lf, tg, A, n, k, B, m, e', C, pp, c, rfl⟩ := shY_form hS
          refine hK.out _ _ (fun _ => HX1.out wS (bV.trans (bS.mono bV.size))) ?_
          clear hK K
          try simp only [Act.put, List.setIfInBounds_toArray, List.set_cons_zero, List.set_cons_succ]
          have bAll : Below v2.heap.size v2 wS := (bX0.trans (bV.mono bX0.size)).trans (bS.mono (bX0.trans (bV.mono bX0.size)).size)
          have eS := eV.below bS
          have hE := shp_end (v := v2) bAll eS (by have := bX0.size; omega) hS (fun b f => ⟨by have := bX0.size; have := bV.size; have := f.1; omega, f.2⟩) (fun f => by have := f.1; omega) hGood
          obtain ⟨c0', c1', c2', c3', c4'⟩ := eS.cells
          obtain ⟨f0', f1', f2', f3', f4'⟩ := eS.frees
          refine oneT (i := 5) (by kernel_rfl) rfl (by rfl) (fun K hK => ?_)
          go_simp
          refine hK.out _ _ (fun h => absurd h (by decide)) ?_
          clear hK K
          try simp only [Act.put, List.setIfInBounds_toArray, List.set_cons_zero, List.set_cons_succ]
          refine doneT (by kernel_rfl) ?_
          have HE := Lib.hid hE
          clear hE
          go_wp2_with fail
          go_meet
          exact ⟨q, rfl, HE.out⟩
      · go_simp
        obtain ⟨V, q, hV, hq, bV, eV, sV⟩ := Shc.new X0 (.bool false) (.bool false) (.slice none 0 0) (.slice none 0 0) (.slice none 0 0)
        (try rw [hV]); (try rw [hq])
        refine hK.out _ _ (fun _ => HX1.out _ bV) ?_
        clear hK K hV
        try simp only [Act.put, List.setIfInBounds_toArray, List.set_cons_zero, List.set_cons_succ]
        refine oneT (i := 2) (by kernel_rfl) rfl (by rfl) (fun K hK => ?_)
        go_simp
        refine (wide_walk (w := V) b hb).mono ?_
        rintro e wq ⟨z, rfl, hz1, hz2, -, rfl⟩
        have HZ1 := Lib.hid hz1
        have HZ2 := Lib.hid hz2
        refine hK.out _ _ (fun _ => HX1.out _ bV) ?_
        clear hK K hz1 hz2
        try simp only [Act.put, List.setIfInBounds_toArray, List.set_cons_zero, List.set_cons_succ]
        refine oneT (i := 3) (by kernel_rfl) rfl (by rfl) (fun K hK => ?_)
        go_simp
        refine (HSC V _ n0 n1 n2 n3 n4 z (HPX.out.below bV) HLB.out ⟨HZ1.out, HZ2.out⟩).mono ?_
        rintro e wS ⟨s, v, rfl, hS, hGood, bS⟩
        obtain ⟨lf, tg, A, n, k, B, m, e', C, pp, c, rfl⟩ := shY_form hS
        refine hK.out _ _ (fun _ => HX1.out wS (bV.trans (bS.mono bV.size))) ?_
        clear hK K
        try simp only [Act.put, List.setIfInBounds_toArray, List.set_cons_zero, List.set_cons_succ]
        have bAll : Below v2.heap.size v2 wS := (bX0.trans (bV.mono bX0.size)).trans (bS.mono (bX0.trans (bV.mono bX0.size)).size)
        have eS := eV.below bS
        have hE := shp_end (v := v2) bAll eS (by have := bX0.size; omega) hS (fun b f => ⟨by have := bX0.size; have := bV.size; have := f.1; omega, f.2⟩) (fun f => by have := f.1; omega) hGood
        obtain ⟨c0', c1', c2', c3', c4'⟩ := eS.cells
        obtain ⟨f0', f1', f2', f3', f4'⟩ := eS.frees
        refine oneT (i := 5) (by kernel_rfl) rfl (by rfl) (fun K hK => ?_)
        go_simp
        refine hK.out _ _ (fun h => absurd h (by decide)) ?_
        clear hK K
        try simp only [Act.put, List.setIfInBounds_toArray, List.set_cons_zero, List.set_cons_succ]
        refine doneT (by kernel_rfl) ?_
        have HE := Lib.hid hE
        clear hE
        go_wp2_with fail
        go_meet
        exact ⟨q, rfl, HE.out⟩
    case rest =>
      obtain ⟨q, rfl, HSP⟩ := hcut
      obtain ⟨s, Y, ⟨lf, tg, A, n, k, B, m, e', C, pp, c, hq, hS⟩, hGood, hbw, hge, hr, nq⟩ := HSP.out
      clear HSP
      have HG := Lib.hid hGood
      have HBW := Lib.hid hbw
      have HGE := Lib.hid hge
      have HNQ : Hid (¬ Y q) := nq
      go_upto_region 6 with fail
      obtain ⟨V, hV, bV⟩ : ∃ V : World, wc.drew = V ∧ Below wc.heap.size wc V := ⟨_, rfl, (Below.refl _ wc).drew⟩
      have HQ := Lib.hid (hq.below bV)
      have hSV : ShY Y V s (shv lf tg (.slice A n k) (.slice B m e') (.slice C pp c)) := ShY.keep (fun b f => bV.block b (hr b f).2) (fun b f => f) _ _ hS
      have HR : Hid (∀ b, Y b → b < V.heap.size) := fun b f => Nat.lt_of_lt_of_le (hr b f).2 bV.size
      have HSV := Lib.hid hSV
      have HBV : Hid (Below v2.heap.size v2 V) := hbw.trans (bV.mono hbw.size)
      have hC := HQ.out.cells
      clear hq hS hGood hbw hge nq hSV bV hr
      refine region_T (fun _ => false) (fun w' : World => w'.cell? ⟨q, 0, none⟩ = some (.bool lf) ∧ w'.cell? ⟨q, 1, none⟩ = some (.bool tg) ∧ w'.cell? ⟨q, 2, none⟩ = some (.slice A n k) ∧ w'.cell? ⟨q, 3, none⟩ = some (.slice B m e') ∧ w'.cell? ⟨q, 4, none⟩ = some (.slice C pp c)) (by kernel_rfl) ?_
      rw [hV]
      clear hV
      refine takeX 0 26 (v := ?_) rfl rfl (by kernel_rfl) (by kernel_rfl) (by kernel_rfl) (by kernel_rfl) (by kernel_rfl) (fun _ _ _ _ h => h) hC (by rfl) ?_ ?_
      rotate_left
      · intro w hSw; (try dsimp only at hSw); go_simp; try (with_reducible rfl)
      simp only [List.setIfInBounds_toArray, List.set_cons_zero, List.set_cons_succ]
      refine takeX 2 28 (v := ?_) rfl rfl (by kernel_rfl) (by kernel_rfl) (by kernel_rfl) (by kernel_rfl) (by kernel_rfl) (fun _ _ _ _ h => h) hC (by rfl) ?_ ?_
      rotate_left
      · intro w hSw; (try dsimp only at hSw); go_simp; try (with_reducible rfl)
      simp only [List.setIfInBounds_toArray, List.set_cons_zero, List.set_cons_succ]
      refine oneT (i := 1) (by kernel_rfl) rfl (by rfl) (fun K hK => ?_)
      go_simp
      refine (wide_walk (w := V) b hb).mono ?_
      rintro e wq ⟨z, rfl, hz1, hz2, -, rfl⟩
      refine hK.out _ _ (fun _ => hC) ?_
      clear hK K
      try simp only [Act.put, List.setIfInBounds_toArray, List.set_cons_zero, List.set_cons_succ]
      refine oneT (i := 3) (by kernel_rfl) rfl (by rfl) (fun K hK => ?_)
      go_simp
      have hwld := world_walk (a := 2) (b := (z : Int)) (t := 1) (room := 0) (rec := 1) HG.out.small (ShY.low HR.out _ _ HSV.out) (Nat.le_refl _) (by omega) (by omega) (by omega) (by omega) (by have := HG.out.many; omega) (by omega)
      obtain ⟨M, hM⟩ : ∃ M, ((2 : Int) + s.many + 0).toNat = M := ⟨_, rfl⟩
      have HMM := Lib.hid hM
      rw [hM] at hwld
      refine hwld.mono ?_
      clear hwld hM
      intro e w4 hWW
      obtain ⟨d, rfl, hen, hM4, b4⟩ := mb_begin HBV.out (Array.getElem?_eq_some_iff.1 HQ.out).1 HR.out hWW
      have HQ4 := Lib.hid (HQ.out.below b4)
      refine hK.out _ _ (fun _ => HQ4.out.cells) ?_
      clear hK K hC
      try simp only [Act.put, List.setIfInBounds_toArray, List.set_cons_zero, List.set_cons_succ]
      have hC := HQ4.out.cells
      refine takeX 4 8 (v := ?_) rfl rfl (by kernel_rfl) (by kernel_rfl) (by kernel_rfl) (by kernel_rfl) (by kernel_rfl) (fun _ _ _ _ h => h) hC (by rfl) ?_ ?_
      rotate_left
      · intro w hSw; (try dsimp only at hSw); go_simp; try (with_reducible rfl)
      simp only [List.setIfInBounds_toArray, List.set_cons_zero, List.set_cons_succ]
      refine doneT (by kernel_rfl) ?_
      have HSV4 : Hid (ShY Y w4 s (shv lf tg (.slice A n k) (.slice B m e') (.slice C pp c))) := ShY.keep (fun b f => b4.block b (HR.out b f)) (fun b f => f) _ _ HSV.out
      have HM4 := Lib.hid hM4
      have HEN := Lib.hid hen
      have g5 := hM4.cells.2.2.2.2.2
      rw [hen] at g5
      clear hWW hC hM4 hen b4 HQ HSV
      obtain ⟨r11, hr11⟩ : ∃ r, Go.Proofs.Ytmnldlhpiapalaa.mk 1 1 = r := ⟨_, rfl⟩
      have HR11 := Lib.hid hr11
      rw [hr11] at g5
      obtain ⟨Z, g, hZ, hg, bZ⟩ : ∃ (Z : World) (g : Nat), w4.alloc (.cells #[.int .i64 r11, .int .i64 0, .int .i64 0] i6T) = Z ∧ w4.heap.size = g ∧ Below w4.heap.size w4 Z := ⟨_, _, rfl, rfl, below_new _ _⟩
      have hB0 := spb_begin (x := s) HM4.out ⟨lf, tg, A, n, k, B, m, e', C, pp, c, HQ4.out, HSV4.out⟩ HNQ.out HGE.out hZ hg
      have hwe := SPB.wayEn hB0.mb (by have := HG.out.many; omega)
      obtain ⟨r2, hr2⟩ : ∃ r, refS 2 s = r := ⟨_, rfl⟩
      have HR2 := Lib.hid hr2
      rw [hr11, hr2] at hwe
      have HWE := Lib.hid hwe
      have HB0 := Lib.hid hB0
      have g5Z := below_read bZ g5
      have g0Z := hB0.mb.cells.1
      clear hB0 hwe bZ hr11 hr2 HQ4 HSV4 HM4
      go_upto_region 8 with fail
      (try rw [hZ]); (try rw [hg])
      clear hZ hg g5
      go_quiet (first | (go_at_call 21; exact HWE.out _) | fail)
      have HB1 := Lib.hid (HB0.out.below (below_drewN (Below.refl _ Z) nq))
      obtain ⟨Z1, hZ1⟩ : ∃ Z1, Z.drewN nq = Z1 := ⟨_, rfl⟩
      rw [hZ1] at HB1
      (try rw [hZ1])
      clear hZ1 g5Z g0Z HB0 HWE
      go_wp2_with fail
      go_loopg [9, 10, 11] s.deep (fun gk tv rv nv wr => ∃ (i : Nat) (x : Sh) (acc : List Sp) (A9 : Option Addr) (n9 c9 : Nat), tv = .slice A9 n9 c9 ∧ rv = .int .i64 (refS i x) ∧ nv = .int .i64 (acc.length : Int) ∧ acc.length + gk = s.deep + 1 ∧ 1 ≤ acc.length ∧ Hid (SPB v2 d q Y (plantSig M 1 s) x (.slice A9 n9 c9) (flatS acc) wr ∧ Sg s i x ∧ pathS (ndsT s) key (plantSig M 1 s) (s.deep + 2) m11 = acc ++ pathS (ndsT s) key (plantSig M 1 s) (gk + 1) (refS i x) ∧ x.deep ≤ gk))
      case atStart =>
        refine ⟨2, s, [⟨m11, entryNd, 0⟩], _, _, _, rfl, ?_, rfl, by simp; omega, by simp, ?_, ⟨Seg.root s, HG.out.wf, HG.out.small⟩, entry_here (by have := HG.out.many; omega), Nat.le_refl _⟩
        · rw [HR2.out]
        · have h := HB1.out
          rw [← HR11.out] at h
          exact h
      case round =>
        clear HB1
        obtain ⟨i, x, acc, A9, n9, c9, rfl, rfl, rfl, hacc, hac1, HH⟩ := hrel
        obtain ⟨lf', tg', ps, ks, kids⟩ := x
        obtain ⟨hSP, hSg, hPa, hDp⟩ := HH.out
        obtain ⟨A5, n5, k5, B5, m5, e5, C5, p5, c5, hq5, hn5, hm5, hp5, hsl5, hkid⟩ := hSP.open_
        obtain ⟨y0, y1, y2, y3, y4⟩ := hq5.cells
        cases lf' with
        | true =>
          have hmany : s.many ≤ 50000 := by have := HG.out.many; omega
          have hle := leaf_here (m := M) (key := key) (f := gk) hSg hmany
          have hfull : pathS (ndsT s) key (plantSig M 1 s) (s.deep + 2) m11 = acc ++ [⟨refS i (.mk true tg' ps ks kids), ndS (.mk true tg' ps ks kids) i, 0⟩] := by rw [hPa, hle]
          have hcn : Go.Proofs.Ytmnldlhpiapalaa.cntN (ndS (.mk true tg' ps ks kids) i) = -1 - (n5 : Int) := by rw [hn5]; rfl
          have hfl : flatS (acc ++ [⟨refS i (.mk true tg' ps ks kids), ndS (.mk true tg' ps ks kids) i, 0⟩]) = flatS acc ++ [refS i (.mk true tg' ps ks kids), 0, -1 - (n5 : Int)] := by rw [flatS_snoc, hcn]
          obtain ⟨full, hfu⟩ : ∃ full, acc ++ [(⟨refS i (.mk true tg' ps ks kids), ndS (.mk true tg' ps ks kids) i, 0⟩ : Sp)] = full := ⟨_, rfl⟩
          have hful : full.length = acc.length + 1 := by rw [← hfu]; simp
          rw [hfu] at hfull hfl
          have hlen : (flatS acc).length ≤ 2000 := by rw [flatS_len]; have := HG.out.deep; omega
          obtain ⟨r, hr⟩ : ∃ r, refS i (.mk true tg' ps ks kids) = r := ⟨_, rfl⟩
          have hn5b : n5 ≤ 100 := by rw [hn5]; exact hSg.small.1
          have hwr : IntKind.i64.wrap (-1 - (n5 : Int)) = -1 - (n5 : Int) := IntWalk.i64_in _ (by omega)
          obtain ⟨u, hu⟩ : ∃ u, wr.heap.size = u := ⟨_, rfl⟩
          obtain ⟨A6, n6, c6, Z6, happ, hP6⟩ := hSP.push (z1 := r) (z2 := 0) (z3 := -1 - (n5 : Int)) hlen hu
          rw [hr] at hfl
          rw [← hfl] at hP6
          have hM2 : M = 2 + s.many := by have := HMM.out; omega
          have HWK := Lib.hid (spb_walker (key := key) hP6 HG.out HEN.out hM2)
          have HP6 := Lib.hid hP6
          have HFU := Lib.hid hfull
          have HFUL := Lib.hid hful
          have HAC := Lib.hid hacc
          have HA1 := Lib.hid hac1
          have HN5 := Lib.hid hn5
          (try rw [hr])
          clear HH hSP hSg hPa hDp hkid hsl5 hmany hle hfull hcn hfl hfu hful hlen hP6 hM2 hq5 hn5 hm5 hp5 hacc hac1 hr hn5b
          go_wp2_with (at_builtin; refine Lib.wpList_append_run _ rfl _ _ _ _ rfl _ _ rfl rfl _ _ happ ?_)
          refine HWK.out.mono ?_
          clear HWK happ hu y0 y1 y2 y3 y4
          rintro e w8 ⟨a, b8, rfl, hM8, hb8⟩
          have hrow : Row i6T 0 w8 (.slice A6 n6 c6) (flatS full) := own_at HP6.out.row fun p f => hb8.block p (World.ownsRow.lt HP6.out.row p f).2
          have HAL := Lib.hid (spb_alone (N := acc.length) hM8 hrow HG.out HFU.out HFUL.out ⟨HA1.out, by have := HAC.out; have := HG.out.deep; omega⟩)
          clear hM8 hrow hb8
          go_wp2_with fail
          refine HAL.out.mono ?_
          clear HAL
          rintro e w9 ⟨A9', m9, c9', rfl, hr9, hE9⟩
          have hs1 := hr9.sl
          have hs2 := hE9.2.sl
          obtain rfl : m9 = n6 := by rw [hs1.len, hs2.len]
          have HF9 := Lib.hid hE9.faults
          have g09 : w9.cell? ⟨d.W, 0, none⟩ = some (ptr d.A) := by
            obtain ⟨⟨X, n, hs, os, Tn, hm⟩, -⟩ := hE9
            exact hm.cells.1
          have HEND : Hid (Below w.heap.size w w9) := by
            obtain ⟨⟨X, n, hs, os, Tn, hm⟩, -⟩ := hE9
            exact HBW2.out.trans (hm.bel.mono HBW2.out.size)
          have HS1 := Lib.hid hs1
          have HS2 := Lib.hid hs2
          have hlL := hs1.len
          have hlb : m9 ≤ 1000 := by rw [hlL, flatS_len]; have := HFUL.out; have := HAC.out; have := HG.out.deep; omega
          have HLL := Lib.hid hlL
          clear hr9 hE9 hs1 hs2 hlL
          go_wp2_with fail
          refine HF9.out.mono ?_
          rintro e w10 ⟨rfl, rfl⟩
          clear HF9 g09
          go_wp2_with fail
          go_loopg [112] m9 (fun gk2 iv wr2 => ∃ j t : Nat, j + gk2 = m9 ∧ iv = .int .i64 (j : Int) ∧ wr2 = w9.drewN t)
          case atStart => exact ⟨0, 0, by omega, rfl, rfl⟩
          case round =>
            obtain ⟨j, t, hj, rfl, rfl⟩ := hrel
            by_cases hlt : j < m9
            case neg =>
              have j1 : ¬ ((j : Int) < (m9 : Int)) := by omega
              go_wp2
              go_ret
              exact ⟨rfl, below_drewN HEND.out _⟩
            have j1 : (j : Int) < (m9 : Int) := by omega
            have j0 : (0 : Int) ≤ (j : Int) := by omega
            have hkw : IntKind.i64.wrap ((j : Int) + 1) = (j : Int) + 1 := IntWalk.i64_in _ (by omega)
            have hjl : j < (flatS full).length := by rw [← HLL.out]; exact hlt
            obtain ⟨ga, oa, rfl, hba, ca⟩ := HS1.out.at_ hjl
            obtain ⟨gb, ob, rfl, hbb, cb⟩ := HS2.out.at_ hjl
            generalize (flatS full)[j] = zz at *
            clear hjl
            go_wp2_with fail
            go_quiet (fail)
            go_wp2
            go_roundg (m9 - (j + 1))
            case measure => omega
            case rel => exact ⟨j + 1, _, by omega, by go_num, rfl⟩
        | false =>
          have hmany : s.many ≤ 50000 := by have := HG.out.many; omega
          obtain ⟨f, hf⟩ : ∃ f, gk = f + 1 := by
            rcases hSg.wf.1 with ⟨e, -⟩ | ⟨-, e⟩
            · cases e
            · cases kids with
              | nil => simp at e
              | cons a l =>
                have h1 : (Sh.mk false tg' ps ks (a :: l)).deep = max (a.deep + 1) (Sh.deepL l) := rfl
                exact ⟨gk - 1, by omega⟩
          subst hf
          obtain ⟨kk, x', hk, hkw, hwy, hwa, hpath⟩ := step_down (m := M) (key := key) (f := f + 1) hSg hmany
          have hdx : x'.deep ≤ f := by
            have := deep_lt (List.mem_of_getElem? hk)
            have h1 : (Sh.mk false tg' ps ks kids).deep = Sh.deepL kids := rfl
            omega
          have hSg2 := hSg.kid hk
          have hks : ks.length ≤ 100 := hSg.small.2.1
          have HWA := Lib.hid (shWay_walk (w := wr) (A := A5) (C := C5) (n := n5) (k := k5) (p := p5) (c := c5) (lf := false) (tg := tg') (key := key) hsl5 (by omega))
          rw [← hkw] at HWA
          have hcn : Go.Proofs.Ytmnldlhpiapalaa.cntN (ndS (.mk false tg' ps ks kids) i) = (m5 : Int) := by rw [hm5]; rfl
          have hfl : flatS (acc ++ [⟨refS i (.mk false tg' ps ks kids), ndS (.mk false tg' ps ks kids) i, (kk : Int)⟩]) = flatS acc ++ [refS i (.mk false tg' ps ks kids), (kk : Int), (m5 : Int)] := by rw [flatS_snoc, hcn]
          have hpa2 : pathS (ndsT s) key (plantSig M 1 s) (s.deep + 2) m11 = (acc ++ [⟨refS i (.mk false tg' ps ks kids), ndS (.mk false tg' ps ks kids) i, (kk : Int)⟩]) ++ pathS (ndsT s) key (plantSig M 1 s) (f + 1) (refS (i + Sh.manyL (kids.take kk)) x') := by rw [hPa, hpath]; simp
          obtain ⟨r, hr⟩ : ∃ r, refS i (.mk false tg' ps ks kids) = r := ⟨_, rfl⟩
          obtain ⟨r', hr'⟩ : ∃ r', refS (i + Sh.manyL (kids.take kk)) x' = r' := ⟨_, rfl⟩
          have hlen : (flatS acc).length ≤ 2000 := by rw [flatS_len]; have := HG.out.deep; omega
          have HSP := Lib.hid hSP
          have HSG := Lib.hid hSg
          have HSG2 := Lib.hid hSg2
          have HFL := Lib.hid hfl
          have HPA := Lib.hid hpa2
          have HWY := Lib.hid hwa
          have HK := Lib.hid hk
          have HDX := Lib.hid hdx
          have HLN := Lib.hid hlen
          have HR := Lib.hid hr
          have HR' := Lib.hid hr'
          have HMY := Lib.hid hmany
          have HM5 := Lib.hid hm5
          have HAC := Lib.hid hacc
          (try rw [hr])
          clear HH hSP hSg hPa hDp hkid hsl5 hSg2 hfl hpa2 hwa hk hdx hlen hmany hpath hwy hcn hq5 hn5 hp5 hks hr hr' hkw hm5 hacc
          go_wp2_with fail
          refine HWA.out.mono ?_
          rintro e w5 ⟨rfl, b5⟩
          have HSP5 := Lib.hid (HSP.out.below b5)
          obtain ⟨u, hu⟩ : ∃ u, w5.heap.size = u := ⟨_, rfl⟩
          obtain ⟨A6, n6, c6, Z6, happ, hP6⟩ := HSP5.out.push (z1 := r) (z2 := (kk : Int)) (z3 := (m5 : Int)) HLN.out hu
          have y3' := below_read b5 y3
          clear HWA HSP b5 y0 y1 y2 y3 y4
          obtain ⟨A7, n7, k7, B7, m7, e7, C7, p7, c7, hq7, hn7, hm7, hp7, hsl7, hkid7⟩ := hP6.open_
          have hWay := hP6.way HSG.out HMY.out HWY.out
          rw [HR.out, HR'.out] at hWay
          obtain ⟨g7, off7, rfl, hY7, hC7⟩ : ∃ g off, C7 = some ⟨g, off, none⟩ ∧ Y g ∧ ShYC Y Z6 kids g off := by
            rcases hkid7 with e | e
            · exfalso
              have := HK.out
              rw [e] at this
              cases this
            · exact e
          obtain ⟨lf8, tg8, A8, n8, c8, B8, m8, e8, C8, p8, c28, d0, d1, d2, d3, d4, hP8⟩ := hP6.kid hC7 HK.out
          obtain ⟨x0, x1, x2, x3, x4⟩ := hq7.cells
          obtain ⟨f0, f1, f2, f3, f4⟩ := hq7.frees
          have g0 := hP6.mb.cells.1
          have hklt : kk < p7 := by rw [hp7]; exact (List.getElem?_eq_some_iff.1 HK.out).1
          have HP7 := Lib.hid hp7
          clear hp7
          have i0 : (0 : Int) ≤ (kk : Int) := by omega
          have i1 : (kk : Int) < (p7 : Int) := by omega
          obtain ⟨Z8, hZ8⟩ : ∃ Z8, put5 Z6 q (.bool lf8) (.bool tg8) (.slice A8 n8 c8) (.slice B8 m8 e8) (.slice C8 p8 c28) = Z8 := ⟨_, rfl⟩
          rw [hZ8] at hP8
          have HP8 := Lib.hid hP8
          have HWay := Lib.hid hWay
          have hne : g7 ≠ q := fun e => HNQ.out (e ▸ hY7)
          have hkw3 : IntKind.i64.wrap ((acc.length : Int) + 1) = ((acc.length + 1 : Nat) : Int) := by rw [IntWalk.i64_in _ (by have := HG.out.deep; have := HAC.out; omega)]; omega
          clear hP6 hP8 hWay hkid7 hC7 hq7 hsl7 hn7 hm7
          go_wp2_with (at_builtin; refine Lib.wpList_append_run _ rfl _ _ _ _ rfl _ _ rfl rfl _ _ happ ?_)
          refine HWay.out.mono ?_
          rintro e w7 ⟨rfl, rfl⟩
          clear HWay happ
          go_wp2
          (try rw [hZ8])
          have HEND : Hid (SPB v2 d q Y (plantSig M 1 s) x' (.slice A6 n6 c6) (flatS (acc ++ [⟨refS i (.mk false tg' ps ks kids), ndS (.mk false tg' ps ks kids) i, (kk : Int)⟩])) Z8) := by
            have h := HP8.out
            rw [← HR.out, ← HFL.out] at h
            exact h
          go_roundg f
          case measure => omega
          case rel => exact ⟨i + Sh.manyL (kids.take kk), x', acc ++ [⟨refS i (.mk false tg' ps ks kids), ndS (.mk false tg' ps ks kids) i, (kk : Int)⟩], A6, n6, c6, rfl, by rw [HR'.out], by first | (rw [List.length_append]; go_num) | simp, by rw [List.length_append, List.length_singleton]; have := HAC.out; omega, by simp, HEND.out, HSG2.out, HPA.out, HDX.out⟩
end Go.Proofs.Ytmnldlhpiapalaa
