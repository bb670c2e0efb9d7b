/-
 Law SeekLeaf.
-/
import Derived.Test.YtmnldlhpiapalaaSm11
import Derived.Test.YtmnldlhpiapalaaAl11
import Derived.Test.YtmnldlhpiapalaaLg11
import Derived.Test.YtmnldlhpiapalaaEn11
import Derived.Deep.Cut
namespace Go.Proofs.Ytmnldlhpiapalaa
open Go.ChangeShapes Go.WideShapes Go.ChangeAt Go.RowKit
set_option linter.unusedVariables false
set_option linter.unusedSimpArgs false
set_option maxRecDepth 20000

theorem plan_box2 (w : World) (a b c d e : Value) (k : Int) : ∃ (X : World) (p kb : Nat), (w.alloc (.cells #[a, b, c, d, e] plnT)).alloc (.cells #[.int .i64 k] i6T) = X ∧ w.heap.size = p ∧ p + 1 = kb ∧ Below w.heap.size w X ∧ (X.cell? ⟨p, 0, none⟩ = some a ∧ X.cell? ⟨p, 1, none⟩ = some b ∧ X.cell? ⟨p, 2, none⟩ = some c ∧ X.cell? ⟨p, 3, none⟩ = some d ∧ X.cell? ⟨p, 4, none⟩ = some e) ∧ X.cell? ⟨kb, 0, none⟩ = some (.int .i64 k) := by
 obtain ⟨X, p, hX, hp, bX, x0, x1, x2, x3, x4⟩ := plan_box w a b c d e
 have hs : X.heap.size = p + 1 := by rw [← hX, ← hp]; simp
 have b2 := below_new X (.cells #[.int .i64 k] i6T)
 rw [hX]
 exact ⟨_, p, p + 1, rfl, hp, rfl, bX.trans (b2.mono bX.size), ⟨below_read b2 x0, below_read b2 x1, below_read b2 x2, below_read b2 x3, below_read b2 x4⟩, c_new hs rfl⟩
theorem run_inn (x y : Bool) (P1 P2 P3 : Option Addr) (n1 q1 n2 q2 n3 q3 : Nat) (W : World) : (Instr.field 73 (.agg #[.bool x, .bool y, .slice P1 n1 q1, .slice P2 n2 q2, .slice P3 n3 q3]) 0).run Try.prog W = .ok (.bool x) W := by
 unfold Instr.field
 simp [go_sem, asAgg]
theorem look_form {w w' : World} {nd : Nd} {e : Ending} {x : Bool} (h : MadeN w nd e w') (hi : nd.inn = x) : ∃ (y : Bool) (P1 : Option Addr) (n1 q1 : Nat) (P2 : Option Addr) (n2 q2 : Nat) (P3 : Option Addr) (n3 q3 : Nat), e = .returned (.agg #[.bool x, .bool y, .slice P1 n1 q1, .slice P2 n2 q2, .slice P3 n3 q3]) ∧ Below w.heap.size w w' := by
 obtain ⟨pv, kv, zv, rfl, h1, h2, h3, h4⟩ := h
 obtain ⟨P1, n1, q1, rfl⟩ := h1.shape
 obtain ⟨P2, n2, q2, rfl⟩ := h2.shape
 obtain ⟨P3, n3, q3, rfl⟩ := h3.shape
 subst hi
 exact ⟨_, P1, n1, q1, P2, n2, q2, P3, n3, q3, rfl, h4⟩
set_option maxHeartbeats 4000000 in
theorem seekLeaf_walk (pl : Value) (n0 n1 n2 n3 n4 b : Nat) (key : Int) (w : World) (hp : PlanR w pl n0 n1 n2 n3 n4) (hb : b < 256) :
  Calls Try.prog 7 #[pl, .int .u8 (b : Int), .int .i64 key] w fun e w' => e = .returned (.bool true) ∧ Below w.heap.size w w' := by
 have HSC : ShapeC := shape_walk
 obtain ⟨A0, c0, ks, A1, c1, l1, A2, c2, l2, A3, c3, l3, A4, c4, l4, rfl, -⟩ := id hp
 have HP0 := Lib.hid hp
 obtain ⟨X, p, kb, hX, hpx, hkb, bX, ⟨x0, x1, x2, x3, x4⟩, xk⟩ := plan_box2 w (.slice A0 n0 c0) (.slice A1 n1 c1) (.slice A2 n2 c2) (.slice A3 n3 c3) (.slice A4 n4 c4) key
 have HBX := Lib.hid bX
 have HX0 : Hid (∀ w', Below X.heap.size X w' → w'.cell? ⟨p, 0, none⟩ = some (.slice A0 n0 c0) ∧ w'.cell? ⟨p, 1, none⟩ = some (.slice A1 n1 c1) ∧ w'.cell? ⟨p, 2, none⟩ = some (.slice A2 n2 c2) ∧ w'.cell? ⟨p, 3, none⟩ = some (.slice A3 n3 c3) ∧ w'.cell? ⟨p, 4, none⟩ = some (.slice A4 n4 c4)) := fun w' h => ⟨below_read h x0, below_read h x1, below_read h x2, below_read h x3, below_read h x4⟩
 have HKB : Hid (∀ w', Below X.heap.size X w' → w'.cell? ⟨kb, 0, none⟩ = some (.int .i64 key)) := fun w' h => below_read h xk
 have HKL : Hid (kb < X.heap.size) := World.block_lt_of_cell? X _ xk
 have HSC := Lib.hid HSC
 clear bX hp
 go_enter Try.func7, Try.ntmps7
 go_wp2_with fail
 (try rw [hX]); (try rw [hpx]); (try rw [hkb])
 clear hX hpx hkb x0 x1 x2 x3 x4 xk
 refine (awake11_walk X).mono ?_
 rintro e v1 ⟨rfl, b1⟩
 obtain ⟨y0, y1, y2, y3, y4⟩ := HX0.out v1 b1
 have HB1 := Lib.hid b1
 have HLI := Lib.hid (light_walk (w := v1) A0 A1 A2 A3 A4 n0 c0 n1 c1 n2 c2 n3 c3 n4 c4)
 clear b1
 go_wp2_with fail
 refine HLI.out.mono ?_
 clear HLI y0 y1 y2 y3 y4
 rintro e v2 ⟨lb, rfl, hlb, b2⟩
 have HB2 : Hid (Below X.heap.size X v2) := HB1.out.trans (b2.mono HB1.out.size)
 have HBW2 : Hid (Below w.heap.size w v2) := HBX.out.trans (HB2.out.mono HBX.out.size)
 clear b2 HB1
 cases lb with
 | false =>
  clear hlb
  go_wp2
  go_ret
  exact ⟨rfl, HBW2.out⟩
 | true =>
  have HLB := Lib.hid (hlb rfl)
  clear hlb
  obtain ⟨y0, y1, y2, y3, y4⟩ := HX0.out v2 HB2.out
  go_upto_region 5 with fail
  have HPL2 := Lib.hid (HP0.out.below HBW2.out)
  clear y0 y1 y2 y3 y4
  go_cut [7] from 22 to 25 (fun t7 wx => ∃ q, t7 = .pointer (some ⟨q, 0, none⟩) ∧ Hid (ShpV v2 q wx))
  case first =>
   obtain ⟨X0, hX0, bX0⟩ : ∃ X0 : World, v2.drew = X0 ∧ Below v2.heap.size v2 X0 := ⟨_, rfl, (Below.refl _ v2).drew⟩
   have HX1 : Hid (∀ w', Below X0.heap.size X0 w' → w'.cell? ⟨p, 0, none⟩ = some (.slice A0 n0 c0) ∧ w'.cell? ⟨p, 1, none⟩ = some (.slice A1 n1 c1) ∧ w'.cell? ⟨p, 2, none⟩ = some (.slice A2 n2 c2) ∧ w'.cell? ⟨p, 3, none⟩ = some (.slice A3 n3 c3) ∧ w'.cell? ⟨p, 4, none⟩ = some (.slice A4 n4 c4)) := fun w' h => HX0.out w' (HB2.out.trans ((bX0.trans (h.mono bX0.size)).mono HB2.out.size))
   have HPX := Lib.hid (HPL2.out.below bX0)
   refine region_T (fun k => k == 5) (fun w' : World => w'.cell? ⟨p, 0, none⟩ = some (.slice A0 n0 c0) ∧ w'.cell? ⟨p, 1, none⟩ = some (.slice A1 n1 c1) ∧ w'.cell? ⟨p, 2, none⟩ = some (.slice A2 n2 c2) ∧ w'.cell? ⟨p, 3, none⟩ = some (.slice A3 n3 c3) ∧ w'.cell? ⟨p, 4, none⟩ = some (.slice A4 n4 c4)) (by kernel_rfl) ?_
   rw [hX0]
   clear hX0
   have hC := HX1.out X0 (Below.refl _ X0)
   refine takeX 0 22 (v := ?_) rfl rfl (by kernel_rfl) (by kernel_rfl) (by kernel_rfl) (by kernel_rfl) (by kernel_rfl) (fun _ _ _ _ h => h) hC (by rfl) ?_ ?_
   rotate_left
   ·intro w hSw; (try dsimp only at hSw); go_simp; try (with_reducible rfl)
   simp only [List.setIfInBounds_toArray, List.set_cons_zero, List.set_cons_succ]
   refine takeX 1 23 (v := ?_) rfl rfl (by kernel_rfl) (by kernel_rfl) (by kernel_rfl) (by kernel_rfl) (by kernel_rfl) (fun _ _ _ _ h => h) hC (by rfl) ?_ ?_
   rotate_left
   ·intro w hSw; (try dsimp only at hSw); go_simp; try (with_reducible rfl)
   simp only [List.setIfInBounds_toArray, List.set_cons_zero, List.set_cons_succ]
   refine twoT (i := 2) (j := 4) (by kernel_rfl) rfl rfl (by rfl) (by rfl) (fun K hK => ?_) (fun K hK => ?_)
   ·go_simp
    refine (wide_walk (w := X0) b hb).mono ?_
    rintro e wq ⟨z, rfl, hz1, hz2, -, rfl⟩
    have HZ1 := Lib.hid hz1
    have HZ2 := Lib.hid hz2
    refine hK.out _ _ (fun _ => hC) ?_
    clear hK K hz1 hz2
    try simp only [Act.put, List.setIfInBounds_toArray, List.set_cons_zero, List.set_cons_succ]
    refine twoT (i := 3) (j := 4) (by kernel_rfl) rfl rfl (by rfl) (by rfl) (fun K hK => ?_) (fun K hK => ?_)
    ·go_simp
     refine (HSC.out X0 _ n0 n1 n2 n3 n4 z HPX.out HLB.out ⟨HZ1.out, HZ2.out⟩).mono ?_
     rintro e wS ⟨s, v, rfl, hS, hGood, bS⟩
     obtain ⟨lf, tg, A, n, k, B, m, e', C, pp, c, rfl⟩ := shY_form hS
     refine hK.out _ _ (fun _ => HX1.out wS bS) ?_
     clear hK K
     try simp only [Act.put, List.setIfInBounds_toArray, List.set_cons_zero, List.set_cons_succ]
     refine oneT (i := 4) (by kernel_rfl) rfl (by rfl) (fun K hK => ?_)
     go_simp
     obtain ⟨V, q, hV, hq, bV, eV, sV⟩ := Shc.new wS (.bool false) (.bool false) (.slice none 0 0) (.slice none 0 0) (.slice none 0 0)
     (try rw [hV]); (try rw [hq])
     refine hK.out _ _ (fun _ => HX1.out _ (bS.trans (bV.mono bS.size))) ?_
     clear hK K hV
     try simp only [Act.put, List.setIfInBounds_toArray, List.set_cons_zero, List.set_cons_succ]
     have bAll : Below v2.heap.size v2 V := (bX0.trans (bS.mono bX0.size)).trans (bV.mono (bX0.trans (bS.mono bX0.size)).size)
     have hE := shp_end (v := v2) bAll eV (by have := bX0.size; have := bS.size; omega) (ShY.keep (fun b f => bV.block b f.2) (fun b f => f) _ _ hS) (fun b f => ⟨by have := bX0.size; have := f.1; omega, by have := f.2; have := bV.size; omega⟩) (fun f => by have := f.2; omega) hGood
     obtain ⟨c0', c1', c2', c3', c4'⟩ := eV.cells
     obtain ⟨f0', f1', f2', f3', f4'⟩ := eV.frees
     refine oneT (i := 5) (by kernel_rfl) rfl (by rfl) (fun K hK => ?_)
     go_simp
     refine hK.out _ _ (fun h => absurd h (by decide)) ?_
     clear hK K
     try simp only [Act.put, List.setIfInBounds_toArray, List.set_cons_zero, List.set_cons_succ]
     refine doneT (by kernel_rfl) ?_
     have HE := Lib.hid hE
     clear hE
     go_wp2_with fail
     go_meet
     exact ⟨q, rfl, HE.out⟩
    ·go_simp
     obtain ⟨V, q, hV, hq, bV, eV, sV⟩ := Shc.new X0 (.bool false) (.bool false) (.slice none 0 0) (.slice none 0 0) (.slice none 0 0)
     (try rw [hV]); (try rw [hq])
     refine hK.out _ _ (fun _ => HX1.out _ bV) ?_
     clear hK K hV
     try simp only [Act.put, List.setIfInBounds_toArray, List.set_cons_zero, List.set_cons_succ]
     refine oneT (i := 3) (by kernel_rfl) rfl (by rfl) (fun K hK => ?_)
     go_simp
     refine (HSC.out V _ n0 n1 n2 n3 n4 z (HPX.out.below bV) HLB.out ⟨HZ1.out, HZ2.out⟩).mono ?_
     rintro e wS ⟨s, v, rfl, hS, hGood, bS⟩
     obtain ⟨lf, tg, A, n, k, B, m, e', C, pp, c, rfl⟩ := shY_form hS
     refine hK.out _ _ (fun _ => HX1.out wS (bV.trans (bS.mono bV.size))) ?_
     clear hK K
     try simp only [Act.put, List.setIfInBounds_toArray, List.set_cons_zero, List.set_cons_succ]
     have bAll : Below v2.heap.size v2 wS := (bX0.trans (bV.mono bX0.size)).trans (bS.mono (bX0.trans (bV.mono bX0.size)).size)
     have eS := eV.below bS
     have hE := shp_end (v := v2) bAll eS (by have := bX0.size; omega) hS (fun b f => ⟨by have := bX0.size; have := bV.size; have := f.1; omega, f.2⟩) (fun f => by have := f.1; omega) hGood
     obtain ⟨c0', c1', c2', c3', c4'⟩ := eS.cells
     obtain ⟨f0', f1', f2', f3', f4'⟩ := eS.frees
     refine oneT (i := 5) (by kernel_rfl) rfl (by rfl) (fun K hK => ?_)
     go_simp
     refine hK.out _ _ (fun h => absurd h (by decide)) ?_
     clear hK K
     try simp only [Act.put, List.setIfInBounds_toArray, List.set_cons_zero, List.set_cons_succ]
     refine doneT (by kernel_rfl) ?_
     have HE := Lib.hid hE
     clear hE
     go_wp2_with fail
     go_meet
     exact ⟨q, rfl, HE.out⟩
   ·go_simp
    obtain ⟨V, q, hV, hq, bV, eV, sV⟩ := Shc.new X0 (.bool false) (.bool false) (.slice none 0 0) (.slice none 0 0) (.slice none 0 0)
    (try rw [hV]); (try rw [hq])
    refine hK.out _ _ (fun _ => HX1.out _ bV) ?_
    clear hK K hV
    try simp only [Act.put, List.setIfInBounds_toArray, List.set_cons_zero, List.set_cons_succ]
    refine oneT (i := 2) (by kernel_rfl) rfl (by rfl) (fun K hK => ?_)
    go_simp
    refine (wide_walk (w := V) b hb).mono ?_
    rintro e wq ⟨z, rfl, hz1, hz2, -, rfl⟩
    have HZ1 := Lib.hid hz1
    have HZ2 := Lib.hid hz2
    refine hK.out _ _ (fun _ => HX1.out _ bV) ?_
    clear hK K hz1 hz2
    try simp only [Act.put, List.setIfInBounds_toArray, List.set_cons_zero, List.set_cons_succ]
    refine oneT (i := 3) (by kernel_rfl) rfl (by rfl) (fun K hK => ?_)
    go_simp
    refine (HSC.out V _ n0 n1 n2 n3 n4 z (HPX.out.below bV) HLB.out ⟨HZ1.out, HZ2.out⟩).mono ?_
    rintro e wS ⟨s, v, rfl, hS, hGood, bS⟩
    obtain ⟨lf, tg, A, n, k, B, m, e', C, pp, c, rfl⟩ := shY_form hS
    refine hK.out _ _ (fun _ => HX1.out wS (bV.trans (bS.mono bV.size))) ?_
    clear hK K
    try simp only [Act.put, List.setIfInBounds_toArray, List.set_cons_zero, List.set_cons_succ]
    have bAll : Below v2.heap.size v2 wS := (bX0.trans (bV.mono bX0.size)).trans (bS.mono (bX0.trans (bV.mono bX0.size)).size)
    have eS := eV.below bS
    have hE := shp_end (v := v2) bAll eS (by have := bX0.size; omega) hS (fun b f => ⟨by have := bX0.size; have := bV.size; have := f.1; omega, f.2⟩) (fun f => by have := f.1; omega) hGood
    obtain ⟨c0', c1', c2', c3', c4'⟩ := eS.cells
    obtain ⟨f0', f1', f2', f3', f4'⟩ := eS.frees
    refine oneT (i := 5) (by kernel_rfl) rfl (by rfl) (fun K hK => ?_)
    go_simp
    refine hK.out _ _ (fun h => absurd h (by decide)) ?_
    clear hK K
    try simp only [Act.put, List.setIfInBounds_toArray, List.set_cons_zero, List.set_cons_succ]
    refine doneT (by kernel_rfl) ?_
    have HE := Lib.hid hE
    clear hE
    go_wp2_with fail
    go_meet
    exact ⟨q, rfl, HE.out⟩
  case rest =>
   obtain ⟨q, rfl, HSP⟩ := hcut
   obtain ⟨s, Y, ⟨lf, tg, A, n, k, B, m, e', C, pp, c, hq, hS⟩, hGood, hbw, hge, hr, nq⟩ := HSP.out
   clear HSP
   have HG := Lib.hid hGood
   have HBW := Lib.hid hbw
   have HGE := Lib.hid hge
   have HNQ : Hid (¬ Y q) := nq
   go_upto_region 6 with fail
   obtain ⟨V, hV, bV⟩ : ∃ V : World, wc.drew = V ∧ Below wc.heap.size wc V := ⟨_, rfl, (Below.refl _ wc).drew⟩
   have HQ := Lib.hid (hq.below bV)
   have hSV : ShY Y V s (shv lf tg (.slice A n k) (.slice B m e') (.slice C pp c)) := ShY.keep (fun b f => bV.block b (hr b f).2) (fun b f => f) _ _ hS
   have HR : Hid (∀ b, Y b → b < V.heap.size) := fun b f => Nat.lt_of_lt_of_le (hr b f).2 bV.size
   have HSV := Lib.hid hSV
   have HBV : Hid (Below v2.heap.size v2 V) := hbw.trans (bV.mono hbw.size)
   have hC := HQ.out.cells
   clear hq hS hGood hbw hge nq hSV bV hr
   refine region_T (fun _ => false) (fun w' : World => w'.cell? ⟨q, 0, none⟩ = some (.bool lf) ∧ w'.cell? ⟨q, 1, none⟩ = some (.bool tg) ∧ w'.cell? ⟨q, 2, none⟩ = some (.slice A n k) ∧ w'.cell? ⟨q, 3, none⟩ = some (.slice B m e') ∧ w'.cell? ⟨q, 4, none⟩ = some (.slice C pp c)) (by kernel_rfl) ?_
   rw [hV]
   clear hV
   refine takeX 0 26 (v := ?_) rfl rfl (by kernel_rfl) (by kernel_rfl) (by kernel_rfl) (by kernel_rfl) (by kernel_rfl) (fun _ _ _ _ h => h) hC (by rfl) ?_ ?_
   rotate_left
   ·intro w hSw; (try dsimp only at hSw); go_simp; try (with_reducible rfl)
   simp only [List.setIfInBounds_toArray, List.set_cons_zero, List.set_cons_succ]
   refine takeX 2 28 (v := ?_) rfl rfl (by kernel_rfl) (by kernel_rfl) (by kernel_rfl) (by kernel_rfl) (by kernel_rfl) (fun _ _ _ _ h => h) hC (by rfl) ?_ ?_
   rotate_left
   ·intro w hSw; (try dsimp only at hSw); go_simp; try (with_reducible rfl)
   simp only [List.setIfInBounds_toArray, List.set_cons_zero, List.set_cons_succ]
   refine oneT (i := 1) (by kernel_rfl) rfl (by rfl) (fun K hK => ?_)
   go_simp
   refine (wide_walk (w := V) b hb).mono ?_
   rintro e wq ⟨z, rfl, hz1, hz2, -, rfl⟩
   refine hK.out _ _ (fun _ => hC) ?_
   clear hK K
   try simp only [Act.put, List.setIfInBounds_toArray, List.set_cons_zero, List.set_cons_succ]
   refine oneT (i := 3) (by kernel_rfl) rfl (by rfl) (fun K hK => ?_)
   go_simp
   have hwld := world_walk (a := 2) (b := (z : Int)) (t := 1) (room := 0) (rec := 1) HG.out.small (ShY.low HR.out _ _ HSV.out) (Nat.le_refl _) (by omega) (by omega) (by omega) (by omega) (by have := HG.out.many; omega) (by omega)
   obtain ⟨M, hM⟩ : ∃ M, ((2 : Int) + s.many + 0).toNat = M := ⟨_, rfl⟩
   have HMM := Lib.hid hM
   rw [hM] at hwld
   refine hwld.mono ?_
   clear hwld hM
   intro e w4 hWW
   obtain ⟨d, rfl, hen, hM4, b4⟩ := mb_begin HBV.out (Array.getElem?_eq_some_iff.1 HQ.out).1 HR.out hWW
   have HQ4 := Lib.hid (HQ.out.below b4)
   refine hK.out _ _ (fun _ => HQ4.out.cells) ?_
   clear hK K hC
   try simp only [Act.put, List.setIfInBounds_toArray, List.set_cons_zero, List.set_cons_succ]
   have hC := HQ4.out.cells
   refine takeX 4 8 (v := ?_) rfl rfl (by kernel_rfl) (by kernel_rfl) (by kernel_rfl) (by kernel_rfl) (by kernel_rfl) (fun _ _ _ _ h => h) hC (by rfl) ?_ ?_
   rotate_left
   ·intro w hSw; (try dsimp only at hSw); go_simp; try (with_reducible rfl)
   simp only [List.setIfInBounds_toArray, List.set_cons_zero, List.set_cons_succ]
   refine doneT (by kernel_rfl) ?_
   have HSV4 : Hid (ShY Y w4 s (shv lf tg (.slice A n k) (.slice B m e') (.slice C pp c))) := ShY.keep (fun b f => b4.block b (HR.out b f)) (fun b f => f) _ _ HSV.out
   have HM4 := Lib.hid hM4
   have HEN := Lib.hid hen
   clear hWW hC hM4 hen b4 HQ HSV
   have hdm := deep_many s
   have hmm := HG.out.many
   have hdp := HG.out.deep
   have hM2 : M = 2 + s.many := by have := HMM.out; omega
   obtain ⟨l0, x0, x1, i0, i1, p0, p1, hpa, hl0, hh0, hi0, hwa, hh1, hi1, hwt, -⟩ := path_last (key := key) (m := M) HG.out
   obtain ⟨wv, hwv⟩ : ∃ z, wantL s.all key = z := ⟨_, rfl⟩
   have hst := HM4.out.leafer (nds := ndsT s) (rk := rkT s) (M := 1) (mo := M) (D := s.deep + 1) (key := key) (Bn := kb) (nds_ok HG.out.wf HG.out.small) (nds_asc HG.out.wf HG.out.small HG.out.ord) (by omega) (by omega) (by rw [HEN.out]; exact ok1_plant (by omega)) (HKB.out w4 (HB2.out.trans (HM4.out.bel.mono HB2.out.size))) (.inl (Nat.lt_of_lt_of_le HKL.out HB2.out.size))
   rw [HEN.out] at hst
   have HST := Lib.hid hst
   have HL0 := Lib.hid hl0
   have HPA := Lib.hid hpa
   have HWA := Lib.hid hwa
   have HH0 := Lib.hid hh0
   have HH1 := Lib.hid hh1
   have HI0 := Lib.hid hi0
   have HI1 := Lib.hid hi1
   rw [hwv] at hwt
   have HWT := Lib.hid hwt
   have HWV := Lib.hid hwv
   have HM2 := Lib.hid hM2
   have HSM : Hid (s.many ≤ 5000 ∧ s.deep ≤ 200) := ⟨hmm, hdp⟩
   clear hst hl0 hpa hwa hh0 hh1 hi0 hi1 hwt hwv hM2 hmm hdp hdm
   go_wp2_with fail
   refine HST.out.mono ?_
   clear HST
   rintro e w5 ⟨a, rfl, hM5, b5⟩
   have hsm := HSM.out
   have hln : (pathS (ndsT s) key (plantSig M 1 s) (s.deep + 2) m11).length - 1 = l0.length + 1 := by rw [HPA.out]; simp
   have hout : lfOut key ([] ++ pathS (ndsT s) key (plantSig M 1 s) (s.deep + 2) m11) = [x0.rf, x0.wy, x1.rf, wv] := by
    rw [List.nil_append, HPA.out, ← HWT.out]
    exact lfOut_two key l0 x0 x1
   have hal := hM5.aloneW (i := 0) (K := lfOut key) (r := m11) (f := s.deep + 1) (acc := []) (key := key) (v := [x0.rf, x0.wy, x1.rf, wv]) (k := l0.length + 1) (N := l0.length + 1) (kz := ((l0.length + 1 : Nat) : Int)) (by omega) (upd_at ..) (by rw [upd_at]) (ski_plant HG.out.wf HG.out.small (by omega)) (fit_plant HG.out.wf HG.out.small (by omega)) (ok1_plant (by omega)) hout hln (Nat.le_refl _) (by have := HL0.out; omega) (by simp) (by rw [Nat.max_eq_left (by omega)])
   rw [upd_at] at hal
   have HAL := Lib.hid hal
   have HB5 := Lib.hid b5
   clear hM5 hln hout hal b5 hsm
   go_wp2_with fail
   refine HAL.out.mono ?_
   clear HAL
   rintro e w6 ⟨A9, m9, c9, rfl, hr9, hM6, hK6⟩
   have hsl := hr9.sl
   obtain rfl : m9 = 4 := hsl.len
   obtain ⟨g9, o9, rfl, -, -⟩ := hsl.at_ (k := 0) (by simp)
   have HSL := Lib.hid hsl
   have HQ6 : Hid (Shc w6 q (.bool lf) (.bool tg) (.slice A n k) (.slice B m e') (.slice C pp c)) := (HQ4.out.below HB5.out).at_ (hK6.block q (.inr (.inl rfl)))
   have HS6 : Hid (ShY Y w6 s (shv lf tg (.slice A n k) (.slice B m e') (.slice C pp c))) := ShY.keep (fun b f => (hK6.block b (.inr (.inr f))).trans (HB5.out.block b (HM4.out.lt b (.inr f)))) (fun b f => f) _ _ HSV4.out
   have HYL : Hid (∀ b, Y b → b < w6.heap.size) := fun b f => hM6.lt b (.inr f)
   have HK6 : Hid (w6.cell? ⟨kb, 0, none⟩ = some (.int .i64 key)) := cell_same (hK6.block kb (.inl (Nat.lt_of_lt_of_le HKL.out HB2.out.size))) (below_read HB5.out (HKB.out w4 (HB2.out.trans (HM4.out.bel.mono HB2.out.size))))
   obtain ⟨FW, hws⟩ := hM6.ws
   have HWS := Lib.hid hws
   have HG0 := Lib.hid hM6.cells.1
   have HB6 : Hid (Below w.heap.size w w6) := HBW2.out.trans (hM6.bel.mono HBW2.out.size)
   have HAL2 : Hid (s.small ∧ s.all.length ≤ 1000) := ⟨HG.out.small, by have := HG.out.pairs; omega⟩
   clear hr9 hM6 hK6 hsl hws HM4 HQ4 HSV4 HB5
   go_upto_region 11 with fail
   go_cut [13] from 45 to 48 (fun t13 wx => t13 = .int .i64 (findL s.all key 0) ∧ Hid (Below w6.heap.size w6 wx))
   case first =>
    obtain ⟨W0, hW0, b0⟩ : ∃ W0 : World, w6.drew = W0 ∧ Below w6.heap.size w6 W0 := ⟨_, rfl, (Below.refl _ w6).drew⟩
    have HC : Hid (∀ w', Below w6.heap.size w6 w' → w'.cell? ⟨q, 0, none⟩ = some (.bool lf) ∧ w'.cell? ⟨q, 1, none⟩ = some (.bool tg) ∧ w'.cell? ⟨q, 2, none⟩ = some (.slice A n k) ∧ w'.cell? ⟨q, 3, none⟩ = some (.slice B m e') ∧ w'.cell? ⟨q, 4, none⟩ = some (.slice C pp c) ∧ w'.cell? ⟨kb, 0, none⟩ = some (.int .i64 key)) := fun w' h => by
     obtain ⟨z0, z1, z2, z3, z4⟩ := (HQ6.out.below h).cells
     exact ⟨z0, z1, z2, z3, z4, below_read h HK6.out⟩
    refine region_T (fun _ => false) (fun w' : World => w'.cell? ⟨q, 0, none⟩ = some (.bool lf) ∧ w'.cell? ⟨q, 1, none⟩ = some (.bool tg) ∧ w'.cell? ⟨q, 2, none⟩ = some (.slice A n k) ∧ w'.cell? ⟨q, 3, none⟩ = some (.slice B m e') ∧ w'.cell? ⟨q, 4, none⟩ = some (.slice C pp c) ∧ w'.cell? ⟨kb, 0, none⟩ = some (.int .i64 key)) (by kernel_rfl) ?_
    rw [hW0]
    have hC := HC.out W0 b0
    have HB0 := Lib.hid b0
    clear hW0 b0
    refine takeX 0 45 (v := ?_) rfl rfl (by kernel_rfl) (by kernel_rfl) (by kernel_rfl) (by kernel_rfl) (by kernel_rfl) (fun _ _ _ _ h => h) hC (by rfl) ?_ ?_
    rotate_left
    ·intro w hSw; (try dsimp only at hSw); go_simp; try (with_reducible rfl)
    simp only [List.setIfInBounds_toArray, List.set_cons_zero, List.set_cons_succ]
    refine takeX 2 47 (v := ?_) rfl rfl (by kernel_rfl) (by kernel_rfl) (by kernel_rfl) (by kernel_rfl) (by kernel_rfl) (fun _ _ _ _ h => h) hC (by rfl) ?_ ?_
    rotate_left
    ·intro w hSw; (try dsimp only at hSw); go_simp; try (with_reducible rfl)
    simp only [List.setIfInBounds_toArray, List.set_cons_zero, List.set_cons_succ]
    clear hC
    refine oneT (i := 1) (by kernel_rfl) rfl (by rfl) (fun KK hK => ?_)
    go_simp
    refine (all_walk s.many s (Nat.le_refl _) HAL2.out.1 HAL2.out.2 W0.heap.size W0 _ (ShY.low (fun b f => Nat.lt_of_lt_of_le (HYL.out b f) HB0.out.size) _ _ (ShY.keep (fun b f => HB0.out.block b (HYL.out b f)) (fun b f => f) _ _ HS6.out)) (Nat.le_refl _)).mono ?_
    rintro e w7 ⟨v7, rfl, hp7, b7⟩
    obtain ⟨A7, c7, rfl, hl7⟩ := hp7.form
    obtain ⟨n7, hn7⟩ : ∃ z, s.all.length = z := ⟨_, rfl⟩
    rw [hn7] at hl7 ⊢
    have hn7b : n7 ≤ 1000 := by have := HAL2.out.2; omega
    have HB7 : Hid (Below w6.heap.size w6 w7) := HB0.out.trans (b7.mono HB0.out.size)
    have hC := HC.out w7 HB7.out
    have HL7 := Lib.hid hl7.lf
    refine hK.out _ _ (fun _ => hC) ?_
    clear hK KK hp7 b7 hl7 hn7
    try simp only [Act.put, List.setIfInBounds_toArray, List.set_cons_zero, List.set_cons_succ]
    refine oneT (i := 3) (by kernel_rfl) rfl (by rfl) (fun KK hK => ?_)
    go_simp
    refine (find_walk A7 n7 c7 s.all key w7 HL7.out (by omega)).mono ?_
    rintro e w8 ⟨rfl, b8⟩
    have HB8 : Hid (Below w6.heap.size w6 w8) := HB7.out.trans (b8.mono HB7.out.size)
    refine hK.out _ _ (fun _ => HC.out w8 HB8.out) ?_
    clear hK KK b8 hC
    try simp only [Act.put, List.setIfInBounds_toArray, List.set_cons_zero, List.set_cons_succ]
    have hC := HC.out w8 HB8.out
    refine takeX 4 13 (v := ?_) rfl rfl (by kernel_rfl) (by kernel_rfl) (by kernel_rfl) (by kernel_rfl) (by kernel_rfl) (fun _ _ _ _ h => h) hC (by rfl) ?_ ?_
    rotate_left
    ·intro w hSw; (try dsimp only at hSw); go_simp; try (with_reducible rfl)
    simp only [List.setIfInBounds_toArray, List.set_cons_zero, List.set_cons_succ]
    clear hC
    refine doneT (by kernel_rfl) ?_
    go_wp2_with fail
    go_meet
    exact ⟨rfl, HB8.out⟩
   case rest =>
    rename World => w8
    obtain ⟨rfl, HB8⟩ := hcut
    obtain ⟨fi, hfi⟩ : ∃ z, findL s.all key 0 = z := ⟨_, rfl⟩
    have HFI := Lib.hid hfi
    rw [hfi]
    clear hfi
    go_upto_if 50 with fail
    go_cut [12] from 49 to 56 (fun t12 wx => t12 = .int .i64 wv ∧ Hid (Below w6.heap.size w6 wx))
    case first =>
     rcases findL_want s.all key 0 with ⟨e1, e2⟩ | ⟨kx, px, e1, e2, e3⟩
     ·obtain rfl : fi = -1 := by rw [← HFI.out, e1]
      have HWE : Hid (wv = -1) := by show _ = _; rw [← HWV.out, e2]
      clear e1 e2
      go_wp2_with fail
      go_meet
      exact ⟨by rw [HWE.out], HB8.out⟩
     ·obtain rfl : fi = (kx : Int) := by rw [← HFI.out, e1]; omega
      have i0 : (0 : Int) ≤ (kx : Int) := by omega
      have hkl := (List.getElem?_eq_some_iff.1 e2).1
      have HKX : Hid (wv = px.2) := by show _ = _; rw [← HWV.out, e3]
      have HE2 := Lib.hid e2
      have HKL2 := Lib.hid hkl
      clear e1 e2 e3 hkl
      obtain ⟨z0, z1, z2, z3, z4⟩ := (HQ6.out.below HB8.out).cells
      go_wp2_with fail
      refine (all_walk s.many s (Nat.le_refl _) HAL2.out.1 HAL2.out.2 w8.heap.size w8 _ (ShY.low (fun b f => Nat.lt_of_lt_of_le (HYL.out b f) HB8.out.size) _ _ (ShY.keep (fun b f => HB8.out.block b (HYL.out b f)) (fun b f => f) _ _ HS6.out)) (Nat.le_refl _)).mono ?_
      clear z0 z1 z2 z3 z4
      rintro e w9 ⟨v9, rfl, hp9, b9⟩
      obtain ⟨A7, c7, rfl, hl7⟩ := hp9.form
      have HB9 : Hid (Below w6.heap.size w6 w9) := HB8.out.trans (b9.mono HB8.out.size)
      obtain ⟨bb, off, rfl, hbl, c1', c2'⟩ := hl7.lf.at_ HKL2.out
      have hpx : s.all[kx]'HKL2.out = px := (List.getElem?_eq_some_iff.1 HE2.out).2
      rw [hpx, ← HKX.out] at c2'
      obtain ⟨n7, hn7⟩ : ∃ z, s.all.length = z := ⟨_, rfl⟩
      have i1 : (kx : Int) < (n7 : Int) := by have := HKL2.out; omega
      rw [hn7]
      clear hp9 b9 hl7 hn7 hpx c1'
      go_wp2_with fail
      go_meet
      exact ⟨rfl, HB9.out⟩
    case rest =>
     rename World => w10
     obtain ⟨rfl, HB10⟩ := hcut
     have hcs : w10.cell? ⟨g9, o9, none⟩ = some (.int .i64 x0.rf) ∧ w10.cell? ⟨g9, o9 + 1, none⟩ = some (.int .i64 x0.wy) ∧ w10.cell? ⟨g9, o9 + 2, none⟩ = some (.int .i64 x1.rf) ∧ w10.cell? ⟨g9, o9 + 3, none⟩ = some (.int .i64 wv) := by
      have h := HSL.out.below HB10.out
      exact ⟨sl_get h (i := 0) rfl, sl_get h (i := 1) rfl, sl_get h (i := 2) rfl, sl_get h (i := 3) rfl⟩
     have HCS := Lib.hid hcs
     obtain ⟨r0, r1, r2, r3⟩ := hcs
     have HSS := Lib.hid r3
     go_upto_region 14 with fail
     go_quiet (fail)
     have HB11 : Hid (Below w6.heap.size w6 (w10.drewN nq)) := below_drewN HB10.out nq
     have HR3 : Hid ((w10.drewN nq).cell? ⟨g9, o9 + 3, none⟩ = some (.int .i64 wv)) := r3
     obtain ⟨V, hV⟩ : ∃ V, w10.drewN nq = V := ⟨_, rfl⟩
     rw [hV] at HB11 HR3
     (try rw [hV])
     clear hV r0 r1 r2 r3 HCS HSS HB10
     have hok := ok_plant (m := M) (s := s) (by have := HSM.out; omega)
     have HOK := Lib.hid hok
     have hway := nxW_way (HWS.out.below HB11.out) hok HH0.out x0.wy
     rw [HWA.out] at hway
     have HWAY := Lib.hid hway
     have HLK0 := Lib.hid ((nxW_look (HWS.out.below HB11.out) hok HH0.out).mono fun e w' h => look_form h HI0.out)
     have hg0 := below_read HB11.out HG0.out
     have r3 := HR3.out
     clear hok hway
     go_wp2_with fail
     refine HWAY.out.mono ?_
     rintro e wA ⟨rfl, rfl⟩
     clear HWAY
     go_wp2_with fail
     refine HLK0.out.mono ?_
     rintro e wB ⟨y1, P1, n1, q1, P2, n2, q2, P3, n3, q3, rfl, bB⟩
     have HB12 : Hid (Below w6.heap.size w6 wB) := HB11.out.trans (bB.mono HB11.out.size)
     have HLK1 := Lib.hid ((nxW_look (HWS.out.below HB12.out) HOK.out HH1.out).mono fun e w' h => look_form h HI1.out)
     have hF := run_inn true y1 P1 P2 P3 n1 q1 n2 q2 n3 q3
     clear hg0 r3 bB HLK0
     have hg0 := below_read HB12.out HG0.out
     go_wp2_with fail
     refine HLK1.out.mono ?_
     rintro e wC ⟨y2, P4, n4, q4, P5, n5, q5, P6, n6, q6, rfl, bC⟩
     have HB13 : Hid (Below w6.heap.size w6 wC) := HB12.out.trans (bC.mono HB12.out.size)
     have HFL := Lib.hid (nxW_faults (HWS.out.below HB13.out))
     have hF2 := run_inn false y2 P4 P5 P6 n4 q4 n5 q5 n6 q6
     clear hg0 bC HLK1
     have hg0 := below_read HB13.out HG0.out
     go_wp2_with fail
     refine HFL.out.mono ?_
     rintro e wD ⟨rfl, rfl⟩
     clear HFL
     go_wp2
     go_ret
     exact ⟨rfl, HB6.out.trans (HB13.out.mono HB6.out.size)⟩
end Go.Proofs.Ytmnldlhpiapalaa
