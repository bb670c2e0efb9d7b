/-
 Law SeekFinds.
-/
import Derived.Test.YtmnldlhpiapalaaSm11
import Derived.Test.YtmnldlhpiapalaaAl11
import Derived.Test.YtmnldlhpiapalaaFf11
import Derived.Test.YtmnldlhpiapalaaOe11
import Derived.Test.YtmnldlhpiapalaaEn11
import Derived.Deep.Cut
namespace Go.Proofs.Ytmnldlhpiapalaa
open Go.ChangeShapes Go.WideShapes Go.ChangeAt Go.RowKit
set_option linter.unusedVariables false
set_option linter.unusedSimpArgs false
set_option maxRecDepth 20000

set_option maxHeartbeats 4000000 in
theorem seekFinds_walk (pl : Value) (n0 n1 n2 n3 n4 b : Nat) (w : World) (hp : PlanR w pl n0 n1 n2 n3 n4) (hb : b < 256) :
  Calls Try.prog 8 #[pl, .int .u8 (b : Int)] w fun e w' => e = .returned (.bool true) ∧ Below w.heap.size w w' := by
 have HSC : ShapeC := shape_walk
 obtain ⟨A0, c0, ks, A1, c1, l1, A2, c2, l2, A3, c3, l3, A4, c4, l4, rfl, -⟩ := id hp
 have HP0 := Lib.hid hp
 obtain ⟨X, p, hX, hpx, bX, x0, x1, x2, x3, x4⟩ := plan_box w (.slice A0 n0 c0) (.slice A1 n1 c1) (.slice A2 n2 c2) (.slice A3 n3 c3) (.slice A4 n4 c4)
 have HBX := Lib.hid bX
 have HX0 : Hid (∀ w', Below X.heap.size X w' → w'.cell? ⟨p, 0, none⟩ = some (.slice A0 n0 c0) ∧ w'.cell? ⟨p, 1, none⟩ = some (.slice A1 n1 c1) ∧ w'.cell? ⟨p, 2, none⟩ = some (.slice A2 n2 c2) ∧ w'.cell? ⟨p, 3, none⟩ = some (.slice A3 n3 c3) ∧ w'.cell? ⟨p, 4, none⟩ = some (.slice A4 n4 c4)) := fun w' h => ⟨below_read h x0, below_read h x1, below_read h x2, below_read h x3, below_read h x4⟩
 have HSC := Lib.hid HSC
 clear bX hp
 go_enter Try.func8, Try.ntmps8
 go_wp2_with fail
 (try rw [hX]); (try rw [hpx])
 clear hX hpx x0 x1 x2 x3 x4
 refine (awake11_walk X).mono ?_
 rintro e v1 ⟨rfl, b1⟩
 obtain ⟨y0, y1, y2, y3, y4⟩ := HX0.out v1 b1
 have HB1 := Lib.hid b1
 have HLI := Lib.hid (light_walk (w := v1) A0 A1 A2 A3 A4 n0 c0 n1 c1 n2 c2 n3 c3 n4 c4)
 clear b1
 go_wp2_with fail
 refine HLI.out.mono ?_
 clear HLI y0 y1 y2 y3 y4
 rintro e v2 ⟨lb, rfl, hlb, b2⟩
 have HB2 : Hid (Below X.heap.size X v2) := HB1.out.trans (b2.mono HB1.out.size)
 have HBW2 : Hid (Below w.heap.size w v2) := HBX.out.trans (HB2.out.mono HBX.out.size)
 clear b2 HB1
 cases lb with
 | false =>
  clear hlb
  go_wp2
  go_ret
  exact ⟨rfl, HBW2.out⟩
 | true =>
  have HLB := Lib.hid (hlb rfl)
  clear hlb
  obtain ⟨y0, y1, y2, y3, y4⟩ := HX0.out v2 HB2.out
  go_upto_region 5 with fail
  have HPL2 := Lib.hid (HP0.out.below HBW2.out)
  clear y0 y1 y2 y3 y4
  go_cut [5] from 17 to 20 (fun t7 wx => ∃ q, t7 = .pointer (some ⟨q, 0, none⟩) ∧ Hid (ShpV v2 q wx))
  case first =>
   obtain ⟨X0, hX0, bX0⟩ : ∃ X0 : World, v2.drew = X0 ∧ Below v2.heap.size v2 X0 := ⟨_, rfl, (Below.refl _ v2).drew⟩
   have HX1 : Hid (∀ w', Below X0.heap.size X0 w' → w'.cell? ⟨p, 0, none⟩ = some (.slice A0 n0 c0) ∧ w'.cell? ⟨p, 1, none⟩ = some (.slice A1 n1 c1) ∧ w'.cell? ⟨p, 2, none⟩ = some (.slice A2 n2 c2) ∧ w'.cell? ⟨p, 3, none⟩ = some (.slice A3 n3 c3) ∧ w'.cell? ⟨p, 4, none⟩ = some (.slice A4 n4 c4)) := fun w' h => HX0.out w' (HB2.out.trans ((bX0.trans (h.mono bX0.size)).mono HB2.out.size))
   have HPX := Lib.hid (HPL2.out.below bX0)
   refine region_T (fun k => k == 5) (fun w' : World => w'.cell? ⟨p, 0, none⟩ = some (.slice A0 n0 c0) ∧ w'.cell? ⟨p, 1, none⟩ = some (.slice A1 n1 c1) ∧ w'.cell? ⟨p, 2, none⟩ = some (.slice A2 n2 c2) ∧ w'.cell? ⟨p, 3, none⟩ = some (.slice A3 n3 c3) ∧ w'.cell? ⟨p, 4, none⟩ = some (.slice A4 n4 c4)) (by kernel_rfl) ?_
   rw [hX0]
   clear hX0
   have hC := HX1.out X0 (Below.refl _ X0)
   refine takeX 0 17 (v := ?_) rfl rfl (by kernel_rfl) (by kernel_rfl) (by kernel_rfl) (by kernel_rfl) (by kernel_rfl) (fun _ _ _ _ h => h) hC (by rfl) ?_ ?_
   rotate_left
   ·intro w hSw; (try dsimp only at hSw); go_simp; try (with_reducible rfl)
   simp only [List.setIfInBounds_toArray, List.set_cons_zero, List.set_cons_succ]
   refine takeX 1 18 (v := ?_) rfl rfl (by kernel_rfl) (by kernel_rfl) (by kernel_rfl) (by kernel_rfl) (by kernel_rfl) (fun _ _ _ _ h => h) hC (by rfl) ?_ ?_
   rotate_left
   ·intro w hSw; (try dsimp only at hSw); go_simp; try (with_reducible rfl)
   simp only [List.setIfInBounds_toArray, List.set_cons_zero, List.set_cons_succ]
   refine twoT (i := 2) (j := 4) (by kernel_rfl) rfl rfl (by rfl) (by rfl) (fun K hK => ?_) (fun K hK => ?_)
   ·go_simp
    refine (wide_walk (w := X0) b hb).mono ?_
    rintro e wq ⟨z, rfl, hz1, hz2, -, rfl⟩
    have HZ1 := Lib.hid hz1
    have HZ2 := Lib.hid hz2
    refine hK.out _ _ (fun _ => hC) ?_
    clear hK K hz1 hz2
    try simp only [Act.put, List.setIfInBounds_toArray, List.set_cons_zero, List.set_cons_succ]
    refine twoT (i := 3) (j := 4) (by kernel_rfl) rfl rfl (by rfl) (by rfl) (fun K hK => ?_) (fun K hK => ?_)
    ·go_simp
     refine (HSC.out X0 _ n0 n1 n2 n3 n4 z HPX.out HLB.out ⟨HZ1.out, HZ2.out⟩).mono ?_
     rintro e wS ⟨s, v, rfl, hS, hGood, bS⟩
     obtain ⟨lf, tg, A, n, k, B, m, e', C, pp, c, rfl⟩ := shY_form hS
     refine hK.out _ _ (fun _ => HX1.out wS bS) ?_
     clear hK K
     try simp only [Act.put, List.setIfInBounds_toArray, List.set_cons_zero, List.set_cons_succ]
     refine oneT (i := 4) (by kernel_rfl) rfl (by rfl) (fun K hK => ?_)
     go_simp
     obtain ⟨V, q, hV, hq, bV, eV, sV⟩ := Shc.new wS (.bool false) (.bool false) (.slice none 0 0) (.slice none 0 0) (.slice none 0 0)
     (try rw [hV]); (try rw [hq])
     refine hK.out _ _ (fun _ => HX1.out _ (bS.trans (bV.mono bS.size))) ?_
     clear hK K hV
     try simp only [Act.put, List.setIfInBounds_toArray, List.set_cons_zero, List.set_cons_succ]
     have bAll : Below v2.heap.size v2 V := (bX0.trans (bS.mono bX0.size)).trans (bV.mono (bX0.trans (bS.mono bX0.size)).size)
     have hE := shp_end (v := v2) bAll eV (by have := bX0.size; have := bS.size; omega) (ShY.keep (fun b f => bV.block b f.2) (fun b f => f) _ _ hS) (fun b f => ⟨by have := bX0.size; have := f.1; omega, by have := f.2; have := bV.size; omega⟩) (fun f => by have := f.2; omega) hGood
     obtain ⟨c0', c1', c2', c3', c4'⟩ := eV.cells
     obtain ⟨f0', f1', f2', f3', f4'⟩ := eV.frees
     refine oneT (i := 5) (by kernel_rfl) rfl (by rfl) (fun K hK => ?_)
     go_simp
     refine hK.out _ _ (fun h => absurd h (by decide)) ?_
     clear hK K
     try simp only [Act.put, List.setIfInBounds_toArray, List.set_cons_zero, List.set_cons_succ]
     refine doneT (by kernel_rfl) ?_
     have HE := Lib.hid hE
     clear hE
     go_wp2_with fail
     go_meet
     exact ⟨q, rfl, HE.out⟩
    ·go_simp
     obtain ⟨V, q, hV, hq, bV, eV, sV⟩ := Shc.new X0 (.bool false) (.bool false) (.slice none 0 0) (.slice none 0 0) (.slice none 0 0)
     (try rw [hV]); (try rw [hq])
     refine hK.out _ _ (fun _ => HX1.out _ bV) ?_
     clear hK K hV
     try simp only [Act.put, List.setIfInBounds_toArray, List.set_cons_zero, List.set_cons_succ]
     refine oneT (i := 3) (by kernel_rfl) rfl (by rfl) (fun K hK => ?_)
     go_simp
     refine (HSC.out V _ n0 n1 n2 n3 n4 z (HPX.out.below bV) HLB.out ⟨HZ1.out, HZ2.out⟩).mono ?_
     rintro e wS ⟨s, v, rfl, hS, hGood, bS⟩
     obtain ⟨lf, tg, A, n, k, B, m, e', C, pp, c, rfl⟩ := shY_form hS
     refine hK.out _ _ (fun _ => HX1.out wS (bV.trans (bS.mono bV.size))) ?_
     clear hK K
     try simp only [Act.put, List.setIfInBounds_toArray, List.set_cons_zero, List.set_cons_succ]
     have bAll : Below v2.heap.size v2 wS := (bX0.trans (bV.mono bX0.size)).trans (bS.mono (bX0.trans (bV.mono bX0.size)).size)
     have eS := eV.below bS
     have hE := shp_end (v := v2) bAll eS (by have := bX0.size; omega) hS (fun b f => ⟨by have := bX0.size; have := bV.size; have := f.1; omega, f.2⟩) (fun f => by have := f.1; omega) hGood
     obtain ⟨c0', c1', c2', c3', c4'⟩ := eS.cells
     obtain ⟨f0', f1', f2', f3', f4'⟩ := eS.frees
     refine oneT (i := 5) (by kernel_rfl) rfl (by rfl) (fun K hK => ?_)
     go_simp
     refine hK.out _ _ (fun h => absurd h (by decide)) ?_
     clear hK K
     try simp only [Act.put, List.setIfInBounds_toArray, List.set_cons_zero, List.set_cons_succ]
     refine doneT (by kernel_rfl) ?_
     have HE := Lib.hid hE
     clear hE
     go_wp2_with fail
     go_meet
     exact ⟨q, rfl, HE.out⟩
   ·go_simp
    obtain ⟨V, q, hV, hq, bV, eV, sV⟩ := Shc.new X0 (.bool false) (.bool false) (.slice none 0 0) (.slice none 0 0) (.slice none 0 0)
    (try rw [hV]); (try rw [hq])
    refine hK.out _ _ (fun _ => HX1.out _ bV) ?_
    clear hK K hV
    try simp only [Act.put, List.setIfInBounds_toArray, List.set_cons_zero, List.set_cons_succ]
    refine oneT (i := 2) (by kernel_rfl) rfl (by rfl) (fun K hK => ?_)
    go_simp
    refine (wide_walk (w := V) b hb).mono ?_
    rintro e wq ⟨z, rfl, hz1, hz2, -, rfl⟩
    have HZ1 := Lib.hid hz1
    have HZ2 := Lib.hid hz2
    refine hK.out _ _ (fun _ => HX1.out _ bV) ?_
    clear hK K hz1 hz2
    try simp only [Act.put, List.setIfInBounds_toArray, List.set_cons_zero, List.set_cons_succ]
    refine oneT (i := 3) (by kernel_rfl) rfl (by rfl) (fun K hK => ?_)
    go_simp
    refine (HSC.out V _ n0 n1 n2 n3 n4 z (HPX.out.below bV) HLB.out ⟨HZ1.out, HZ2.out⟩).mono ?_
    rintro e wS ⟨s, v, rfl, hS, hGood, bS⟩
    obtain ⟨lf, tg, A, n, k, B, m, e', C, pp, c, rfl⟩ := shY_form hS
    refine hK.out _ _ (fun _ => HX1.out wS (bV.trans (bS.mono bV.size))) ?_
    clear hK K
    try simp only [Act.put, List.setIfInBounds_toArray, List.set_cons_zero, List.set_cons_succ]
    have bAll : Below v2.heap.size v2 wS := (bX0.trans (bV.mono bX0.size)).trans (bS.mono (bX0.trans (bV.mono bX0.size)).size)
    have eS := eV.below bS
    have hE := shp_end (v := v2) bAll eS (by have := bX0.size; omega) hS (fun b f => ⟨by have := bX0.size; have := bV.size; have := f.1; omega, f.2⟩) (fun f => by have := f.1; omega) hGood
    obtain ⟨c0', c1', c2', c3', c4'⟩ := eS.cells
    obtain ⟨f0', f1', f2', f3', f4'⟩ := eS.frees
    refine oneT (i := 5) (by kernel_rfl) rfl (by rfl) (fun K hK => ?_)
    go_simp
    refine hK.out _ _ (fun h => absurd h (by decide)) ?_
    clear hK K
    try simp only [Act.put, List.setIfInBounds_toArray, List.set_cons_zero, List.set_cons_succ]
    refine doneT (by kernel_rfl) ?_
    have HE := Lib.hid hE
    clear hE
    go_wp2_with fail
    go_meet
    exact ⟨q, rfl, HE.out⟩
  case rest =>
   obtain ⟨q, rfl, HSP⟩ := hcut
   obtain ⟨s, Y, ⟨lf, tg, A, n, k, B, m, e', C, pp, c, hq, hS⟩, hGood, hbw, hge, hr, nq⟩ := HSP.out
   clear HSP
   have HG := Lib.hid hGood
   have HBW := Lib.hid hbw
   have HGE := Lib.hid hge
   have HNQ : Hid (¬ Y q) := nq
   go_upto_region 6 with fail
   obtain ⟨V, hV, bV⟩ : ∃ V : World, wc.drew = V ∧ Below wc.heap.size wc V := ⟨_, rfl, (Below.refl _ wc).drew⟩
   have HQ := Lib.hid (hq.below bV)
   have hSV : ShY Y V s (shv lf tg (.slice A n k) (.slice B m e') (.slice C pp c)) := ShY.keep (fun b f => bV.block b (hr b f).2) (fun b f => f) _ _ hS
   have HR : Hid (∀ b, Y b → b < V.heap.size) := fun b f => Nat.lt_of_lt_of_le (hr b f).2 bV.size
   have HSV := Lib.hid hSV
   have HBV : Hid (Below v2.heap.size v2 V) := hbw.trans (bV.mono hbw.size)
   have hC := HQ.out.cells
   clear hq hS hGood hbw hge nq hSV bV hr
   refine region_T (fun _ => false) (fun w' : World => w'.cell? ⟨q, 0, none⟩ = some (.bool lf) ∧ w'.cell? ⟨q, 1, none⟩ = some (.bool tg) ∧ w'.cell? ⟨q, 2, none⟩ = some (.slice A n k) ∧ w'.cell? ⟨q, 3, none⟩ = some (.slice B m e') ∧ w'.cell? ⟨q, 4, none⟩ = some (.slice C pp c)) (by kernel_rfl) ?_
   rw [hV]
   clear hV
   refine takeX 0 21 (v := ?_) rfl rfl (by kernel_rfl) (by kernel_rfl) (by kernel_rfl) (by kernel_rfl) (by kernel_rfl) (fun _ _ _ _ h => h) hC (by rfl) ?_ ?_
   rotate_left
   ·intro w hSw; (try dsimp only at hSw); go_simp; try (with_reducible rfl)
   simp only [List.setIfInBounds_toArray, List.set_cons_zero, List.set_cons_succ]
   refine takeX 2 23 (v := ?_) rfl rfl (by kernel_rfl) (by kernel_rfl) (by kernel_rfl) (by kernel_rfl) (by kernel_rfl) (fun _ _ _ _ h => h) hC (by rfl) ?_ ?_
   rotate_left
   ·intro w hSw; (try dsimp only at hSw); go_simp; try (with_reducible rfl)
   simp only [List.setIfInBounds_toArray, List.set_cons_zero, List.set_cons_succ]
   refine oneT (i := 1) (by kernel_rfl) rfl (by rfl) (fun K hK => ?_)
   go_simp
   refine (wide_walk (w := V) b hb).mono ?_
   rintro e wq ⟨z, rfl, hz1, hz2, -, rfl⟩
   refine hK.out _ _ (fun _ => hC) ?_
   clear hK K
   try simp only [Act.put, List.setIfInBounds_toArray, List.set_cons_zero, List.set_cons_succ]
   refine oneT (i := 3) (by kernel_rfl) rfl (by rfl) (fun K hK => ?_)
   go_simp
   have hwld := world_walk (a := 2) (b := (z : Int)) (t := 1) (room := 0) (rec := 1) HG.out.small (ShY.low HR.out _ _ HSV.out) (Nat.le_refl _) (by omega) (by omega) (by omega) (by omega) (by have := HG.out.many; omega) (by omega)
   obtain ⟨M, hM⟩ : ∃ M, ((2 : Int) + s.many + 0).toNat = M := ⟨_, rfl⟩
   have HMM := Lib.hid hM
   rw [hM] at hwld
   refine hwld.mono ?_
   clear hwld hM
   intro e w4 hWW
   obtain ⟨d, rfl, hen, hM4, b4⟩ := mb_begin HBV.out (Array.getElem?_eq_some_iff.1 HQ.out).1 HR.out hWW
   have HQ4 := Lib.hid (HQ.out.below b4)
   refine hK.out _ _ (fun _ => HQ4.out.cells) ?_
   clear hK K hC
   try simp only [Act.put, List.setIfInBounds_toArray, List.set_cons_zero, List.set_cons_succ]
   have hC := HQ4.out.cells
   refine takeX 4 6 (v := ?_) rfl rfl (by kernel_rfl) (by kernel_rfl) (by kernel_rfl) (by kernel_rfl) (by kernel_rfl) (fun _ _ _ _ h => h) hC (by rfl) ?_ ?_
   rotate_left
   ·intro w hSw; (try dsimp only at hSw); go_simp; try (with_reducible rfl)
   simp only [List.setIfInBounds_toArray, List.set_cons_zero, List.set_cons_succ]
   refine doneT (by kernel_rfl) ?_
   have HSV4 : Hid (ShY Y w4 s (shv lf tg (.slice A n k) (.slice B m e') (.slice C pp c))) := ShY.keep (fun b f => b4.block b (HR.out b f)) (fun b f => f) _ _ HSV.out
   have HM4 := Lib.hid hM4
   have HEN := Lib.hid hen
   clear hWW hC hM4 hen b4 HQ HSV
   have hdm := deep_many s
   have hmm := HG.out.many
   have hdp := HG.out.deep
   have hM2 : M = 2 + s.many := by have := HMM.out; omega
   have HM2 : Hid (M ≤ 70000 ∧ s.deep + 1 ≤ M ∧ s.deep ≤ 200 ∧ s.many ≤ 5000) := ⟨by omega, by omega, hdp, hmm⟩
   have HAS := Lib.hid (all_asc s.many s (Nat.le_refl _) HG.out.wf HG.out.ord)
   have HPB : Hid (s.all.length ≤ 50) := HG.out.pairs
   clear hdm hmm hdp hM2
   go_upto_region 7 with fail
   obtain ⟨z0, z1, z2, z3, z4⟩ := HQ4.out.cells
   go_wp2_with fail
   refine (all_walk s.many s (Nat.le_refl _) HG.out.small (by have := HPB.out; omega) w4.heap.size w4 _ (ShY.low (fun b f => HM4.out.lt b (.inr f)) _ _ HSV4.out) (Nat.le_refl _)).mono ?_
   clear z0 z1 z2 z3 z4
   rintro e w5 ⟨v5, rfl, hp5, b5⟩
   obtain ⟨A5, c5, rfl, -⟩ := hp5.form
   obtain ⟨n5, hn5⟩ : ∃ z, s.all.length = z := ⟨_, rfl⟩
   rw [hn5] at hp5 ⊢
   have HN5 := Lib.hid hn5
   have hown5 : ∀ b, (Value.slice A5 n5 c5).ownBlock = some b → w4.heap.size ≤ b ∧ b < w5.heap.size := fun b f => World.ownsRow.lt hp5 b f
   have HJ : Hid (MB v2 (fun b => (b = q ∨ Y b) ∨ (Value.slice A5 n5 c5).ownBlock = some b) d 0 0 h0 o0 (plantSig M 1 s) w5 ∧ Shc w5 q (.bool lf) (.bool tg) (.slice A n k) (.slice B m e') (.slice C pp c) ∧ ShY Y w5 s (shv lf tg (.slice A n k) (.slice B m e') (.slice C pp c)) ∧ Prs 0 w5 (.slice A5 n5 c5) s.all) := by
    refine ⟨HM4.out.more b5 (fun b f => f.imp id (hown5 b)) (.inl rfl), HQ4.out.below b5, ShY.keep (fun b f => b5.block b (HM4.out.lt b (.inr f))) (fun b f => f) _ _ HSV4.out, hp5.lower (Nat.zero_le _)⟩
   clear hp5 b5 hown5 hn5 HM4 HQ4 HSV4
   go_wp2_with fail
   go_loopg [28] n5 (fun gk iv wr => ∃ j : Nat, j + gk = n5 ∧ iv = .int .i64 (j : Int) ∧ Hid (MB v2 (fun b => (b = q ∨ Y b) ∨ (Value.slice A5 n5 c5).ownBlock = some b) d 0 0 h0 o0 (plantSig M 1 s) wr ∧ Shc wr q (.bool lf) (.bool tg) (.slice A n k) (.slice B m e') (.slice C pp c) ∧ ShY Y wr s (shv lf tg (.slice A n k) (.slice B m e') (.slice C pp c)) ∧ Prs 0 wr (.slice A5 n5 c5) s.all))
   case atStart => exact ⟨0, by omega, rfl, HJ.out⟩
   case round =>
    clear HJ
    obtain ⟨j, hj, rfl, HH⟩ := hrel
    by_cases hlt : j < n5
    case neg =>
     have i1 : ¬ ((j : Int) < (n5 : Int)) := by omega
     have HE : Hid (Below w.heap.size w wr) := HBW2.out.trans (HH.out.1.bel.mono HBW2.out.size)
     clear HH
     go_wp2
     go_ret
     exact ⟨rfl, HE.out⟩
    have i1 : (j : Int) < (n5 : Int) := by omega
    have i0 : (0 : Int) ≤ (j : Int) := by omega
    have hkw : IntKind.i64.wrap ((j : Int) + 1) = (j : Int) + 1 := IntWalk.i64_in _ (by have := HPB.out; have := HN5.out; omega)
    obtain ⟨hM, hQ, hS, hP⟩ := HH.out
    have hjl : j < s.all.length := by have := HN5.out; omega
    obtain ⟨bb, off, rfl, hbl, c1', c2'⟩ := hP.lp.lf.at_ hjl
    obtain ⟨px, hpx⟩ : ∃ px, s.all[j]'hjl = px := ⟨_, rfl⟩
    rw [hpx] at c1' c2'
    have hmem : px ∈ s.all := by rw [← hpx]; exact List.getElem_mem hjl
    obtain ⟨l0, x0, x1, i0', i1', p0, p1, hpa, hl0, -, -, -, -, -, -, hvl⟩ := path_last (key := px.1) (m := M) HG.out
    have hvx := hvl px hmem rfl
    obtain ⟨V, kb, hV, hkb, bV, k0, k1⟩ : ∃ (V : World) (kb : Nat), wr.alloc (.cells #[.int .i64 px.1, .int .i64 px.2] 108) = V ∧ wr.heap.size = kb ∧ Below wr.heap.size wr V ∧ V.cell? ⟨kb, 0, none⟩ = some (.int .i64 px.1) ∧ V.cell? ⟨kb, 1, none⟩ = some (.int .i64 px.2) := ⟨_, _, rfl, rfl, below_new _ _, c_new rfl rfl, c_new rfl rfl⟩
    have hkl : kb < V.heap.size := World.block_lt_of_cell? V _ k0
    have hMV : MB v2 (fun b => ((b = q ∨ Y b) ∨ (Value.slice (some ⟨bb, off, none⟩) n5 c5).ownBlock = some b) ∨ b = kb) d 0 0 h0 o0 (plantSig M 1 s) V := hM.more bV (fun b f => f.imp id fun f => ⟨by omega, by omega⟩) (.inl rfl)
    have hst := hMV.finder (nds := ndsT s) (rk := rkT s) (M := 1) (mo := M) (D := s.deep + 1) (key := px.1) (Bn := kb) (nds_ok HG.out.wf HG.out.small) (nds_asc HG.out.wf HG.out.small HG.out.ord) HM2.out.1 HM2.out.2.1 (by rw [HEN.out]; exact ok1_plant (by have := HM2.out; omega)) k0 (.inr (.inr rfl))
    rw [HEN.out] at hst
    have HST := Lib.hid hst
    have HMV := Lib.hid hMV
    have HPA := Lib.hid hpa
    have HL0 := Lib.hid hl0
    have HVX := Lib.hid hvx
    have HQV := Lib.hid (hQ.below bV)
    have HSV : Hid (ShY Y V s (shv lf tg (.slice A n k) (.slice B m e') (.slice C pp c))) := ShY.keep (fun b f => bV.block b (hM.lt b (.inl (.inr f)))) (fun b f => f) _ _ hS
    have HPV : Hid (Prs 0 V (.slice (some ⟨bb, off, none⟩) n5 c5) s.all) := hP.next bV
    have HK0 := Lib.hid k0
    have HK1 := Lib.hid k1
    have HG0 : Hid (∀ w', Below wr.heap.size wr w' → w'.cell? ⟨d.W, 0, none⟩ = some (ptr d.A)) := fun w' h => below_read h hM.cells.1
    clear hM hQ hS hP hjl hbl hpx hmem hpa hl0 hvl hvx bV k0 k1 hkl hMV hst HH
    go_upto_region 10 with fail
    (try rw [hV]); (try rw [hkb])
    clear hV hkb c1' c2'
    go_wp2_with fail
    refine HST.out.mono ?_
    clear HST
    rintro e w6 ⟨a, rfl, hM6, b6⟩
    have hsm := HM2.out
    have hln : (pathS (ndsT s) px.1 (plantSig M 1 s) (s.deep + 2) m11).length - 1 = l0.length + 1 := by rw [HPA.out]; simp
    have hout : ffOut px.1 ([] ++ pathS (ndsT s) px.1 (plantSig M 1 s) (s.deep + 2) m11) = [px.2] := by
     rw [List.nil_append, HPA.out, ffOut_two, HVX.out]
    obtain ⟨nN, hnN⟩ : ∃ z, l0.length + 1 = z := ⟨_, rfl⟩
    rw [hnN] at hln
    have hnb : 1 ≤ nN ∧ nN ≤ s.deep + 1 := by have := HL0.out; omega
    have hal := hM6.aloneW (i := 0) (K := ffOut px.1) (r := m11) (f := s.deep + 1) (acc := []) (key := px.1) (v := [px.2]) (k := nN) (N := nN) (kz := (nN : Int)) (by omega) (upd_at ..) (by rw [upd_at]) (ski_plant HG.out.wf HG.out.small (by omega)) (fit_plant HG.out.wf HG.out.small (by omega)) (ok1_plant (by omega)) hout hln (Nat.le_refl _) (by omega) (by simp) (by rw [Nat.max_eq_left (by omega)])
    rw [upd_at] at hal
    have HAL := Lib.hid hal
    have HB6 := Lib.hid b6
    have HNB := Lib.hid hnb
    clear hM6 hln hout hal b6 hsm hnN hnb
    go_wp2_with fail
    refine HAL.out.mono ?_
    clear HAL
    rintro e w7 ⟨A9, m9, c9, rfl, hr9, hM7, hK7⟩
    have hsl := hr9.sl
    obtain rfl : m9 = 1 := hsl.len
    obtain ⟨g9, o9, rfl, -, -⟩ := hsl.at_ (k := 0) (by simp)
    have HSL := Lib.hid hsl
    have HJ7 : Hid (MB v2 (fun b => (b = q ∨ Y b) ∨ (Value.slice (some ⟨bb, off, none⟩) n5 c5).ownBlock = some b) d 0 0 h0 o0 (plantSig M 1 s) w7 ∧ Shc w7 q (.bool lf) (.bool tg) (.slice A n k) (.slice B m e') (.slice C pp c) ∧ ShY Y w7 s (shv lf tg (.slice A n k) (.slice B m e') (.slice C pp c)) ∧ Prs 0 w7 (.slice (some ⟨bb, off, none⟩) n5 c5) s.all) := by
     have h0 : MB v2 (fun b => ((b = q ∨ Y b) ∨ (Value.slice (some ⟨bb, off, none⟩) n5 c5).ownBlock = some b) ∨ b = kb) d 0 0 h0 o0 (plantSig M 1 s) w7 := ⟨hM7.me.reset, hM7.bel⟩
     refine ⟨h0.mono fun b f => .inl f, (HQV.out.below HB6.out).at_ (hK7.block q (.inr (.inl (.inl (.inl rfl))))), ShY.keep (fun b f => (hK7.block b (.inr (.inl (.inl (.inr f))))).trans (HB6.out.block b (HMV.out.lt b (.inl (.inl (.inr f)))))) (fun b f => f) _ _ HSV.out, own_at HPV.out fun b f => (hK7.block b (.inr (.inl (.inr f)))).trans (HB6.out.block b (HMV.out.lt b (.inl (.inr f))))⟩
    have HK7 : Hid (w7.cell? ⟨kb, 1, none⟩ = some (.int .i64 px.2)) := cell_same (hK7.block kb (.inr (.inr rfl))) (below_read HB6.out HK1.out)
    clear hr9 hM7 hK7 hsl HMV HQV HSV HPV HB6 HK0 HK1
    go_upto_region 11 with fail
    obtain ⟨W0, hW0, b0⟩ : ∃ W0 : World, w7.drew = W0 ∧ Below w7.heap.size w7 W0 := ⟨_, rfl, (Below.refl _ w7).drew⟩
    have HC : Hid (∀ w', Below w7.heap.size w7 w' → w'.cell? ⟨g9, o9, none⟩ = some (.int .i64 px.2) ∧ w'.cell? ⟨kb, 1, none⟩ = some (.int .i64 px.2) ∧ w'.cell? ⟨q, 0, none⟩ = some (.bool lf) ∧ w'.cell? ⟨q, 1, none⟩ = some (.bool tg) ∧ w'.cell? ⟨q, 2, none⟩ = some (.slice A n k) ∧ w'.cell? ⟨q, 3, none⟩ = some (.slice B m e') ∧ w'.cell? ⟨q, 4, none⟩ = some (.slice C pp c)) := fun w' h =>
     ⟨sl_get (HSL.out.below h) (i := 0) rfl, below_read h HK7.out, (HJ7.out.2.1.below h).cells⟩
    have HB0 := Lib.hid b0
    obtain ⟨dd, hdd⟩ : ∃ z, s.deep = z := ⟨_, rfl⟩
    have hD := deep_walk s.many s (Nat.le_refl _) (by have := HM2.out; omega) (by have := HM2.out; omega) W0.heap.size W0 _ (ShY.low (fun b f => Nat.lt_of_lt_of_le (HJ7.out.1.lt b (.inl (.inr f))) b0.size) _ _ (ShY.keep (fun b f => b0.block b (HJ7.out.1.lt b (.inl (.inr f)))) (fun b f => f) _ _ HJ7.out.2.2.1)) (Nat.le_refl _)
    rw [hdd] at hD
    have HDW := Lib.hid hD
    obtain ⟨d1, hd1⟩ : ∃ z, dd + 1 = z := ⟨_, rfl⟩
    have hw1 : IntKind.i64.wrap (1 + (dd : Int)) = (d1 : Int) := by
     have := HM2.out
     rw [show 1 + (dd : Int) = (d1 : Int) from by omega]; exact IntWalk.i64_in _ (by omega)
    have hng : ¬ ((d1 : Int) < (nN : Int)) := by have := HNB.out; omega
    clear b0 hD hdd hd1
    refine region_T (fun _ => false) (fun w' : World => w'.cell? ⟨g9, o9, none⟩ = some (.int .i64 px.2) ∧ w'.cell? ⟨kb, 1, none⟩ = some (.int .i64 px.2) ∧ w'.cell? ⟨q, 0, none⟩ = some (.bool lf) ∧ w'.cell? ⟨q, 1, none⟩ = some (.bool tg) ∧ w'.cell? ⟨q, 2, none⟩ = some (.slice A n k) ∧ w'.cell? ⟨q, 3, none⟩ = some (.slice B m e') ∧ w'.cell? ⟨q, 4, none⟩ = some (.slice C pp c)) (by kernel_rfl) ?_
    rw [hW0]
    clear hW0
    have hC := HC.out W0 HB0.out
    refine takeX 0 40 (v := ?_) rfl rfl (by kernel_rfl) (by kernel_rfl) (by kernel_rfl) (by kernel_rfl) (by kernel_rfl) (fun _ _ _ _ h => h) hC (by rfl) ?_ ?_
    rotate_left
    ·intro w hSw; (try dsimp only at hSw); go_simp; try (with_reducible rfl)
    simp only [List.setIfInBounds_toArray, List.set_cons_zero, List.set_cons_succ]
    refine takeX 1 41 (v := ?_) rfl rfl (by kernel_rfl) (by kernel_rfl) (by kernel_rfl) (by kernel_rfl) (by kernel_rfl) (fun _ _ _ _ h => h) hC (by rfl) ?_ ?_
    rotate_left
    ·intro w hSw; (try dsimp only at hSw); go_simp; try (with_reducible rfl)
    simp only [List.setIfInBounds_toArray, List.set_cons_zero, List.set_cons_succ]
    refine takeX 2 42 (v := ?_) rfl rfl (by kernel_rfl) (by kernel_rfl) (by kernel_rfl) (by kernel_rfl) (by kernel_rfl) (fun _ _ _ _ h => h) hC (by rfl) ?_ ?_
    rotate_left
    ·intro w hSw; (try dsimp only at hSw); go_simp; try (with_reducible rfl)
    simp only [List.setIfInBounds_toArray, List.set_cons_zero, List.set_cons_succ]
    refine takeX 3 43 (v := ?_) rfl rfl (by kernel_rfl) (by kernel_rfl) (by kernel_rfl) (by kernel_rfl) (by kernel_rfl) (fun _ _ _ _ h => h) hC (by rfl) ?_ ?_
    rotate_left
    ·intro w hSw; (try dsimp only at hSw); go_simp; try (with_reducible rfl)
    simp only [List.setIfInBounds_toArray, List.set_cons_zero, List.set_cons_succ]
    refine takeX 4 44 (v := ?_) rfl rfl (by kernel_rfl) (by kernel_rfl) (by kernel_rfl) (by kernel_rfl) (by kernel_rfl) (fun _ _ _ _ h => h) hC (by rfl) ?_ ?_
    rotate_left
    ·intro w hSw; (try dsimp only at hSw); go_simp; try (with_reducible rfl)
    simp only [List.setIfInBounds_toArray, List.set_cons_zero, List.set_cons_succ]
    refine takeX 5 45 (v := ?_) rfl rfl (by kernel_rfl) (by kernel_rfl) (by kernel_rfl) (by kernel_rfl) (by kernel_rfl) (fun _ _ _ _ h => h) hC (by rfl) ?_ ?_
    rotate_left
    ·intro w hSw; (try dsimp only at hSw); go_simp; try (with_reducible rfl)
    simp only [List.setIfInBounds_toArray, List.set_cons_zero, List.set_cons_succ]
    refine takeX 6 46 (v := ?_) rfl rfl (by kernel_rfl) (by kernel_rfl) (by kernel_rfl) (by kernel_rfl) (by kernel_rfl) (fun _ _ _ _ h => h) hC (by rfl) ?_ ?_
    rotate_left
    ·intro w hSw; (try dsimp only at hSw); go_simp; try (with_reducible rfl)
    simp only [List.setIfInBounds_toArray, List.set_cons_zero, List.set_cons_succ]
    refine takeX 7 47 (v := ?_) rfl rfl (by kernel_rfl) (by kernel_rfl) (by kernel_rfl) (by kernel_rfl) (by kernel_rfl) (fun _ _ _ _ h => h) hC (by rfl) ?_ ?_
    rotate_left
    ·intro w hSw; (try dsimp only at hSw); go_simp; try (with_reducible rfl)
    simp only [List.setIfInBounds_toArray, List.set_cons_zero, List.set_cons_succ]
    refine takeX 8 48 (v := ?_) rfl rfl (by kernel_rfl) (by kernel_rfl) (by kernel_rfl) (by kernel_rfl) (by kernel_rfl) (fun _ _ _ _ h => h) hC (by rfl) ?_ ?_
    rotate_left
    ·intro w hSw; (try dsimp only at hSw); go_simp; try (with_reducible rfl)
    simp only [List.setIfInBounds_toArray, List.set_cons_zero, List.set_cons_succ]
    refine takeX 9 49 (v := ?_) rfl rfl (by kernel_rfl) (by kernel_rfl) (by kernel_rfl) (by kernel_rfl) (by kernel_rfl) (fun _ _ _ _ h => h) hC (by rfl) ?_ ?_
    rotate_left
    ·intro w hSw; (try dsimp only at hSw); go_simp; try (with_reducible rfl)
    simp only [List.setIfInBounds_toArray, List.set_cons_zero, List.set_cons_succ]
    refine takeX 10 50 (v := ?_) rfl rfl (by kernel_rfl) (by kernel_rfl) (by kernel_rfl) (by kernel_rfl) (by kernel_rfl) (fun _ _ _ _ h => h) hC (by rfl) ?_ ?_
    rotate_left
    ·intro w hSw; (try dsimp only at hSw); go_simp; try (with_reducible rfl)
    simp only [List.setIfInBounds_toArray, List.set_cons_zero, List.set_cons_succ]
    refine takeX 11 51 (v := ?_) rfl rfl (by kernel_rfl) (by kernel_rfl) (by kernel_rfl) (by kernel_rfl) (by kernel_rfl) (fun _ _ _ _ h => h) hC (by rfl) ?_ ?_
    rotate_left
    ·intro w hSw; (try dsimp only at hSw); go_simp; try (with_reducible rfl)
    simp only [List.setIfInBounds_toArray, List.set_cons_zero, List.set_cons_succ]
    refine takeX 12 52 (v := ?_) rfl rfl (by kernel_rfl) (by kernel_rfl) (by kernel_rfl) (by kernel_rfl) (by kernel_rfl) (fun _ _ _ _ h => h) hC (by rfl) ?_ ?_
    rotate_left
    ·intro w hSw; (try dsimp only at hSw); go_simp; try (with_reducible rfl)
    simp only [List.setIfInBounds_toArray, List.set_cons_zero, List.set_cons_succ]
    refine takeX 13 53 (v := ?_) rfl rfl (by kernel_rfl) (by kernel_rfl) (by kernel_rfl) (by kernel_rfl) (by kernel_rfl) (fun _ _ _ _ h => h) hC (by rfl) ?_ ?_
    rotate_left
    ·intro w hSw; (try dsimp only at hSw); go_simp; try (with_reducible rfl)
    simp only [List.setIfInBounds_toArray, List.set_cons_zero, List.set_cons_succ]
    refine takeX 14 54 (v := ?_) rfl rfl (by kernel_rfl) (by kernel_rfl) (by kernel_rfl) (by kernel_rfl) (by kernel_rfl) (fun _ _ _ _ h => h) hC (by rfl) ?_ ?_
    rotate_left
    ·intro w hSw; (try dsimp only at hSw); go_simp; try (with_reducible rfl)
    simp only [List.setIfInBounds_toArray, List.set_cons_zero, List.set_cons_succ]
    refine takeX 15 55 (v := ?_) rfl rfl (by kernel_rfl) (by kernel_rfl) (by kernel_rfl) (by kernel_rfl) (by kernel_rfl) (fun _ _ _ _ h => h) hC (by rfl) ?_ ?_
    rotate_left
    ·intro w hSw; (try dsimp only at hSw); go_simp; try (with_reducible rfl)
    simp only [List.setIfInBounds_toArray, List.set_cons_zero, List.set_cons_succ]
    refine takeX 16 56 (v := ?_) rfl rfl (by kernel_rfl) (by kernel_rfl) (by kernel_rfl) (by kernel_rfl) (by kernel_rfl) (fun _ _ _ _ h => h) hC (by rfl) ?_ ?_
    rotate_left
    ·intro w hSw; (try dsimp only at hSw); go_simp; try (with_reducible rfl)
    simp only [List.setIfInBounds_toArray, List.set_cons_zero, List.set_cons_succ]
    refine takeX 17 57 (v := ?_) rfl rfl (by kernel_rfl) (by kernel_rfl) (by kernel_rfl) (by kernel_rfl) (by kernel_rfl) (fun _ _ _ _ h => h) hC (by rfl) ?_ ?_
    rotate_left
    ·intro w hSw; (try dsimp only at hSw); go_simp; try (with_reducible rfl)
    simp only [List.setIfInBounds_toArray, List.set_cons_zero, List.set_cons_succ]
    clear hC
    refine oneT (i := 18) (by kernel_rfl) rfl (by rfl) (fun KK hK => ?_)
    go_simp
    refine HDW.out.mono ?_
    rintro e w8 ⟨rfl, b8⟩
    have HB8 : Hid (Below w7.heap.size w7 w8) := HB0.out.trans (b8.mono HB0.out.size)
    refine hK.out _ _ (fun _ => HC.out w8 HB8.out) ?_
    clear hK KK b8 HDW
    try simp only [Act.put, List.setIfInBounds_toArray, List.set_cons_zero, List.set_cons_succ]
    have hC := HC.out w8 HB8.out
    refine takeX 19 59 (v := ?_) rfl rfl (by kernel_rfl) (by kernel_rfl) (by kernel_rfl) (by kernel_rfl) (by kernel_rfl) (fun _ _ _ _ h => h) hC (by rfl) ?_ ?_
    rotate_left
    ·intro w hSw; (try dsimp only at hSw); go_simp; try (with_reducible rfl)
    simp only [List.setIfInBounds_toArray, List.set_cons_zero, List.set_cons_succ]
    refine takeX 20 60 (v := ?_) rfl rfl (by kernel_rfl) (by kernel_rfl) (by kernel_rfl) (by kernel_rfl) (by kernel_rfl) (fun _ _ _ _ h => h) hC (by rfl) ?_ ?_
    rotate_left
    ·intro w hSw; (try dsimp only at hSw); go_simp; try (with_reducible rfl)
    simp only [List.setIfInBounds_toArray, List.set_cons_zero, List.set_cons_succ]
    refine takeX 21 61 (v := ?_) rfl rfl (by kernel_rfl) (by kernel_rfl) (by kernel_rfl) (by kernel_rfl) (by kernel_rfl) (fun _ _ _ _ h => h) hC (by rfl) ?_ ?_
    rotate_left
    ·intro w hSw; (try dsimp only at hSw); go_simp; try (with_reducible rfl)
    simp only [List.setIfInBounds_toArray, List.set_cons_zero, List.set_cons_succ]
    clear hC
    refine doneT (by kernel_rfl) ?_
    have HE : Hid (MB v2 (fun b => (b = q ∨ Y b) ∨ (Value.slice (some ⟨bb, off, none⟩) n5 c5).ownBlock = some b) d 0 0 h0 o0 (plantSig M 1 s) w8 ∧ Shc w8 q (.bool lf) (.bool tg) (.slice A n k) (.slice B m e') (.slice C pp c) ∧ ShY Y w8 s (shv lf tg (.slice A n k) (.slice B m e') (.slice C pp c)) ∧ Prs 0 w8 (.slice (some ⟨bb, off, none⟩) n5 c5) s.all) :=
     ⟨HJ7.out.1.below HB8.out, HJ7.out.2.1.below HB8.out, ShY.keep (fun b f => HB8.out.block b (HJ7.out.1.lt b (.inl (.inr f)))) (fun b f => f) _ _ HJ7.out.2.2.1, HJ7.out.2.2.2.next HB8.out⟩
    clear HC HJ7 HK7 hw1 hng
    go_wp2_with fail
    go_roundg (gk - 1)
    case measure => omega
    case rel => exact ⟨j + 1, by omega, by go_num, HE.out⟩
end Go.Proofs.Ytmnldlhpiapalaa
