/-
 tagged: two trees side by side below a tagged node.
-/
import Derived.Test.YtmnldlhpiapalaaPi
import Derived.Deep.Cut
namespace Go.Proofs.Ytmnldlhpiapalaa
open Go.ChangeShapes Go.WideShapes Go.ChangeAt Go.RowKit
set_option linter.unusedVariables false
set_option linter.unusedSimpArgs false
set_option maxRecDepth 20000

set_option maxHeartbeats 4000000 in
theorem tagged_walk {w : World} {Y : Nat → Prop} {lf tg : Bool} {ps : List (Int × Int)} {ks : List Int} {kids : List Sh} {v : Value} {j : Nat} (h : ShY Y w (.mk lf tg ps ks kids) v) (hY : ∀ b, Y b → b < w.heap.size) (hw : (Sh.mk lf tg ps ks kids).wf) (hs : (Sh.mk lf tg ps ks kids).small) (hj : j ≤ 1000) :
  Calls Try.prog 72 #[v, .int .i64 (j : Int)] w fun e w' => ∃ s' v', e = .returned v' ∧ ShY (fun b => Y b ∨ w.heap.size ≤ b ∧ b < w'.heap.size) w' s' v' ∧ Below w.heap.size w w' ∧ s'.wf ∧ s'.small ∧ s'.many ≤ (Sh.mk lf tg ps ks kids).many + 1 ∧ s'.deep ≤ (Sh.mk lf tg ps ks kids).deep + 1 ∧ ((Sh.mk lf tg ps ks kids).ord → s'.ord ∧ s'.all = (Sh.mk lf tg ps ks kids).all) := by
 obtain ⟨A, n, c, B, m, e, C, p, q, rfl, k1, k2, k3, k4, k5, k6, k7⟩ := id h
 obtain ⟨L, hL⟩ : ∃ L, L = w.heap.size := ⟨_, rfl⟩
 rw [← hL]
 have HL := Lib.hid hL
 clear hL
 have HS := Lib.hid h
 have HW := Lib.hid hw
 have HSM := Lib.hid hs
 have HY := Lib.hid hY
 obtain ⟨X, px, hX, hpx, bX, eX, sX⟩ := Shc.new w (.bool lf) (.bool tg) (.slice A n c) (.slice B m e) (.slice C p q)
 obtain ⟨V, u, hV, hu, bV, eV, sV⟩ := Shc.new X (.bool false) (.bool false) (.slice none 0 0) (.slice none 0 0) (.slice none 0 0)
 have bXV := bX.trans (bV.mono bX.size)
 have HXV := Lib.hid bXV
 have eX2 := eX.below bV
 obtain ⟨x0, x1, x2, x3, x4⟩ := eX2.cells
 obtain ⟨f0, f1, f2, f3, f4⟩ := eV.frees
 obtain ⟨z0, z1, z2, z3, z4⟩ := eV.cells
 have HEX := Lib.hid eX2
 have HEV := Lib.hid eV
 have HUX : Hid (w.heap.size ≤ u ∧ u < V.heap.size) := ⟨by have := bX.size; omega, by omega⟩
 have HKS := Lib.hid (k3.below bXV)
 have hpl : p ≤ 100 := by rw [k5]; exact hs.2.2.1
 by_cases hp : p < 3
 ·have hpi : (p : Int) < 3 := by omega
  clear h hw hs hY bX bV eX sX eV sV k1 k2 k3 k4 k5 k6 k7 bXV eX2
  go_enter Try.func72, Try.ntmps72
  go_wp2_with fail
  (try rw [hX]); (try rw [hpx]); (try rw [hV]); (try rw [hu])
  go_wp2
  ((try simp only [Exit.inBlock, Exit.then]); refine bodyPost_ret (results_shc rfl rfl HEV.out.put) rfl ?_)
  have hL := HL.out
  subst hL
  have ho := only_put5 V u (.bool lf) (.bool tg) (.slice A n c) (.slice B m e) (.slice C p q)
  have hbl := HXV.out.trans (ho.below (fun b f => by rw [f]; exact HUX.out.1) HXV.out.size)
  exact ⟨_, _, rfl, ShY.keep (fun b f => hbl.block b (HY.out b f)) (fun b f => .inl f) _ _ HS.out, hbl, HW.out, HSM.out, Nat.le_succ _, Nat.le_succ _, fun h => ⟨h, rfl⟩⟩
 ·have hpi : ¬ (p : Int) < 3 := by omega
  obtain ⟨g, off, rfl, hYg, hKC⟩ : ∃ g off, C = some ⟨g, off, none⟩ ∧ Y g ∧ ShYC Y w kids g off := by
   rcases k7 with f | f
   ·rw [f] at k5; simp at k5; omega
   ·exact f
  have hkl : ks.length + 1 = kids.length := by
   rcases hw.1 with f | f
   ·rw [f.2.1] at k5; simp at k5; omega
   ·exact f.2
  obtain ⟨a, ha⟩ : ∃ a : Nat, min j (p - 2) = a := ⟨_, rfl⟩
  have hmin : min (j : Int) ((p : Int) - 2) = (a : Int) := by omega
  have hap : a + 2 ≤ p := by omega
  obtain ⟨a1, ha1⟩ : ∃ a1 : Nat, a + 1 = a1 := ⟨_, rfl⟩
  obtain ⟨a2, ha2⟩ : ∃ a2 : Nat, a + 2 = a2 := ⟨_, rfl⟩
  have hwr2 : IntKind.i64.wrap ((a : Int) + 2) = (a2 : Int) := by rw [← ha2]; exact IntWalk.i64_in _ (by omega)
  have HA2 := Lib.hid ha2
  have hwr : IntKind.i64.wrap ((a : Int) + 1) = (a1 : Int) := by rw [← ha1]; exact IntWalk.i64_in _ (by omega)
  have hml : m = ks.length := k3.len
  obtain ⟨gb, ob, rfl, hgb, hcz0⟩ := k3.at_ (k := a) (by omega)
  obtain ⟨z, hz, hcz⟩ : ∃ z, ks[a]? = some z ∧ w.cell? ⟨gb, ob + a, none⟩ = some (.int .i64 z) := ⟨_, List.getElem?_eq_getElem (by omega), hcz0⟩
  clear hcz0
  obtain ⟨x, hx⟩ : ∃ x, kids[a]? = some x := ⟨_, List.getElem?_eq_getElem (by omega)⟩
  obtain ⟨y, hy⟩ : ∃ y, kids[a1]? = some y := ⟨_, List.getElem?_eq_getElem (by omega)⟩
  obtain ⟨lf1, tg1, A1, n1, c1, B1, m1, e1, C1, p1, q1, r0, r1, r2, r3, r4, hx5⟩ := hKC.at_ hx
  obtain ⟨lf2, tg2, A2, n2, c2, B2, m2, e2, C2, p2, q2, s0, s1, s2, s3, s4, hy5⟩ := hKC.at_ hy
  have HC : Hid (∀ w', Below V.heap.size V w' → w'.cell? ⟨px, 3, none⟩ = some (.slice (some ⟨gb, ob, none⟩) m e) ∧ w'.cell? ⟨px, 4, none⟩ = some (.slice (some ⟨g, off, none⟩) p q) ∧ w'.cell? ⟨gb, ob + a, none⟩ = some (.int .i64 z) ∧ w'.cell? ⟨g, off + a * 5, none⟩ = some (.bool lf1) ∧ w'.cell? ⟨g, off + a * 5 + 1, none⟩ = some (.bool tg1) ∧ w'.cell? ⟨g, off + a * 5 + 2, none⟩ = some (.slice A1 n1 c1) ∧ w'.cell? ⟨g, off + a * 5 + 3, none⟩ = some (.slice B1 m1 e1) ∧ w'.cell? ⟨g, off + a * 5 + 4, none⟩ = some (.slice C1 p1 q1) ∧ w'.cell? ⟨g, off + a1 * 5, none⟩ = some (.bool lf2) ∧ w'.cell? ⟨g, off + a1 * 5 + 1, none⟩ = some (.bool tg2) ∧ w'.cell? ⟨g, off + a1 * 5 + 2, none⟩ = some (.slice A2 n2 c2) ∧ w'.cell? ⟨g, off + a1 * 5 + 3, none⟩ = some (.slice B2 m2 e2) ∧ w'.cell? ⟨g, off + a1 * 5 + 4, none⟩ = some (.slice C2 p2 q2)) := fun w' h =>
   have hb : Below w.heap.size w w' := bXV.trans (h.mono bXV.size)
   ⟨below_read h x3, below_read h x4, below_read hb hcz, below_read hb r0, below_read hb r1, below_read hb r2, below_read hb r3, below_read hb r4, below_read hb s0, below_read hb s1, below_read hb s2, below_read hb s3, below_read hb s4⟩
  have HYV : Hid (∀ b, Y b → b < V.heap.size) := fun b f => Nat.lt_of_lt_of_le (hY b f) bXV.size
  have HK1 : Hid (ShY Y V x (shv lf1 tg1 (.slice A1 n1 c1) (.slice B1 m1 e1) (.slice C1 p1 q1))) := ShY.keep (fun b f => bXV.block b (hY b f)) (fun b f => f) _ _ hx5
  have HK2 : Hid (ShY Y V y (shv lf2 tg2 (.slice A2 n2 c2) (.slice B2 m2 e2) (.slice C2 p2 q2))) := ShY.keep (fun b f => bXV.block b (hY b f)) (fun b f => f) _ _ hy5
  have HKC : Hid (ShYC Y V kids g off) := ShYC.keep (fun b f => bXV.block b (hY b f)) (fun b f => f) _ _ _ (bXV.block g (hY g hYg)) hKC
  have HKL := Lib.hid hkl
  have HPQ := Lib.hid k6
  have HA1 := Lib.hid ha1
  have HAP := Lib.hid hap
  have HX := Lib.hid hx
  have HYK := Lib.hid hy
  have HZ := Lib.hid hz
  have HML := Lib.hid hml
  have HPL := Lib.hid k5
  have HYG := Lib.hid hYg
  have hsub : IntKind.i64.wrap ((p : Int) - 2) = (p : Int) - 2 := IntWalk.i64_in _ (by omega)
  have i0 : (0 : Int) ≤ (a : Int) := by omega
  have i1 : (a : Int) < (m : Int) := by omega
  have i2 : (a : Int) < (p : Int) := by omega
  have i3 : (0 : Int) ≤ (a1 : Int) := by omega
  have i4 : (a1 : Int) < (p : Int) := by omega
  clear h hw hs hY bX bV eX sX eV sV k1 k2 k3 k4 k5 k6 k7 bXV eX2 ha ha1 ha2 hcz r0 r1 r2 r3 r4 s0 s1 s2 s3 s4 hx5 hy5 hKC hkl hx hy hz hml hYg hgb
  go_enter Try.func72, Try.ntmps72
  go_wp2_with fail
  (try rw [hX]); (try rw [hpx]); (try rw [hV]); (try rw [hu])
  go_upto_region 4 with fail
  (try rw [hmin])
  clear hX hpx hV hu hpi hmin hsub x0 x1 x2 x3 x4 f0 f1 f2 f3 f4 z0 z1 z2 z3 z4
  go_cut [5] from 18 to 36 (fun t5 wx => ∃ t, t5 = .pointer (some ⟨t, 0, none⟩) ∧ Hid (TagV Y V t z x y wx))
  case first =>
   obtain ⟨W0, hW0, ba0⟩ : ∃ W0 : World, V.drew = W0 ∧ Below V.heap.size V W0 := ⟨_, rfl, (Below.refl _ V).drew⟩
   refine region_T (fun k => k == 20) (fun w' : World => w'.cell? ⟨px, 3, none⟩ = some (.slice (some ⟨gb, ob, none⟩) m e) ∧ w'.cell? ⟨px, 4, none⟩ = some (.slice (some ⟨g, off, none⟩) p q) ∧ w'.cell? ⟨gb, ob + a, none⟩ = some (.int .i64 z) ∧ w'.cell? ⟨g, off + a * 5, none⟩ = some (.bool lf1) ∧ w'.cell? ⟨g, off + a * 5 + 1, none⟩ = some (.bool tg1) ∧ w'.cell? ⟨g, off + a * 5 + 2, none⟩ = some (.slice A1 n1 c1) ∧ w'.cell? ⟨g, off + a * 5 + 3, none⟩ = some (.slice B1 m1 e1) ∧ w'.cell? ⟨g, off + a * 5 + 4, none⟩ = some (.slice C1 p1 q1) ∧ w'.cell? ⟨g, off + a1 * 5, none⟩ = some (.bool lf2) ∧ w'.cell? ⟨g, off + a1 * 5 + 1, none⟩ = some (.bool tg2) ∧ w'.cell? ⟨g, off + a1 * 5 + 2, none⟩ = some (.slice A2 n2 c2) ∧ w'.cell? ⟨g, off + a1 * 5 + 3, none⟩ = some (.slice B2 m2 e2) ∧ w'.cell? ⟨g, off + a1 * 5 + 4, none⟩ = some (.slice C2 p2 q2)) (by kernel_rfl) ?_
   rw [hW0]
   clear hW0
   have hC := HC.out W0 ba0
   refine takeX 0 18 (v := ?_) rfl rfl (by kernel_rfl) (by kernel_rfl) (by kernel_rfl) (by kernel_rfl) (by kernel_rfl) (fun _ _ _ _ h => h) hC (by rfl) ?_ ?_
   rotate_left
   ·intro w hSw; (try dsimp only at hSw); go_simp; try (with_reducible rfl)
   simp only [List.setIfInBounds_toArray, List.set_cons_zero, List.set_cons_succ]
   refine takeX 1 19 (v := ?_) rfl rfl (by kernel_rfl) (by kernel_rfl) (by kernel_rfl) (by kernel_rfl) (by kernel_rfl) (fun _ _ _ _ h => h) hC (by rfl) ?_ ?_
   rotate_left
   ·intro w hSw; (try dsimp only at hSw); go_simp; try (with_reducible rfl)
   simp only [List.setIfInBounds_toArray, List.set_cons_zero, List.set_cons_succ]
   refine takeX 2 20 (v := ?_) rfl rfl (by kernel_rfl) (by kernel_rfl) (by kernel_rfl) (by kernel_rfl) (by kernel_rfl) (fun _ _ _ _ h => h) hC (by rfl) ?_ ?_
   rotate_left
   ·intro w hSw; (try dsimp only at hSw); go_simp; try (with_reducible rfl)
   simp only [List.setIfInBounds_toArray, List.set_cons_zero, List.set_cons_succ]
   refine takeX 3 21 (v := ?_) rfl rfl (by kernel_rfl) (by kernel_rfl) (by kernel_rfl) (by kernel_rfl) (by kernel_rfl) (fun _ _ _ _ h => h) hC (by rfl) ?_ ?_
   rotate_left
   ·intro w hSw; (try dsimp only at hSw); go_simp; try (with_reducible rfl)
   simp only [List.setIfInBounds_toArray, List.set_cons_zero, List.set_cons_succ]
   refine takeX 4 22 (v := ?_) rfl rfl (by kernel_rfl) (by kernel_rfl) (by kernel_rfl) (by kernel_rfl) (by kernel_rfl) (fun _ _ _ _ h => h) hC (by rfl) ?_ ?_
   rotate_left
   ·intro w hSw; (try dsimp only at hSw); go_simp; try (with_reducible rfl)
   simp only [List.setIfInBounds_toArray, List.set_cons_zero, List.set_cons_succ]
   refine takeX 6 24 (v := ?_) rfl rfl (by kernel_rfl) (by kernel_rfl) (by kernel_rfl) (by kernel_rfl) (by kernel_rfl) (fun _ _ _ _ h => h) hC (by rfl) ?_ ?_
   rotate_left
   ·intro w hSw; (try dsimp only at hSw); go_simp; try (with_reducible rfl)
   simp only [List.setIfInBounds_toArray, List.set_cons_zero, List.set_cons_succ]
   refine takeX 7 25 (v := ?_) rfl rfl (by kernel_rfl) (by kernel_rfl) (by kernel_rfl) (by kernel_rfl) (by kernel_rfl) (fun _ _ _ _ h => h) hC (by rfl) ?_ ?_
   rotate_left
   ·intro w hSw; (try dsimp only at hSw); go_simp; try (with_reducible rfl)
   simp only [List.setIfInBounds_toArray, List.set_cons_zero, List.set_cons_succ]
   refine takeX 8 26 (v := ?_) rfl rfl (by kernel_rfl) (by kernel_rfl) (by kernel_rfl) (by kernel_rfl) (by kernel_rfl) (fun _ _ _ _ h => h) hC (by rfl) ?_ ?_
   rotate_left
   ·intro w hSw; (try dsimp only at hSw); go_simp; try (with_reducible rfl)
   simp only [List.setIfInBounds_toArray, List.set_cons_zero, List.set_cons_succ]
   refine takeX 9 27 (v := ?_) rfl rfl (by kernel_rfl) (by kernel_rfl) (by kernel_rfl) (by kernel_rfl) (by kernel_rfl) (fun _ _ _ _ h => h) hC (by rfl) ?_ ?_
   rotate_left
   ·intro w hSw; (try dsimp only at hSw); go_simp; try (with_reducible rfl)
   simp only [List.setIfInBounds_toArray, List.set_cons_zero, List.set_cons_succ]
   refine takeX 10 28 (v := ?_) rfl rfl (by kernel_rfl) (by kernel_rfl) (by kernel_rfl) (by kernel_rfl) (by kernel_rfl) (fun _ _ _ _ h => h) hC (by rfl) ?_ ?_
   rotate_left
   ·intro w hSw; (try dsimp only at hSw); go_simp; try (with_reducible rfl)
   simp only [List.setIfInBounds_toArray, List.set_cons_zero, List.set_cons_succ]
   refine takeX 11 29 (v := ?_) rfl rfl (by kernel_rfl) (by kernel_rfl) (by kernel_rfl) (by kernel_rfl) (by kernel_rfl) (fun _ _ _ _ h => h) hC (by rfl) ?_ ?_
   rotate_left
   ·intro w hSw; (try dsimp only at hSw); go_simp; try (with_reducible rfl)
   simp only [List.setIfInBounds_toArray, List.set_cons_zero, List.set_cons_succ]
   refine takeX 12 30 (v := ?_) rfl rfl (by kernel_rfl) (by kernel_rfl) (by kernel_rfl) (by kernel_rfl) (by kernel_rfl) (fun _ _ _ _ h => h) hC (by rfl) ?_ ?_
   rotate_left
   ·intro w hSw; (try dsimp only at hSw); go_simp; try (with_reducible rfl)
   simp only [List.setIfInBounds_toArray, List.set_cons_zero, List.set_cons_succ]
   refine takeX 13 31 (v := ?_) rfl rfl (by kernel_rfl) (by kernel_rfl) (by kernel_rfl) (by kernel_rfl) (by kernel_rfl) (fun _ _ _ _ h => h) hC (by rfl) ?_ ?_
   rotate_left
   ·intro w hSw; (try dsimp only at hSw); go_simp; try (with_reducible rfl)
   simp only [List.setIfInBounds_toArray, List.set_cons_zero, List.set_cons_succ]
   refine takeX 14 32 (v := ?_) rfl rfl (by kernel_rfl) (by kernel_rfl) (by kernel_rfl) (by kernel_rfl) (by kernel_rfl) (fun _ _ _ _ h => h) hC (by rfl) ?_ ?_
   rotate_left
   ·intro w hSw; (try dsimp only at hSw); go_simp; try (with_reducible rfl)
   simp only [List.setIfInBounds_toArray, List.set_cons_zero, List.set_cons_succ]
   refine takeX 15 33 (v := ?_) rfl rfl (by kernel_rfl) (by kernel_rfl) (by kernel_rfl) (by kernel_rfl) (by kernel_rfl) (fun _ _ _ _ h => h) hC (by rfl) ?_ ?_
   rotate_left
   ·intro w hSw; (try dsimp only at hSw); go_simp; try (with_reducible rfl)
   simp only [List.setIfInBounds_toArray, List.set_cons_zero, List.set_cons_succ]
   refine takeX 16 34 (v := ?_) rfl rfl (by kernel_rfl) (by kernel_rfl) (by kernel_rfl) (by kernel_rfl) (by kernel_rfl) (fun _ _ _ _ h => h) hC (by rfl) ?_ ?_
   rotate_left
   ·intro w hSw; (try dsimp only at hSw); go_simp; try (with_reducible rfl)
   simp only [List.setIfInBounds_toArray, List.set_cons_zero, List.set_cons_succ]
   clear hC
   refine threeT (i := 5) (j := 17) (l := 19) (by kernel_rfl) rfl rfl rfl (by rfl) (by rfl) (by rfl) (fun KK hK => ?_) (fun KK hK => ?_) (fun KK hK => ?_)
   ·go_simp
    obtain ⟨W1, K, hX1, hK_, b1, eK1, s1⟩ := one_new W0 #[.int .i64 z] i6T
    (try rw [hX1]); (try rw [hK_])
    have ba1 := ba0.trans (b1.mono ba0.size)
    refine hK.out _ _ (fun _ => HC.out _ ba1) ?_
    have HS1 := Lib.hid s1
    clear hK KK hX1 s1
    try simp only [Act.put, List.setIfInBounds_toArray, List.set_cons_zero, List.set_cons_succ]
    refine twoT (i := 17) (j := 19) (by kernel_rfl) rfl rfl (by rfl) (by rfl) (fun KK hK => ?_) (fun KK hK => ?_)
    ·go_simp
     obtain ⟨W2, D, hX2, hD_, b2, eD2, s2⟩ := one_new W1 #[.bool lf1, .bool tg1, .slice A1 n1 c1, .slice B1 m1 e1, .slice C1 p1 q1, .bool lf2, .bool tg2, .slice A2 n2 c2, .slice B2 m2 e2, .slice C2 p2 q2] shT
     (try rw [hX2]); (try rw [hD_])
     have ba2 := ba1.trans (b2.mono ba1.size)
     refine hK.out _ _ (fun _ => HC.out _ ba2) ?_
     have HS2 := Lib.hid s2
     clear hK KK hX2 s2
     try simp only [Act.put, List.setIfInBounds_toArray, List.set_cons_zero, List.set_cons_succ]
     have eK2 := blk_below eK1 b2
     have hC := HC.out _ ba2
     refine takeX 18 36 (v := ?_) rfl rfl (by kernel_rfl) (by kernel_rfl) (by kernel_rfl) (by kernel_rfl) (by kernel_rfl) (fun _ _ _ _ h => h) hC (by rfl) ?_ ?_
     rotate_left
     ·intro w hSw; (try dsimp only at hSw); go_simp; try (with_reducible rfl)
     simp only [List.setIfInBounds_toArray, List.set_cons_zero, List.set_cons_succ]
     clear hC
     refine oneT (i := 19) (by kernel_rfl) rfl (by rfl) (fun KK hK => ?_)
     go_simp
     obtain ⟨W3, t, hX3, ht_, b3, et3, s3⟩ := Shc.new W2 (.bool false) (.bool false) (.slice none 0 0) (.slice none 0 0) (.slice none 0 0)
     (try rw [hX3]); (try rw [ht_])
     have ba3 := ba2.trans (b3.mono ba2.size)
     refine hK.out _ _ (fun _ => HC.out _ ba3) ?_
     have HS3 := Lib.hid s3
     clear hK KK hX3 s3
     try simp only [Act.put, List.setIfInBounds_toArray, List.set_cons_zero, List.set_cons_succ]
     have eK3 := blk_below eK2 b3
     have eD3 := blk_below eD2 b3
     have s1 := HS1.out
     have s2 := HS2.out
     have s3 := HS3.out
     have HT3 := Lib.hid et3
     have HE := Lib.hid (tag_end (Y := Y) (z := z) ba3 HYV.out et3 eK3 eD3 (by have := ba0.size; omega) (by have := ba0.size; omega) (by have := ba0.size; omega) HK1.out HK2.out (by omega) (by omega))
     clear s1 s2 s3 et3 eK3 eD3 ba1 ba2 ba3 b1 b2 b3 hK_ hD_ ht_ 
     obtain ⟨c0', c1', c2', c3', c4'⟩ := HT3.out.cells
     obtain ⟨f0', f1', f2', f3', f4'⟩ := HT3.out.frees
     refine oneT (i := 20) (by kernel_rfl) rfl (by rfl) (fun KK hK => ?_)
     go_simp
     refine hK.out _ _ (fun h => absurd h (by decide)) ?_
     clear hK KK
     try simp only [Act.put, List.setIfInBounds_toArray, List.set_cons_zero, List.set_cons_succ]
     refine doneT (by kernel_rfl) ?_
     go_wp2_with fail
     go_meet
     exact ⟨t, rfl, HE.out⟩
    ·go_simp
     obtain ⟨W2, t, hX2, ht_, b2, et2, s2⟩ := Shc.new W1 (.bool false) (.bool false) (.slice none 0 0) (.slice none 0 0) (.slice none 0 0)
     (try rw [hX2]); (try rw [ht_])
     have ba2 := ba1.trans (b2.mono ba1.size)
     refine hK.out _ _ (fun _ => HC.out _ ba2) ?_
     have HS2 := Lib.hid s2
     clear hK KK hX2 s2
     try simp only [Act.put, List.setIfInBounds_toArray, List.set_cons_zero, List.set_cons_succ]
     have eK2 := blk_below eK1 b2
     refine oneT (i := 17) (by kernel_rfl) rfl (by rfl) (fun KK hK => ?_)
     go_simp
     obtain ⟨W3, D, hX3, hD_, b3, eD3, s3⟩ := one_new W2 #[.bool lf1, .bool tg1, .slice A1 n1 c1, .slice B1 m1 e1, .slice C1 p1 q1, .bool lf2, .bool tg2, .slice A2 n2 c2, .slice B2 m2 e2, .slice C2 p2 q2] shT
     (try rw [hX3]); (try rw [hD_])
     have ba3 := ba2.trans (b3.mono ba2.size)
     refine hK.out _ _ (fun _ => HC.out _ ba3) ?_
     have HS3 := Lib.hid s3
     clear hK KK hX3 s3
     try simp only [Act.put, List.setIfInBounds_toArray, List.set_cons_zero, List.set_cons_succ]
     have eK3 := blk_below eK2 b3
     have et3 := et2.below b3
     have hC := HC.out _ ba3
     refine takeX 18 36 (v := ?_) rfl rfl (by kernel_rfl) (by kernel_rfl) (by kernel_rfl) (by kernel_rfl) (by kernel_rfl) (fun _ _ _ _ h => h) hC (by rfl) ?_ ?_
     rotate_left
     ·intro w hSw; (try dsimp only at hSw); go_simp; try (with_reducible rfl)
     simp only [List.setIfInBounds_toArray, List.set_cons_zero, List.set_cons_succ]
     clear hC
     have s1 := HS1.out
     have s2 := HS2.out
     have s3 := HS3.out
     have HT3 := Lib.hid et3
     have HE := Lib.hid (tag_end (Y := Y) (z := z) ba3 HYV.out et3 eK3 eD3 (by have := ba0.size; omega) (by have := ba0.size; omega) (by have := ba0.size; omega) HK1.out HK2.out (by omega) (by omega))
     clear s1 s2 s3 et3 eK3 eD3 ba1 ba2 ba3 b1 b2 b3 hK_ hD_ ht_ 
     obtain ⟨c0', c1', c2', c3', c4'⟩ := HT3.out.cells
     obtain ⟨f0', f1', f2', f3', f4'⟩ := HT3.out.frees
     refine oneT (i := 20) (by kernel_rfl) rfl (by rfl) (fun KK hK => ?_)
     go_simp
     refine hK.out _ _ (fun h => absurd h (by decide)) ?_
     clear hK KK
     try simp only [Act.put, List.setIfInBounds_toArray, List.set_cons_zero, List.set_cons_succ]
     refine doneT (by kernel_rfl) ?_
     go_wp2_with fail
     go_meet
     exact ⟨t, rfl, HE.out⟩
   ·go_simp
    obtain ⟨W1, D, hX1, hD_, b1, eD1, s1⟩ := one_new W0 #[.bool lf1, .bool tg1, .slice A1 n1 c1, .slice B1 m1 e1, .slice C1 p1 q1, .bool lf2, .bool tg2, .slice A2 n2 c2, .slice B2 m2 e2, .slice C2 p2 q2] shT
    (try rw [hX1]); (try rw [hD_])
    have ba1 := ba0.trans (b1.mono ba0.size)
    refine hK.out _ _ (fun _ => HC.out _ ba1) ?_
    have HS1 := Lib.hid s1
    clear hK KK hX1 s1
    try simp only [Act.put, List.setIfInBounds_toArray, List.set_cons_zero, List.set_cons_succ]
    refine twoT (i := 5) (j := 19) (by kernel_rfl) rfl rfl (by rfl) (by rfl) (fun KK hK => ?_) (fun KK hK => ?_)
    ·go_simp
     obtain ⟨W2, K, hX2, hK_, b2, eK2, s2⟩ := one_new W1 #[.int .i64 z] i6T
     (try rw [hX2]); (try rw [hK_])
     have ba2 := ba1.trans (b2.mono ba1.size)
     refine hK.out _ _ (fun _ => HC.out _ ba2) ?_
     have HS2 := Lib.hid s2
     clear hK KK hX2 s2
     try simp only [Act.put, List.setIfInBounds_toArray, List.set_cons_zero, List.set_cons_succ]
     have eD2 := blk_below eD1 b2
     have hC := HC.out _ ba2
     refine takeX 18 36 (v := ?_) rfl rfl (by kernel_rfl) (by kernel_rfl) (by kernel_rfl) (by kernel_rfl) (by kernel_rfl) (fun _ _ _ _ h => h) hC (by rfl) ?_ ?_
     rotate_left
     ·intro w hSw; (try dsimp only at hSw); go_simp; try (with_reducible rfl)
     simp only [List.setIfInBounds_toArray, List.set_cons_zero, List.set_cons_succ]
     clear hC
     refine oneT (i := 19) (by kernel_rfl) rfl (by rfl) (fun KK hK => ?_)
     go_simp
     obtain ⟨W3, t, hX3, ht_, b3, et3, s3⟩ := Shc.new W2 (.bool false) (.bool false) (.slice none 0 0) (.slice none 0 0) (.slice none 0 0)
     (try rw [hX3]); (try rw [ht_])
     have ba3 := ba2.trans (b3.mono ba2.size)
     refine hK.out _ _ (fun _ => HC.out _ ba3) ?_
     have HS3 := Lib.hid s3
     clear hK KK hX3 s3
     try simp only [Act.put, List.setIfInBounds_toArray, List.set_cons_zero, List.set_cons_succ]
     have eD3 := blk_below eD2 b3
     have eK3 := blk_below eK2 b3
     have s1 := HS1.out
     have s2 := HS2.out
     have s3 := HS3.out
     have HT3 := Lib.hid et3
     have HE := Lib.hid (tag_end (Y := Y) (z := z) ba3 HYV.out et3 eK3 eD3 (by have := ba0.size; omega) (by have := ba0.size; omega) (by have := ba0.size; omega) HK1.out HK2.out (by omega) (by omega))
     clear s1 s2 s3 et3 eK3 eD3 ba1 ba2 ba3 b1 b2 b3 hK_ hD_ ht_ 
     obtain ⟨c0', c1', c2', c3', c4'⟩ := HT3.out.cells
     obtain ⟨f0', f1', f2', f3', f4'⟩ := HT3.out.frees
     refine oneT (i := 20) (by kernel_rfl) rfl (by rfl) (fun KK hK => ?_)
     go_simp
     refine hK.out _ _ (fun h => absurd h (by decide)) ?_
     clear hK KK
     try simp only [Act.put, List.setIfInBounds_toArray, List.set_cons_zero, List.set_cons_succ]
     refine doneT (by kernel_rfl) ?_
     go_wp2_with fail
     go_meet
     exact ⟨t, rfl, HE.out⟩
    ·go_simp
     obtain ⟨W2, t, hX2, ht_, b2, et2, s2⟩ := Shc.new W1 (.bool false) (.bool false) (.slice none 0 0) (.slice none 0 0) (.slice none 0 0)
     (try rw [hX2]); (try rw [ht_])
     have ba2 := ba1.trans (b2.mono ba1.size)
     refine hK.out _ _ (fun _ => HC.out _ ba2) ?_
     have HS2 := Lib.hid s2
     clear hK KK hX2 s2
     try simp only [Act.put, List.setIfInBounds_toArray, List.set_cons_zero, List.set_cons_succ]
     have eD2 := blk_below eD1 b2
     refine oneT (i := 5) (by kernel_rfl) rfl (by rfl) (fun KK hK => ?_)
     go_simp
     obtain ⟨W3, K, hX3, hK_, b3, eK3, s3⟩ := one_new W2 #[.int .i64 z] i6T
     (try rw [hX3]); (try rw [hK_])
     have ba3 := ba2.trans (b3.mono ba2.size)
     refine hK.out _ _ (fun _ => HC.out _ ba3) ?_
     have HS3 := Lib.hid s3
     clear hK KK hX3 s3
     try simp only [Act.put, List.setIfInBounds_toArray, List.set_cons_zero, List.set_cons_succ]
     have eD3 := blk_below eD2 b3
     have et3 := et2.below b3
     have hC := HC.out _ ba3
     refine takeX 18 36 (v := ?_) rfl rfl (by kernel_rfl) (by kernel_rfl) (by kernel_rfl) (by kernel_rfl) (by kernel_rfl) (fun _ _ _ _ h => h) hC (by rfl) ?_ ?_
     rotate_left
     ·intro w hSw; (try dsimp only at hSw); go_simp; try (with_reducible rfl)
     simp only [List.setIfInBounds_toArray, List.set_cons_zero, List.set_cons_succ]
     clear hC
     have s1 := HS1.out
     have s2 := HS2.out
     have s3 := HS3.out
     have HT3 := Lib.hid et3
     have HE := Lib.hid (tag_end (Y := Y) (z := z) ba3 HYV.out et3 eK3 eD3 (by have := ba0.size; omega) (by have := ba0.size; omega) (by have := ba0.size; omega) HK1.out HK2.out (by omega) (by omega))
     clear s1 s2 s3 et3 eK3 eD3 ba1 ba2 ba3 b1 b2 b3 hK_ hD_ ht_ 
     obtain ⟨c0', c1', c2', c3', c4'⟩ := HT3.out.cells
     obtain ⟨f0', f1', f2', f3', f4'⟩ := HT3.out.frees
     refine oneT (i := 20) (by kernel_rfl) rfl (by rfl) (fun KK hK => ?_)
     go_simp
     refine hK.out _ _ (fun h => absurd h (by decide)) ?_
     clear hK KK
     try simp only [Act.put, List.setIfInBounds_toArray, List.set_cons_zero, List.set_cons_succ]
     refine doneT (by kernel_rfl) ?_
     go_wp2_with fail
     go_meet
     exact ⟨t, rfl, HE.out⟩
   ·go_simp
    obtain ⟨W1, t, hX1, ht_, b1, et1, s1⟩ := Shc.new W0 (.bool false) (.bool false) (.slice none 0 0) (.slice none 0 0) (.slice none 0 0)
    (try rw [hX1]); (try rw [ht_])
    have ba1 := ba0.trans (b1.mono ba0.size)
    refine hK.out _ _ (fun _ => HC.out _ ba1) ?_
    have HS1 := Lib.hid s1
    clear hK KK hX1 s1
    try simp only [Act.put, List.setIfInBounds_toArray, List.set_cons_zero, List.set_cons_succ]
    refine twoT (i := 5) (j := 17) (by kernel_rfl) rfl rfl (by rfl) (by rfl) (fun KK hK => ?_) (fun KK hK => ?_)
    ·go_simp
     obtain ⟨W2, K, hX2, hK_, b2, eK2, s2⟩ := one_new W1 #[.int .i64 z] i6T
     (try rw [hX2]); (try rw [hK_])
     have ba2 := ba1.trans (b2.mono ba1.size)
     refine hK.out _ _ (fun _ => HC.out _ ba2) ?_
     have HS2 := Lib.hid s2
     clear hK KK hX2 s2
     try simp only [Act.put, List.setIfInBounds_toArray, List.set_cons_zero, List.set_cons_succ]
     have et2 := et1.below b2
     refine oneT (i := 17) (by kernel_rfl) rfl (by rfl) (fun KK hK => ?_)
     go_simp
     obtain ⟨W3, D, hX3, hD_, b3, eD3, s3⟩ := one_new W2 #[.bool lf1, .bool tg1, .slice A1 n1 c1, .slice B1 m1 e1, .slice C1 p1 q1, .bool lf2, .bool tg2, .slice A2 n2 c2, .slice B2 m2 e2, .slice C2 p2 q2] shT
     (try rw [hX3]); (try rw [hD_])
     have ba3 := ba2.trans (b3.mono ba2.size)
     refine hK.out _ _ (fun _ => HC.out _ ba3) ?_
     have HS3 := Lib.hid s3
     clear hK KK hX3 s3
     try simp only [Act.put, List.setIfInBounds_toArray, List.set_cons_zero, List.set_cons_succ]
     have et3 := et2.below b3
     have eK3 := blk_below eK2 b3
     have hC := HC.out _ ba3
     refine takeX 18 36 (v := ?_) rfl rfl (by kernel_rfl) (by kernel_rfl) (by kernel_rfl) (by kernel_rfl) (by kernel_rfl) (fun _ _ _ _ h => h) hC (by rfl) ?_ ?_
     rotate_left
     ·intro w hSw; (try dsimp only at hSw); go_simp; try (with_reducible rfl)
     simp only [List.setIfInBounds_toArray, List.set_cons_zero, List.set_cons_succ]
     clear hC
     have s1 := HS1.out
     have s2 := HS2.out
     have s3 := HS3.out
     have HT3 := Lib.hid et3
     have HE := Lib.hid (tag_end (Y := Y) (z := z) ba3 HYV.out et3 eK3 eD3 (by have := ba0.size; omega) (by have := ba0.size; omega) (by have := ba0.size; omega) HK1.out HK2.out (by omega) (by omega))
     clear s1 s2 s3 et3 eK3 eD3 ba1 ba2 ba3 b1 b2 b3 hK_ hD_ ht_ 
     obtain ⟨c0', c1', c2', c3', c4'⟩ := HT3.out.cells
     obtain ⟨f0', f1', f2', f3', f4'⟩ := HT3.out.frees
     refine oneT (i := 20) (by kernel_rfl) rfl (by rfl) (fun KK hK => ?_)
     go_simp
     refine hK.out _ _ (fun h => absurd h (by decide)) ?_
     clear hK KK
     try simp only [Act.put, List.setIfInBounds_toArray, List.set_cons_zero, List.set_cons_succ]
     refine doneT (by kernel_rfl) ?_
     go_wp2_with fail
     go_meet
     exact ⟨t, rfl, HE.out⟩
    ·go_simp
     obtain ⟨W2, D, hX2, hD_, b2, eD2, s2⟩ := one_new W1 #[.bool lf1, .bool tg1, .slice A1 n1 c1, .slice B1 m1 e1, .slice C1 p1 q1, .bool lf2, .bool tg2, .slice A2 n2 c2, .slice B2 m2 e2, .slice C2 p2 q2] shT
     (try rw [hX2]); (try rw [hD_])
     have ba2 := ba1.trans (b2.mono ba1.size)
     refine hK.out _ _ (fun _ => HC.out _ ba2) ?_
     have HS2 := Lib.hid s2
     clear hK KK hX2 s2
     try simp only [Act.put, List.setIfInBounds_toArray, List.set_cons_zero, List.set_cons_succ]
     have et2 := et1.below b2
     refine oneT (i := 5) (by kernel_rfl) rfl (by rfl) (fun KK hK => ?_)
     go_simp
     obtain ⟨W3, K, hX3, hK_, b3, eK3, s3⟩ := one_new W2 #[.int .i64 z] i6T
     (try rw [hX3]); (try rw [hK_])
     have ba3 := ba2.trans (b3.mono ba2.size)
     refine hK.out _ _ (fun _ => HC.out _ ba3) ?_
     have HS3 := Lib.hid s3
     clear hK KK hX3 s3
     try simp only [Act.put, List.setIfInBounds_toArray, List.set_cons_zero, List.set_cons_succ]
     have et3 := et2.below b3
     have eD3 := blk_below eD2 b3
     have hC := HC.out _ ba3
     refine takeX 18 36 (v := ?_) rfl rfl (by kernel_rfl) (by kernel_rfl) (by kernel_rfl) (by kernel_rfl) (by kernel_rfl) (fun _ _ _ _ h => h) hC (by rfl) ?_ ?_
     rotate_left
     ·intro w hSw; (try dsimp only at hSw); go_simp; try (with_reducible rfl)
     simp only [List.setIfInBounds_toArray, List.set_cons_zero, List.set_cons_succ]
     clear hC
     have s1 := HS1.out
     have s2 := HS2.out
     have s3 := HS3.out
     have HT3 := Lib.hid et3
     have HE := Lib.hid (tag_end (Y := Y) (z := z) ba3 HYV.out et3 eK3 eD3 (by have := ba0.size; omega) (by have := ba0.size; omega) (by have := ba0.size; omega) HK1.out HK2.out (by omega) (by omega))
     clear s1 s2 s3 et3 eK3 eD3 ba1 ba2 ba3 b1 b2 b3 hK_ hD_ ht_ 
     obtain ⟨c0', c1', c2', c3', c4'⟩ := HT3.out.cells
     obtain ⟨f0', f1', f2', f3', f4'⟩ := HT3.out.frees
     refine oneT (i := 20) (by kernel_rfl) rfl (by rfl) (fun KK hK => ?_)
     go_simp
     refine hK.out _ _ (fun h => absurd h (by decide)) ?_
     clear hK KK
     try simp only [Act.put, List.setIfInBounds_toArray, List.set_cons_zero, List.set_cons_succ]
     refine doneT (by kernel_rfl) ?_
     go_wp2_with fail
     go_meet
     exact ⟨t, rfl, HE.out⟩
  case rest =>
   rename World => wt
   obtain ⟨t, rfl, HTV⟩ := hcut
   have HBT : Hid (Below V.heap.size V wt) := by
    obtain ⟨_, _, _, _, _, _, _, -, -, k, -⟩ := HTV.out
    exact k
   have hap5 : a1 ≤ m := by have := HML.out; have := HKL.out; have := HPL.out; omega
   have hks : ks.length ≤ 100 := HSM.out.2.1
   obtain ⟨KA, hKA, rKA⟩ := cut_upto rowK (HKS.out.below HBT.out) a (by omega)
   obtain ⟨KB, hKB, rKB⟩ := cut_from rowK (HKS.out.below HBT.out) a1 hap5
   have HKA := Lib.hid hKA
   have HKB := Lib.hid hKB
   have HC5 : Hid (∀ w', Below wt.heap.size wt w' → w'.cell? ⟨px, 3, none⟩ = some (.slice (some ⟨gb, ob, none⟩) m e) ∧ w'.cell? ⟨px, 4, none⟩ = some (.slice (some ⟨g, off, none⟩) p q)) := fun w' h =>
    have hb : Below V.heap.size V w' := HBT.out.trans (h.mono HBT.out.size)
    ⟨(HC.out w' hb).1, (HC.out w' hb).2.1⟩
   clear hKA hKB
   go_upto_region 5 with fail
   go_cut [6] from 37 to 49 (fun t6 wx => ∃ o, t6 = .pointer (some ⟨o, 0, none⟩) ∧ Hid (OutV wt o (([] ++ ks.take a) ++ ks.drop a1) wx))
   case first =>
    obtain ⟨W0, hW0, ba0⟩ : ∃ W0 : World, wt.drew = W0 ∧ Below wt.heap.size wt W0 := ⟨_, rfl, (Below.refl _ wt).drew⟩
    refine region_T (fun k => k == 14) (fun w' : World => w'.cell? ⟨px, 3, none⟩ = some (.slice (some ⟨gb, ob, none⟩) m e) ∧ w'.cell? ⟨px, 4, none⟩ = some (.slice (some ⟨g, off, none⟩) p q)) (by kernel_rfl) ?_
    rw [hW0]
    clear hW0
    have hC := HC5.out W0 ba0
    refine takeX 1 38 (v := ?_) rfl rfl (by kernel_rfl) (by kernel_rfl) (by kernel_rfl) (by kernel_rfl) (by kernel_rfl) (fun _ _ _ _ h => h) hC (by rfl) ?_ ?_
    rotate_left
    ·intro w hSw; (try dsimp only at hSw); go_simp; try (with_reducible rfl)
    simp only [List.setIfInBounds_toArray, List.set_cons_zero, List.set_cons_succ]
    refine takeX 2 39 (v := ?_) rfl rfl (by kernel_rfl) (by kernel_rfl) (by kernel_rfl) (by kernel_rfl) (by kernel_rfl) (fun _ _ _ _ h => h) hC (by rfl) ?_ ?_
    rotate_left
    ·intro w hSw; (try dsimp only at hSw); go_simp; try (with_reducible rfl)
    simp only [List.setIfInBounds_toArray, List.set_cons_zero, List.set_cons_succ]
    refine takeX 3 40 (v := ?_) rfl rfl (by kernel_rfl) (by kernel_rfl) (by kernel_rfl) (by kernel_rfl) (by kernel_rfl) (fun _ _ _ _ h => h) hC (by rfl) ?_ ?_
    rotate_left
    ·intro w hSw; (try dsimp only at hSw); go_simp; try (with_reducible rfl)
    simp only [List.setIfInBounds_toArray, List.set_cons_zero, List.set_cons_succ]
    refine takeX 4 41 (v := ?_) rfl rfl (by kernel_rfl) (by kernel_rfl) (by kernel_rfl) (by kernel_rfl) (by kernel_rfl) (fun _ _ _ _ h => h) hC (by rfl) ?_ ?_
    rotate_left
    ·intro w hSw; (try dsimp only at hSw); go_simp; try (with_reducible rfl)
    simp only [List.setIfInBounds_toArray, List.set_cons_zero, List.set_cons_succ]
    refine takeX 6 43 (v := ?_) rfl rfl (by kernel_rfl) (by kernel_rfl) (by kernel_rfl) (by kernel_rfl) (by kernel_rfl) (fun _ _ _ _ h => h) hC (by rfl) ?_ ?_
    rotate_left
    ·intro w hSw; (try dsimp only at hSw); go_simp; try (with_reducible rfl)
    simp only [List.setIfInBounds_toArray, List.set_cons_zero, List.set_cons_succ]
    refine takeX 7 44 (v := ?_) rfl rfl (by kernel_rfl) (by kernel_rfl) (by kernel_rfl) (by kernel_rfl) (by kernel_rfl) (fun _ _ _ _ h => h) hC (by rfl) ?_ ?_
    rotate_left
    ·intro w hSw; (try dsimp only at hSw); go_simp; try (with_reducible rfl)
    simp only [List.setIfInBounds_toArray, List.set_cons_zero, List.set_cons_succ]
    refine takeX 8 45 (v := ?_) rfl rfl (by kernel_rfl) (by kernel_rfl) (by kernel_rfl) (by kernel_rfl) (by kernel_rfl) (fun _ _ _ _ h => h) hC (by rfl) ?_ ?_
    rotate_left
    ·intro w hSw; (try dsimp only at hSw); go_simp; try (with_reducible rfl)
    simp only [List.setIfInBounds_toArray, List.set_cons_zero, List.set_cons_succ]
    refine takeX 9 46 (v := ?_) rfl rfl (by kernel_rfl) (by kernel_rfl) (by kernel_rfl) (by kernel_rfl) (by kernel_rfl) (fun _ _ _ _ h => h) hC (by rfl) ?_ ?_
    rotate_left
    ·intro w hSw; (try dsimp only at hSw); go_simp; try (with_reducible rfl)
    simp only [List.setIfInBounds_toArray, List.set_cons_zero, List.set_cons_succ]
    refine takeX 10 47 (v := ?_) rfl rfl (by kernel_rfl) (by kernel_rfl) (by kernel_rfl) (by kernel_rfl) (by kernel_rfl) (fun _ _ _ _ h => h) hC (by rfl) ?_ ?_
    rotate_left
    ·intro w hSw; (try dsimp only at hSw); go_simp; try (with_reducible rfl)
    simp only [List.setIfInBounds_toArray, List.set_cons_zero, List.set_cons_succ]
    clear hC
    refine twoT (i := 0) (j := 13) (by kernel_rfl) rfl rfl (by rfl) (by rfl) (fun KK hK => ?_) (fun KK hK => ?_)
    ·(try go_simp)
     obtain ⟨W1, K, hX1, hK_, b1, eK, s1⟩ := one_new W0 #[] i6T
     (try rw [hX1]); (try rw [hK_])
     have ba1 := ba0.trans (b1.mono ba0.size)
     have hr1 : Row i6T wt.heap.size W1 (.slice (some ⟨K, 0, none⟩) 0 0) [] := Row.of_block eK (by have := ba0.size; omega)
     refine hK.out _ _ (fun _ => HC5.out _ ba1) ?_
     clear hK KK hX1 s1 hK_ eK b1
     try simp only [Act.put, List.setIfInBounds_toArray, List.set_cons_zero, List.set_cons_succ]
     refine twoT (i := 5) (j := 13) (by kernel_rfl) rfl rfl (by rfl) (by rfl) (fun KK hK => ?_) (fun KK hK => ?_)
     ·obtain ⟨v5, W2, hX2, hr2, hg2⟩ := run_pushAll rowK 29 _ _ hr1 _ _ _ _ (HKA.out.below ba1) (by simp; omega) ba1.size
      obtain ⟨P5, d5, e5, -⟩ := hr2.form
      obtain ⟨n5, hn5⟩ : ∃ n, ([] ++ ks.take a).length = n := ⟨_, rfl⟩
      rw [hn5] at e5
      subst e5
      have ba2 := ba1.trans ((Below.refl _ W1).grown hg2 ba1.size fun k hk => (World.ownsRow.lt hr1 k hk).1)
      refine Lib.wp_append_run (P := Try.prog) W1 (.tmp 37) (.tmp 41) 29 29 rfl _ _ rfl rfl _ _ hX2 ?_
      refine hK.out _ _ (fun _ => HC5.out _ ba2) ?_
      clear hK KK hX2 hg2
      simp only [Act.put, List.getElem_toArray, List.getElem_cons_succ, List.getElem_cons_zero, List.setIfInBounds_toArray, List.set_cons_zero, List.set_cons_succ]
      refine twoT (i := 11) (j := 13) (by kernel_rfl) rfl rfl (by rfl) (by rfl) (fun KK hK => ?_) (fun KK hK => ?_)
      ·obtain ⟨v11, W3, hX3, hr3, hg3⟩ := run_pushAll rowK 29 _ _ hr2 _ _ _ _ (HKB.out.below ba2) (by simp; omega) ba2.size
       obtain ⟨P11, d11, e11, -⟩ := hr3.form
       obtain ⟨n11, hn11⟩ : ∃ n, (([] ++ ks.take a) ++ ks.drop a1).length = n := ⟨_, rfl⟩
       rw [hn11] at e11
       subst e11
       have ba3 := ba2.trans ((Below.refl _ W2).grown hg3 ba2.size fun k hk => (World.ownsRow.lt hr2 k hk).1)
       refine Lib.wp_append_run (P := Try.prog) W2 (.tmp 42) (.tmp 47) 29 29 rfl _ _ rfl rfl _ _ hX3 ?_
       refine hK.out _ _ (fun _ => HC5.out _ ba3) ?_
       clear hK KK hX3 hg3
       simp only [Act.put, List.getElem_toArray, List.getElem_cons_succ, List.getElem_cons_zero, List.setIfInBounds_toArray, List.set_cons_zero, List.set_cons_succ]
       have hC := HC5.out _ ba3
       refine takeX 12 49 (v := ?_) rfl rfl (by kernel_rfl) (by kernel_rfl) (by kernel_rfl) (by kernel_rfl) (by kernel_rfl) (fun _ _ _ _ h => h) hC (by rfl) ?_ ?_
       rotate_left
       ·intro w hSw; (try dsimp only at hSw); go_simp; try (with_reducible rfl)
       simp only [List.setIfInBounds_toArray, List.set_cons_zero, List.set_cons_succ]
       clear hC
       refine oneT (i := 13) (by kernel_rfl) rfl (by rfl) (fun KK hK => ?_)
       (try go_simp)
       obtain ⟨W4, o, hX4, ho_, b4, et4, s4⟩ := Shc.new W3 (.bool false) (.bool false) (.slice none 0 0) (.slice none 0 0) (.slice none 0 0)
       (try rw [hX4]); (try rw [ho_])
       have ba4 := ba3.trans (b4.mono ba3.size)
       have hgo : wt.heap.size ≤ o := by have := ba3.size; omega
       have hr4 := own_at hr3 fun b f => b4.block b (World.ownsRow.lt hr3 b f).2
       refine hK.out _ _ (fun _ => HC5.out _ ba4) ?_
       clear hK KK hX4 s4 ho_ b4
       try simp only [Act.put, List.setIfInBounds_toArray, List.set_cons_zero, List.set_cons_succ]
       have HE := Lib.hid (out_end ba4 et4 hr4 hgo (row_ne hr4 et4))
       have HT3 := Lib.hid et4
       clear ba0 ba1 ba2 ba3 ba4 et4 hr4 hgo
       obtain ⟨c0', c1', c2', c3', c4'⟩ := HT3.out.cells
       obtain ⟨f0', f1', f2', f3', f4'⟩ := HT3.out.frees
       refine oneT (i := 14) (by kernel_rfl) rfl (by rfl) (fun KK hK => ?_)
       go_simp
       refine hK.out _ _ (fun h => absurd h (by decide)) ?_
       clear hK KK
       try simp only [Act.put, List.setIfInBounds_toArray, List.set_cons_zero, List.set_cons_succ]
       refine doneT (by kernel_rfl) ?_
       go_wp2_with fail
       go_meet
       exact ⟨o, rfl, HE.out⟩
      ·(try go_simp)
       obtain ⟨W3, o, hX3, ho_, b3, et3, s3⟩ := Shc.new W2 (.bool false) (.bool false) (.slice none 0 0) (.slice none 0 0) (.slice none 0 0)
       (try rw [hX3]); (try rw [ho_])
       have ba3 := ba2.trans (b3.mono ba2.size)
       have hgo : wt.heap.size ≤ o := by have := ba2.size; omega
       have hr3 := own_at hr2 fun b f => b3.block b (World.ownsRow.lt hr2 b f).2
       refine hK.out _ _ (fun _ => HC5.out _ ba3) ?_
       clear hK KK hX3 s3 ho_ b3
       try simp only [Act.put, List.setIfInBounds_toArray, List.set_cons_zero, List.set_cons_succ]
       refine oneT (i := 11) (by kernel_rfl) rfl (by rfl) (fun KK hK => ?_)
       obtain ⟨v11, W4, hX4, hr4, hg4⟩ := run_pushAll rowK 29 _ _ hr3 _ _ _ _ (HKB.out.below ba3) (by simp; omega) ba3.size
       obtain ⟨P11, d11, e11, -⟩ := hr4.form
       obtain ⟨n11, hn11⟩ : ∃ n, (([] ++ ks.take a) ++ ks.drop a1).length = n := ⟨_, rfl⟩
       rw [hn11] at e11
       subst e11
       have ba4 := ba3.trans ((Below.refl _ W3).grown hg4 ba3.size fun k hk => (World.ownsRow.lt hr3 k hk).1)
       have et4 := shc_push et3 hr3 hg4
       refine Lib.wp_append_run (P := Try.prog) W3 (.tmp 42) (.tmp 47) 29 29 rfl _ _ rfl rfl _ _ hX4 ?_
       refine hK.out _ _ (fun _ => HC5.out _ ba4) ?_
       clear hK KK hX4 hg4
       simp only [Act.put, List.getElem_toArray, List.getElem_cons_succ, List.getElem_cons_zero, List.setIfInBounds_toArray, List.set_cons_zero, List.set_cons_succ]
       have hC := HC5.out _ ba4
       refine takeX 12 49 (v := ?_) rfl rfl (by kernel_rfl) (by kernel_rfl) (by kernel_rfl) (by kernel_rfl) (by kernel_rfl) (fun _ _ _ _ h => h) hC (by rfl) ?_ ?_
       rotate_left
       ·intro w hSw; (try dsimp only at hSw); go_simp; try (with_reducible rfl)
       simp only [List.setIfInBounds_toArray, List.set_cons_zero, List.set_cons_succ]
       clear hC
       have HE := Lib.hid (out_end ba4 et4 hr4 hgo (row_ne hr4 et4))
       have HT3 := Lib.hid et4
       clear ba0 ba1 ba2 ba3 ba4 et4 hr4 hgo
       obtain ⟨c0', c1', c2', c3', c4'⟩ := HT3.out.cells
       obtain ⟨f0', f1', f2', f3', f4'⟩ := HT3.out.frees
       refine oneT (i := 14) (by kernel_rfl) rfl (by rfl) (fun KK hK => ?_)
       go_simp
       refine hK.out _ _ (fun h => absurd h (by decide)) ?_
       clear hK KK
       try simp only [Act.put, List.setIfInBounds_toArray, List.set_cons_zero, List.set_cons_succ]
       refine doneT (by kernel_rfl) ?_
       go_wp2_with fail
       go_meet
       exact ⟨o, rfl, HE.out⟩
     ·(try go_simp)
      obtain ⟨W2, o, hX2, ho_, b2, et2, s2⟩ := Shc.new W1 (.bool false) (.bool false) (.slice none 0 0) (.slice none 0 0) (.slice none 0 0)
      (try rw [hX2]); (try rw [ho_])
      have ba2 := ba1.trans (b2.mono ba1.size)
      have hgo : wt.heap.size ≤ o := by have := ba1.size; omega
      have hr2 := own_at hr1 fun b f => b2.block b (World.ownsRow.lt hr1 b f).2
      refine hK.out _ _ (fun _ => HC5.out _ ba2) ?_
      clear hK KK hX2 s2 ho_ b2
      try simp only [Act.put, List.setIfInBounds_toArray, List.set_cons_zero, List.set_cons_succ]
      refine oneT (i := 5) (by kernel_rfl) rfl (by rfl) (fun KK hK => ?_)
      obtain ⟨v5, W3, hX3, hr3, hg3⟩ := run_pushAll rowK 29 _ _ hr2 _ _ _ _ (HKA.out.below ba2) (by simp; omega) ba2.size
      obtain ⟨P5, d5, e5, -⟩ := hr3.form
      obtain ⟨n5, hn5⟩ : ∃ n, ([] ++ ks.take a).length = n := ⟨_, rfl⟩
      rw [hn5] at e5
      subst e5
      have ba3 := ba2.trans ((Below.refl _ W2).grown hg3 ba2.size fun k hk => (World.ownsRow.lt hr2 k hk).1)
      have et3 := shc_push et2 hr2 hg3
      refine Lib.wp_append_run (P := Try.prog) W2 (.tmp 37) (.tmp 41) 29 29 rfl _ _ rfl rfl _ _ hX3 ?_
      refine hK.out _ _ (fun _ => HC5.out _ ba3) ?_
      clear hK KK hX3 hg3
      simp only [Act.put, List.getElem_toArray, List.getElem_cons_succ, List.getElem_cons_zero, List.setIfInBounds_toArray, List.set_cons_zero, List.set_cons_succ]
      refine oneT (i := 11) (by kernel_rfl) rfl (by rfl) (fun KK hK => ?_)
      obtain ⟨v11, W4, hX4, hr4, hg4⟩ := run_pushAll rowK 29 _ _ hr3 _ _ _ _ (HKB.out.below ba3) (by simp; omega) ba3.size
      obtain ⟨P11, d11, e11, -⟩ := hr4.form
      obtain ⟨n11, hn11⟩ : ∃ n, (([] ++ ks.take a) ++ ks.drop a1).length = n := ⟨_, rfl⟩
      rw [hn11] at e11
      subst e11
      have ba4 := ba3.trans ((Below.refl _ W3).grown hg4 ba3.size fun k hk => (World.ownsRow.lt hr3 k hk).1)
      have et4 := shc_push et3 hr3 hg4
      refine Lib.wp_append_run (P := Try.prog) W3 (.tmp 42) (.tmp 47) 29 29 rfl _ _ rfl rfl _ _ hX4 ?_
      refine hK.out _ _ (fun _ => HC5.out _ ba4) ?_
      clear hK KK hX4 hg4
      simp only [Act.put, List.getElem_toArray, List.getElem_cons_succ, List.getElem_cons_zero, List.setIfInBounds_toArray, List.set_cons_zero, List.set_cons_succ]
      have hC := HC5.out _ ba4
      refine takeX 12 49 (v := ?_) rfl rfl (by kernel_rfl) (by kernel_rfl) (by kernel_rfl) (by kernel_rfl) (by kernel_rfl) (fun _ _ _ _ h => h) hC (by rfl) ?_ ?_
      rotate_left
      ·intro w hSw; (try dsimp only at hSw); go_simp; try (with_reducible rfl)
      simp only [List.setIfInBounds_toArray, List.set_cons_zero, List.set_cons_succ]
      clear hC
      have HE := Lib.hid (out_end ba4 et4 hr4 hgo (row_ne hr4 et4))
      have HT3 := Lib.hid et4
      clear ba0 ba1 ba2 ba3 ba4 et4 hr4 hgo
      obtain ⟨c0', c1', c2', c3', c4'⟩ := HT3.out.cells
      obtain ⟨f0', f1', f2', f3', f4'⟩ := HT3.out.frees
      refine oneT (i := 14) (by kernel_rfl) rfl (by rfl) (fun KK hK => ?_)
      go_simp
      refine hK.out _ _ (fun h => absurd h (by decide)) ?_
      clear hK KK
      try simp only [Act.put, List.setIfInBounds_toArray, List.set_cons_zero, List.set_cons_succ]
      refine doneT (by kernel_rfl) ?_
      go_wp2_with fail
      go_meet
      exact ⟨o, rfl, HE.out⟩
    ·(try go_simp)
     obtain ⟨W1, o, hX1, ho_, b1, et1, s1⟩ := Shc.new W0 (.bool false) (.bool false) (.slice none 0 0) (.slice none 0 0) (.slice none 0 0)
     (try rw [hX1]); (try rw [ho_])
     have ba1 := ba0.trans (b1.mono ba0.size)
     have hgo : wt.heap.size ≤ o := by have := ba0.size; omega
     refine hK.out _ _ (fun _ => HC5.out _ ba1) ?_
     clear hK KK hX1 s1 ho_ b1
     try simp only [Act.put, List.setIfInBounds_toArray, List.set_cons_zero, List.set_cons_succ]
     refine oneT (i := 0) (by kernel_rfl) rfl (by rfl) (fun KK hK => ?_)
     (try go_simp)
     obtain ⟨W2, K, hX2, hK_, b2, eK, s2⟩ := one_new W1 #[] i6T
     (try rw [hX2]); (try rw [hK_])
     have ba2 := ba1.trans (b2.mono ba1.size)
     have hr2 : Row i6T wt.heap.size W2 (.slice (some ⟨K, 0, none⟩) 0 0) [] := Row.of_block eK (by have := ba1.size; omega)
     have et2 := et1.below b2
     refine hK.out _ _ (fun _ => HC5.out _ ba2) ?_
     clear hK KK hX2 s2 hK_ eK b2
     try simp only [Act.put, List.setIfInBounds_toArray, List.set_cons_zero, List.set_cons_succ]
     refine oneT (i := 5) (by kernel_rfl) rfl (by rfl) (fun KK hK => ?_)
     obtain ⟨v5, W3, hX3, hr3, hg3⟩ := run_pushAll rowK 29 _ _ hr2 _ _ _ _ (HKA.out.below ba2) (by simp; omega) ba2.size
     obtain ⟨P5, d5, e5, -⟩ := hr3.form
     obtain ⟨n5, hn5⟩ : ∃ n, ([] ++ ks.take a).length = n := ⟨_, rfl⟩
     rw [hn5] at e5
     subst e5
     have ba3 := ba2.trans ((Below.refl _ W2).grown hg3 ba2.size fun k hk => (World.ownsRow.lt hr2 k hk).1)
     have et3 := shc_push et2 hr2 hg3
     refine Lib.wp_append_run (P := Try.prog) W2 (.tmp 37) (.tmp 41) 29 29 rfl _ _ rfl rfl _ _ hX3 ?_
     refine hK.out _ _ (fun _ => HC5.out _ ba3) ?_
     clear hK KK hX3 hg3
     simp only [Act.put, List.getElem_toArray, List.getElem_cons_succ, List.getElem_cons_zero, List.setIfInBounds_toArray, List.set_cons_zero, List.set_cons_succ]
     refine oneT (i := 11) (by kernel_rfl) rfl (by rfl) (fun KK hK => ?_)
     obtain ⟨v11, W4, hX4, hr4, hg4⟩ := run_pushAll rowK 29 _ _ hr3 _ _ _ _ (HKB.out.below ba3) (by simp; omega) ba3.size
     obtain ⟨P11, d11, e11, -⟩ := hr4.form
     obtain ⟨n11, hn11⟩ : ∃ n, (([] ++ ks.take a) ++ ks.drop a1).length = n := ⟨_, rfl⟩
     rw [hn11] at e11
     subst e11
     have ba4 := ba3.trans ((Below.refl _ W3).grown hg4 ba3.size fun k hk => (World.ownsRow.lt hr3 k hk).1)
     have et4 := shc_push et3 hr3 hg4
     refine Lib.wp_append_run (P := Try.prog) W3 (.tmp 42) (.tmp 47) 29 29 rfl _ _ rfl rfl _ _ hX4 ?_
     refine hK.out _ _ (fun _ => HC5.out _ ba4) ?_
     clear hK KK hX4 hg4
     simp only [Act.put, List.getElem_toArray, List.getElem_cons_succ, List.getElem_cons_zero, List.setIfInBounds_toArray, List.set_cons_zero, List.set_cons_succ]
     have hC := HC5.out _ ba4
     refine takeX 12 49 (v := ?_) rfl rfl (by kernel_rfl) (by kernel_rfl) (by kernel_rfl) (by kernel_rfl) (by kernel_rfl) (fun _ _ _ _ h => h) hC (by rfl) ?_ ?_
     rotate_left
     ·intro w hSw; (try dsimp only at hSw); go_simp; try (with_reducible rfl)
     simp only [List.setIfInBounds_toArray, List.set_cons_zero, List.set_cons_succ]
     clear hC
     have HE := Lib.hid (out_end ba4 et4 hr4 hgo (row_ne hr4 et4))
     have HT3 := Lib.hid et4
     clear ba0 ba1 ba2 ba3 ba4 et4 hr4 hgo
     obtain ⟨c0', c1', c2', c3', c4'⟩ := HT3.out.cells
     obtain ⟨f0', f1', f2', f3', f4'⟩ := HT3.out.frees
     refine oneT (i := 14) (by kernel_rfl) rfl (by rfl) (fun KK hK => ?_)
     go_simp
     refine hK.out _ _ (fun h => absurd h (by decide)) ?_
     clear hK KK
     try simp only [Act.put, List.setIfInBounds_toArray, List.set_cons_zero, List.set_cons_succ]
     refine doneT (by kernel_rfl) ?_
     go_wp2_with fail
     go_meet
     exact ⟨o, rfl, HE.out⟩
   case rest =>
    obtain ⟨o, rfl, HOV⟩ := hcut
    obtain ⟨Y', Bt, mt, et, Ct, pt, ct, ht1, ht2, ht3, ht4, ht5, ht6, ht7⟩ := HTV.out
    have hlow : ∀ b, Y' b → b < wt.heap.size := fun b f => by
     rcases ht6 b f with f | f
     ·exact Nat.lt_of_lt_of_le (HYV.out b f) ht3.size
     ·exact f.2
    have HLO := Lib.hid hlow
    have HT1 := Lib.hid ht1
    have HT2 := Lib.hid ht2
    have HT5 := Lib.hid ht5
    have HT6 := Lib.hid ht6
    have hk0 := KidV.begin HOV.out hlow
    have HK0 := Lib.hid hk0
    obtain ⟨W0, hW0, hb0⟩ : ∃ W0 : World, wc.drew = W0 ∧ Below wc.heap.size wc W0 := ⟨_, rfl, (Below.refl _ wc).drew⟩
    have hk1 := hk0.below hb0
    have HPX : Hid (∀ w', Below wt.heap.size wt w' → w'.cell? ⟨px, 4, none⟩ = some (.slice (some ⟨g, off, none⟩) p q)) := fun w' h => (HC.out w' (HBT.out.trans (h.mono HBT.out.size))).2.1
    have HKY : Hid (∀ w', Below wt.heap.size wt w' → ShYC Y' w' kids g off) := fun w' h => ShYC.keep (fun b f => (HBT.out.trans (h.mono HBT.out.size)).block b (HYV.out b f)) HT5.out _ _ _ ((HBT.out.trans (h.mono HBT.out.size)).block g (HYV.out g HYG.out)) HKC.out
    obtain ⟨C6, p6, c6, Z6, hr6, bZ6, z64, zf6, hk6⟩ := hk1.push (m2 := a) (k2 := q) ((HKY.out _ hk1.bel).take a) (by rw [List.length_take]; have := HAP.out; have := HPL.out; omega) (by have := HAP.out; simp; omega)
    have rU := kids_upto (g := g) (off := off) (n := p) (c := q) (k := a) (by have := HAP.out; omega) HPQ.out
    have hC : W0.cell? ⟨o, 4, none⟩ = some (.slice none 0 0) ∧ W0.cell? ⟨px, 4, none⟩ = some (.slice (some ⟨g, off, none⟩) p q) := ⟨hk1.cell.1, HPX.out _ hk1.bel⟩
    have HZ6 : Hid (Z6.cell? ⟨o, 4, none⟩ = some (.slice none 0 0) ∧ Z6.cell? ⟨px, 4, none⟩ = some (.slice (some ⟨g, off, none⟩) p q)) := ⟨z64, HPX.out _ bZ6⟩
    have HZF6 := Lib.hid zf6
    obtain ⟨V6, hV6⟩ : ∃ V6, Z6.setCell ⟨o, 4, none⟩ (.slice C6 p6 c6) = V6 := ⟨_, rfl⟩
    rw [hV6] at hk6
    have HK6 := Lib.hid hk6
    clear hlow ht1 ht2 ht3 ht4 ht5 ht6 ht7 hk0 hk1 hb0 bZ6 hk6 z64 zf6
    go_upto_region 6 with fail
    refine region_T (fun k => k == 8) (fun w' : World => w'.cell? ⟨o, 4, none⟩ = some (.slice none 0 0) ∧ w'.cell? ⟨px, 4, none⟩ = some (.slice (some ⟨g, off, none⟩) p q)) (by kernel_rfl) ?_
    rw [hW0]
    clear hW0
    refine takeX 0 50 (v := ?_) rfl rfl (by kernel_rfl) (by kernel_rfl) (by kernel_rfl) (by kernel_rfl) (by kernel_rfl) (fun _ _ _ _ h => h) hC (by rfl) ?_ ?_
    rotate_left
    ·intro w hSw; (try dsimp only at hSw); go_simp; try (with_reducible rfl)
    simp only [List.setIfInBounds_toArray, List.set_cons_zero, List.set_cons_succ]
    refine takeX 1 51 (v := ?_) rfl rfl (by kernel_rfl) (by kernel_rfl) (by kernel_rfl) (by kernel_rfl) (by kernel_rfl) (fun _ _ _ _ h => h) hC (by rfl) ?_ ?_
    rotate_left
    ·intro w hSw; (try dsimp only at hSw); go_simp; try (with_reducible rfl)
    simp only [List.setIfInBounds_toArray, List.set_cons_zero, List.set_cons_succ]
    refine takeX 2 52 (v := ?_) rfl rfl (by kernel_rfl) (by kernel_rfl) (by kernel_rfl) (by kernel_rfl) (by kernel_rfl) (fun _ _ _ _ h => h) hC (by rfl) ?_ ?_
    rotate_left
    ·intro w hSw; (try dsimp only at hSw); go_simp; try (with_reducible rfl)
    simp only [List.setIfInBounds_toArray, List.set_cons_zero, List.set_cons_succ]
    refine takeX 3 53 (v := ?_) rfl rfl (by kernel_rfl) (by kernel_rfl) (by kernel_rfl) (by kernel_rfl) (by kernel_rfl) (fun _ _ _ _ h => h) hC (by rfl) ?_ ?_
    rotate_left
    ·intro w hSw; (try dsimp only at hSw); go_simp; try (with_reducible rfl)
    simp only [List.setIfInBounds_toArray, List.set_cons_zero, List.set_cons_succ]
    refine takeX 4 54 (v := ?_) rfl rfl (by kernel_rfl) (by kernel_rfl) (by kernel_rfl) (by kernel_rfl) (by kernel_rfl) (fun _ _ _ _ h => h) hC (by rfl) ?_ ?_
    rotate_left
    ·intro w hSw; (try dsimp only at hSw); go_simp; try (with_reducible rfl)
    simp only [List.setIfInBounds_toArray, List.set_cons_zero, List.set_cons_succ]
    refine takeX 5 55 (v := ?_) rfl rfl (by kernel_rfl) (by kernel_rfl) (by kernel_rfl) (by kernel_rfl) (by kernel_rfl) (fun _ _ _ _ h => h) hC (by rfl) ?_ ?_
    rotate_left
    ·intro w hSw; (try dsimp only at hSw); go_simp; try (with_reducible rfl)
    simp only [List.setIfInBounds_toArray, List.set_cons_zero, List.set_cons_succ]
    clear hC
    refine oneT (i := 6) (by kernel_rfl) rfl (by rfl) (fun KK hK => ?_)
    refine Lib.wp_append_run (P := Try.prog) W0 (.tmp 51) (.tmp 55) 91 91 rfl _ _ rfl rfl _ _ hr6 ?_
    refine hK.out _ _ (fun _ => HZ6.out) ?_
    clear hK KK hr6
    simp only [Act.put, List.getElem_toArray, List.getElem_cons_succ, List.getElem_cons_zero, List.setIfInBounds_toArray, List.set_cons_zero, List.set_cons_succ]
    have hC := HZ6.out
    refine takeX 7 57 (v := ?_) rfl rfl (by kernel_rfl) (by kernel_rfl) (by kernel_rfl) (by kernel_rfl) (by kernel_rfl) (fun _ _ _ _ h => h) hC (by rfl) ?_ ?_
    rotate_left
    ·intro w hSw; (try dsimp only at hSw); go_simp; try (with_reducible rfl)
    simp only [List.setIfInBounds_toArray, List.set_cons_zero, List.set_cons_succ]
    clear hC
    have z64 := HZ6.out.1
    have zf6 := HZF6.out
    refine oneT (i := 8) (by kernel_rfl) rfl (by rfl) (fun KK hK => ?_)
    go_simp
    refine hK.out _ _ (fun h => absurd h (by decide)) ?_
    clear hK KK
    try simp only [Act.put, List.setIfInBounds_toArray, List.set_cons_zero, List.set_cons_succ]
    refine doneT (by kernel_rfl) ?_
    (try rw [hV6])
    clear hV6 z64 zf6
    have hk6 := HK6.out
    obtain ⟨zc6, zd6⟩ := hk6.cell
    obtain ⟨t0, t1, t2, t3, t4⟩ := (HT1.out.below hk6.bel).cells
    obtain ⟨u7, hu7⟩ : ∃ u7, V6.heap.size = u7 := ⟨_, rfl⟩
    have hk7 := hk6.below (below_new V6 (.cells #[.bool false, .bool true, .slice none 0 0, .slice Bt mt et, .slice Ct pt ct] shT))
    have h7 : ShYC Y' (V6.alloc (.cells #[.bool false, .bool true, .slice none 0 0, .slice Bt mt et, .slice Ct pt ct] shT)) [.mk false true [] [z] [x, y]] u7 0 := ⟨⟨false, true, none, 0, 0, Bt, mt, et, Ct, pt, ct, c_new hu7 rfl, c_new hu7 rfl, c_new hu7 rfl, c_new hu7 rfl, c_new hu7 rfl, ShY.keep (fun b f => hk7.bel.block b (HLO.out b f)) (fun b f => f) _ _ HT2.out⟩, trivial⟩
    have hkl : kids.length ≤ 100 := by rw [← HPL.out]; exact hpl
    obtain ⟨C7, p7, c7, Z7, hr7, bZ7, z74, zf7, hk8⟩ := hk7.push (m2 := 1) (k2 := 1) h7 rfl (by simp; omega)
    obtain ⟨V7, hV7⟩ : ∃ V7, Z7.setCell ⟨o, 4, none⟩ (.slice C7 p7 c7) = V7 := ⟨_, rfl⟩
    rw [hV7] at hk8
    have HK8 := Lib.hid hk8
    clear hk6 hk7 h7 hk8 bZ7
    go_upto_region 8 with (at_builtin; refine Lib.wpList_append_run _ rfl _ _ _ _ rfl _ _ rfl rfl _ _ hr7 ?_)
    (try rw [hV7])
    clear hV7 hr7 z74 zf7 zc6 zd6 t0 t1 t2 t3 t4 hu7
    obtain ⟨W8, hW8, hb8⟩ : ∃ W8 : World, V7.drew = W8 ∧ Below V7.heap.size V7 W8 := ⟨_, rfl, (Below.refl _ V7).drew⟩
    have hk9 := HK8.out.below hb8
    obtain ⟨o8, ho8, rV⟩ := kids_from (g := g) (off := off) (n := p) (c := q) (k := a2) (by have := HA2.out; have := HAP.out; omega) HPQ.out
    obtain ⟨C9, p9, c9, Z9, hr9, bZ9, z94, zf9, hk10⟩ := hk9.push (m2 := p - a2) (k2 := q - a2) (drop_at (n := p) (HKY.out _ hk9.bel) HPL.out.symm ho8) (by rw [List.length_drop, ← HPL.out]) (by simp; omega)
    have hC : W8.cell? ⟨o, 4, none⟩ = some (.slice C7 p7 c7) ∧ W8.cell? ⟨px, 4, none⟩ = some (.slice (some ⟨g, off, none⟩) p q) := ⟨hk9.cell.1, HPX.out _ hk9.bel⟩
    have HZ9 : Hid (Z9.cell? ⟨o, 4, none⟩ = some (.slice C7 p7 c7) ∧ Z9.cell? ⟨px, 4, none⟩ = some (.slice (some ⟨g, off, none⟩) p q)) := ⟨z94, HPX.out _ bZ9⟩
    have HZF9 := Lib.hid zf9
    obtain ⟨V9, hV9⟩ : ∃ V9, Z9.setCell ⟨o, 4, none⟩ (.slice C9 p9 c9) = V9 := ⟨_, rfl⟩
    rw [hV9] at hk10
    have HK10 := Lib.hid hk10
    clear hk9 hb8 ho8 bZ9 hk10 z94 zf9
    refine region_T (fun k => k == 9) (fun w' : World => w'.cell? ⟨o, 4, none⟩ = some (.slice C7 p7 c7) ∧ w'.cell? ⟨px, 4, none⟩ = some (.slice (some ⟨g, off, none⟩) p q)) (by kernel_rfl) ?_
    rw [hW8]
    clear hW8
    refine takeX 0 64 (v := ?_) rfl rfl (by kernel_rfl) (by kernel_rfl) (by kernel_rfl) (by kernel_rfl) (by kernel_rfl) (fun _ _ _ _ h => h) hC (by rfl) ?_ ?_
    rotate_left
    ·intro w hSw; (try dsimp only at hSw); go_simp; try (with_reducible rfl)
    simp only [List.setIfInBounds_toArray, List.set_cons_zero, List.set_cons_succ]
    refine takeX 1 65 (v := ?_) rfl rfl (by kernel_rfl) (by kernel_rfl) (by kernel_rfl) (by kernel_rfl) (by kernel_rfl) (fun _ _ _ _ h => h) hC (by rfl) ?_ ?_
    rotate_left
    ·intro w hSw; (try dsimp only at hSw); go_simp; try (with_reducible rfl)
    simp only [List.setIfInBounds_toArray, List.set_cons_zero, List.set_cons_succ]
    refine takeX 2 66 (v := ?_) rfl rfl (by kernel_rfl) (by kernel_rfl) (by kernel_rfl) (by kernel_rfl) (by kernel_rfl) (fun _ _ _ _ h => h) hC (by rfl) ?_ ?_
    rotate_left
    ·intro w hSw; (try dsimp only at hSw); go_simp; try (with_reducible rfl)
    simp only [List.setIfInBounds_toArray, List.set_cons_zero, List.set_cons_succ]
    refine takeX 3 67 (v := ?_) rfl rfl (by kernel_rfl) (by kernel_rfl) (by kernel_rfl) (by kernel_rfl) (by kernel_rfl) (fun _ _ _ _ h => h) hC (by rfl) ?_ ?_
    rotate_left
    ·intro w hSw; (try dsimp only at hSw); go_simp; try (with_reducible rfl)
    simp only [List.setIfInBounds_toArray, List.set_cons_zero, List.set_cons_succ]
    refine takeX 4 68 (v := ?_) rfl rfl (by kernel_rfl) (by kernel_rfl) (by kernel_rfl) (by kernel_rfl) (by kernel_rfl) (fun _ _ _ _ h => h) hC (by rfl) ?_ ?_
    rotate_left
    ·intro w hSw; (try dsimp only at hSw); go_simp; try (with_reducible rfl)
    simp only [List.setIfInBounds_toArray, List.set_cons_zero, List.set_cons_succ]
    refine takeX 5 69 (v := ?_) rfl rfl (by kernel_rfl) (by kernel_rfl) (by kernel_rfl) (by kernel_rfl) (by kernel_rfl) (fun _ _ _ _ h => h) hC (by rfl) ?_ ?_
    rotate_left
    ·intro w hSw; (try dsimp only at hSw); go_simp; try (with_reducible rfl)
    simp only [List.setIfInBounds_toArray, List.set_cons_zero, List.set_cons_succ]
    refine takeX 6 70 (v := ?_) rfl rfl (by kernel_rfl) (by kernel_rfl) (by kernel_rfl) (by kernel_rfl) (by kernel_rfl) (fun _ _ _ _ h => h) hC (by rfl) ?_ ?_
    rotate_left
    ·intro w hSw; (try dsimp only at hSw); go_simp; try (with_reducible rfl)
    simp only [List.setIfInBounds_toArray, List.set_cons_zero, List.set_cons_succ]
    clear hC
    refine oneT (i := 7) (by kernel_rfl) rfl (by rfl) (fun KK hK => ?_)
    refine Lib.wp_append_run (P := Try.prog) W8 (.tmp 65) (.tmp 70) 91 91 rfl _ _ rfl rfl _ _ hr9 ?_
    refine hK.out _ _ (fun _ => HZ9.out) ?_
    clear hK KK hr9
    simp only [Act.put, List.getElem_toArray, List.getElem_cons_succ, List.getElem_cons_zero, List.setIfInBounds_toArray, List.set_cons_zero, List.set_cons_succ]
    have hC := HZ9.out
    refine takeX 8 72 (v := ?_) rfl rfl (by kernel_rfl) (by kernel_rfl) (by kernel_rfl) (by kernel_rfl) (by kernel_rfl) (fun _ _ _ _ h => h) hC (by rfl) ?_ ?_
    rotate_left
    ·intro w hSw; (try dsimp only at hSw); go_simp; try (with_reducible rfl)
    simp only [List.setIfInBounds_toArray, List.set_cons_zero, List.set_cons_succ]
    clear hC
    have z94 := HZ9.out.1
    have zf9 := HZF9.out
    refine oneT (i := 9) (by kernel_rfl) rfl (by rfl) (fun KK hK => ?_)
    go_simp
    refine hK.out _ _ (fun h => absurd h (by decide)) ?_
    clear hK KK
    try simp only [Act.put, List.setIfInBounds_toArray, List.set_cons_zero, List.set_cons_succ]
    refine doneT (by kernel_rfl) ?_
    (try rw [hV9])
    clear hV9 z94 zf9
    have hb9 := HBT.out.trans (HK10.out.bel.mono HBT.out.size)
    have hbV := HXV.out.trans (hb9.mono HXV.out.size)
    obtain ⟨B, m', e', hv9, hS9⟩ := HK10.out.fin (Y' := fun b => (Y b ∨ w.heap.size ≤ b ∧ b < V9.heap.size) ∧ b ≠ u) (by simp) (fun b f => by
     have h1 := HUX.out
     have h2 := hb9.size
     rcases HT6.out b f with f | f
     ·exact ⟨.inl f, by have := HY.out b f; omega⟩
     ·have := HK10.out.bel.size
      exact ⟨.inr ⟨by omega, by omega⟩, by omega⟩) (fun b f1 f2 => by
     have h1 := HUX.out
     have h2 := HBT.out.size
     exact ⟨.inr ⟨by omega, f2⟩, by omega⟩)
    obtain ⟨g0, g1, g2, g3, g4⟩ := hv9.cells
    have hu9 := HEV.out.below hb9
    obtain ⟨l0, l1, l2, l3, l4⟩ := hu9.cells
    obtain ⟨r0, r1, r2, r3, r4⟩ := hu9.frees
    have HU9 := Lib.hid hu9
    have HS9 := Lib.hid hS9
    have HBV := Lib.hid hbV
    clear hb9 hbV hv9 hS9 hu9
    go_wp2
    ((try simp only [Exit.inBlock, Exit.then]); refine bodyPost_ret (results_shc rfl rfl HU9.out.put) rfl ?_)
    have hL := HL.out
    subst hL
    have ho := only_put5 V9 u (.bool false) (.bool false) (.slice none 0 0) (.slice B m' e') (.slice C9 p9 c9)
    have hbl := HBV.out.trans (ho.below (fun b f => by rw [f]; exact HUX.out.1) HBV.out.size)
    have hy2 : kids[a + 1]? = some y := by rw [HA1.out]; exact HYK.out
    have hfin : tagAt ks kids a z x y = .mk false false [] ([] ++ ks.take a ++ ks.drop a1) ([] ++ kids.take a ++ [.mk false true [] [z] [x, y]] ++ kids.drop a2) := by unfold tagAt; rw [HA1.out, HA2.out]; simp
    refine ⟨tagAt ks kids a z x y, _, rfl, ?_, hbl, tag_wf HKL.out HW.out.2.1 HW.out.2.2 HX.out hy2, tag_small HSM.out.2.1 HSM.out.2.2.1 HSM.out.2.2.2 HX.out hy2, Nat.le_of_eq (tag_many HX.out hy2), tag_deep HX.out hy2, fun h => ⟨tag_ord HKL.out h HZ.out HX.out hy2, tag_all HX.out hy2 (h.1 (by
     rcases HW.out.1 with f | f
     ·have h9 := HX.out; rw [f.2.1] at h9; simp at h9
     ·exact f.1))⟩⟩
    rw [hfin]
    exact ShY.keep (fun b f => put5_block V9 u _ _ _ _ _ f.2) (fun b f => f.1.imp id fun g => ⟨g.1, Nat.lt_of_lt_of_le g.2 ho.size⟩) _ _ HS9.out
end Go.Proofs.Ytmnldlhpiapalaa
