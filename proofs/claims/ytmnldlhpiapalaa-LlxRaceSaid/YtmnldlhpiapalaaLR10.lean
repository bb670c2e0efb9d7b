/-
  Law LlxRace.
-/
import Derived.Test.YtmnldlhpiapalaaRe10
import Derived.Test.YtmnldlhpiapalaaRt1
import Derived.Test.YtmnldlhpiapalaaRt2
import Derived.Test.YtmnldlhpiapalaaRt3
import Derived.Deep.Cut
namespace Go.Proofs.Ytmnldlhpiapalaa
open Go.ChangeShapes Go.WideShapes Go.ChangeAt Go.RowKit
set_option linter.unusedVariables false
set_option linter.unusedSimpArgs false
set_option maxRecDepth 20000

theorem tabs {k : Nat} (h : 1 ≤ k ∧ k ≤ 3) : ∃ (tA tB : List (List Loc)) (S : Nat → Sig) (dA dB : List (List Row4)) (ls : List (List Ent)), TabOk k (tRace (ndsN k) 61) (tRace (ndsN k) 62) tA tB S dA dB ls ∧ InL (tRace (ndsN k) 61) (tRace (ndsN k) 62) tA tB S dA dB 65 (.run (nrm (tRace (ndsN k) 61) (sN 2 k ns0 []))) (.run (nrm (tRace (ndsN k) 62) (sN 2 k ns0 []))) (sN 2 k ns0 []) := by
  have h3 : k = 1 ∨ k = 2 ∨ k = 3 := by omega
  rcases h3 with rfl | rfl | rfl
  · exact ⟨_, _, _, _, _, _, R1.tabOk, R1.start.mono (by omega)⟩
  · exact ⟨_, _, _, _, _, _, R2.tabOk, R2.start.mono (by omega)⟩
  · exact ⟨_, _, _, _, _, _, R3.tabOk, R3.start.mono (by omega)⟩
theorem race_boxes (w : World) (p v : Value) (t t' : TypeId) : ∃ (Z : World) (b b' : Nat), (w.alloc (.cells #[p] t)).alloc (.cells #[v] t') = Z ∧ w.heap.size = b ∧ b + 1 = b' ∧ Below w.heap.size w Z ∧ Z.cell? ⟨b, 0, none⟩ = some p ∧ Z.cell? ⟨b', 0, none⟩ = some v := by
  have b1 := below_new w (.cells #[p] t)
  have c1 : (w.alloc (.cells #[p] t)).cell? ⟨w.heap.size, 0, none⟩ = some p := c_new rfl rfl
  have s1 : (w.alloc (.cells #[p] t)).heap.size = w.heap.size + 1 := by simp
  generalize w.alloc (.cells #[p] t) = X at b1 c1 s1 ⊢
  have b2 := below_new X (.cells #[v] t')
  exact ⟨_, _, _, rfl, rfl, rfl, b1.trans (b2.mono b1.size), below_read b2 c1, c_new s1 rfl⟩
set_option maxHeartbeats 8000000 in
theorem llxRace_walk (x : Nat) (A1 : Option Addr) (n1 c1 : Nat) (l1 : List Int) (hx : x < 256) (w : World) (ho : Sk .u8 0 255 w A1 n1 l1) :
    Calls Try.prog 4 #[.int .u8 (x : Int), .slice A1 n1 c1] w fun e w' => e = .returned (.bool true) ∧ Below w.heap.size w w' := by
  have HO := Lib.hid ho
  obtain ⟨k, hk, hk1, hk3⟩ : ∃ k : Nat, 1 + x % 3 = k ∧ 1 ≤ k ∧ k ≤ 3 := ⟨_, rfl, by omega, by omega⟩
  have a1 : IntKind.i64.wrap (x : Int) = (x : Int) := IntWalk.i64_in _ (by omega)
  have d1 : (x : Int).tmod 3 = (x : Int) % 3 := Int.tmod_eq_emod_of_nonneg (by omega)
  have e1 : IntKind.i64.wrap (1 + (x : Int) % 3) = (k : Int) := by rw [IntWalk.i64_in _ (by omega)]; omega
  have e1' : 1 + (x : Int) % 3 = (k : Int) := by omega
  generalize (x : Int) % 3 = x3 at *
  clear hk ho
  go_enter Try.func4, Try.ntmps4
  go_wp2_with fail
  refine (awake10_walk w).mono ?_
  rintro e v1 ⟨rfl, b1⟩
  have HB1 := Lib.hid b1
  clear b1
  by_cases hn : 120 < n1
  · have i1 : (120 : Int) < (n1 : Int) := by omega
    go_wp2
    go_ret
    exact ⟨rfl, HB1.out⟩
  have i1 : ¬ (120 : Int) < (n1 : Int) := by omega
  go_wp2_with fail
  refine (nodes_walk 2 k (by omega) (by omega) v1).mono ?_
  rintro e v2 ⟨d, A, m, c, rfl, hN⟩
  have HDM := Lib.hid hN.dm
  obtain ⟨g, c', hv, hX0, hcg⟩ := hN.rowX.at_ (refN_at (k := k) (i := 0) (by omega))
  rw [refN_len] at hv
  injection hv with e5 e6 e4
  subst e5 e4 e6
  have hG := RG.begin_ hN.lg
  have HG := Lib.hid hG
  clear hN hcg hX0 d1 a1 e1 e1' hG
  go_upto_region 7 with fail
  obtain ⟨Z, tw, bx, hZ, htw, hbx, bZ, cT, cB⟩ := race_boxes v2 (ptr d.W) (.slice (some ⟨g, 0, none⟩) m c) 25 26
  have hZ2 := HG.out.add (cs' := [(tw, 0, ptr d.W), (bx, 0, .slice (some ⟨g, 0, none⟩) m c)]) bZ (fun c' e => by
    rcases List.mem_cons.1 e with rfl | e
    · exact ⟨by show _ ≤ tw; omega, cT⟩
    · rw [List.mem_singleton.1 e]; exact ⟨by show _ ≤ bx; omega, cB⟩)
  have HZ := Lib.hid hZ2
  clear hZ2 bZ cT cB
  (try rw [hZ]); (try rw [htw]); (try rw [hbx])
  clear hZ htw hbx HG
  have HR1 := Lib.hid (HZ.out.race (me := 0) (nw := 61) (bx := bx) (tw := tw) (by simp) (by simp) HDM.out (by omega) (in64_small (by omega)))
  go_wp2_with fail
  refine HR1.out.mono ?_
  clear HR1
  rintro e w3 ⟨A0, rfl, hR3⟩
  have HR2 := Lib.hid (hR3.race (me := 1) (nw := 62) (bx := bx) (tw := tw) (by simp) (by simp) HDM.out (by omega) (in64_small (by omega)))
  clear hR3 HZ
  go_wp2_with fail
  refine HR2.out.mono ?_
  clear HR2
  rintro e w4 ⟨A1', rfl, hR4⟩
  obtain ⟨Z2, gl, hZ2, hgl, bZ2, cZ0, cZ1⟩ : ∃ (Z : World) (b : Nat), w4.alloc (.cells #[ptr A0, ptr A1'] 49) = Z ∧ w4.heap.size = b ∧ Below w4.heap.size w4 Z ∧ Z.cell? ⟨b, 0, none⟩ = some (ptr A0) ∧ Z.cell? ⟨b, 1, none⟩ = some (ptr A1') := ⟨_, _, rfl, rfl, below_new _ _, c_new rfl rfl, c_new rfl rfl⟩
  have hE := hR4.add (cs' := [(gl, 0, ptr A0), (gl, 1, ptr A1')]) bZ2 (fun c' e => by
    rcases List.mem_cons.1 e with rfl | e
    · exact ⟨by show _ ≤ gl; omega, cZ0⟩
    · rw [List.mem_singleton.1 e]; exact ⟨by show _ ≤ gl; omega, cZ1⟩)
  obtain ⟨cs, hcs⟩ : ∃ cs, ([] ++ [(tw, 0, ptr d.W), (bx, 0, Value.slice (some ⟨g, 0, none⟩) m c)]) ++ [(gl, 0, ptr A0), (gl, 1, ptr A1')] = cs := ⟨_, rfl⟩
  rw [hcs] at hE
  have HM : Hid ((tw, 0, ptr d.W) ∈ cs ∧ (bx, 0, Value.slice (some ⟨g, 0, none⟩) m c) ∈ cs ∧ (gl, 0, ptr A0) ∈ cs ∧ (gl, 1, ptr A1') ∈ cs) := by rw [← hcs]; exact ⟨by simp, by simp, by simp, by simp⟩
  obtain ⟨tA, tB, S, dA, dB, ls, ht, hin⟩ := tabs (k := m) ⟨hk1, hk3⟩
  have hER : ERc v1 (.slice (some ⟨g, 0, none⟩) m c) cs d m (tRace (ndsN m) 61) (tRace (ndsN m) 62) tA tB S dA dB A0 A1' 0 Z2 := ⟨_, _, _, 65, hE, RP.begin_ (by omega) (by omega) (in64_small (by omega)) (in64_small (by omega)), hin, Nat.le_refl _⟩
  have hmx := mixed2_walk (e := c1) (gl := gl) (a0 := A0) (a1 := A1') (B := A1) (k := n1) (l := l1) (E := ERc v1 (.slice (some ⟨g, 0, none⟩) m c) cs d m (tRace (ndsN m) 61) (tRace (ndsN m) 62) tA tB S dA dB A0 A1') (F := FRc v1 (.slice (some ⟨g, 0, none⟩) m c) cs d m (tRace (ndsN m) 61) (tRace (ndsN m) 62) tA tB S dA dB A0 A1') (G := GRc v1 (.slice (some ⟨g, 0, none⟩) m c) cs d m A0 A1') (by omega) hER (fun j w' h => by
      obtain ⟨oa, ob, s, m', q1, q2⟩ := h
      exact ⟨q1.cell HM.out.2.2.1, q1.cell HM.out.2.2.2, HO.out.below (HB1.out.trans (q1.bel.mono HB1.out.size))⟩)
    (fun j w' hj h => h.step0 ht (by omega)) (fun j w' hj h => h.step1 ht (by omega)) (fun w' h => h.alone ht (by omega)) (fun w' h => by
      obtain ⟨x', ob, s, m', T, q1, q2⟩ := h
      exact q1.cell HM.out.2.2.2) (fun w' h => h.alone ht)
  have HMX := Lib.hid hmx
  clear hR4 hE hcs ht hin hER hmx bZ2 cZ0 cZ1
  go_wp2_with fail
  (try rw [hZ2]); (try rw [hgl])
  clear hZ2 hgl
  refine HMX.out.mono ?_
  clear HMX
  rintro e w5 ⟨rfl, x', y', sF, T, hRG, hfit, hgood⟩
  have HRG := Lib.hid hRG
  have HFIT := Lib.hid hfit
  obtain ⟨z, hz, hxy⟩ : ∃ z, way0 sF = some z ∧ (x' = 1 ∧ y' ≠ 1 ∧ z = 61 ∨ x' ≠ 1 ∧ y' = 1 ∧ z = 62) := by
    unfold goodE at hgood
    split at hgood
    · rename_i h1
      simp only [Bool.and_eq_true, decide_eq_true_eq, beq_iff_eq] at hgood
      exact ⟨61, hgood.2, .inl ⟨h1, hgood.1, rfl⟩⟩
    · rename_i h1
      simp only [Bool.and_eq_true, decide_eq_true_eq, beq_iff_eq] at hgood
      exact ⟨62, hgood.2, .inr ⟨h1, hgood.1, rfl⟩⟩
  obtain ⟨i, p, hh, hwp⟩ : ∃ i p, sF.ar.hit (rfN 0) = some (i, p) ∧ wayAt p 0 = z := by
    unfold way0 at hz
    cases hq : sF.ar.hit (rfN 0) with
    | none => rw [hq] at hz; cases hz
    | some ip => obtain ⟨i, p⟩ := ip; rw [hq] at hz; injection hz with hz; exact ⟨i, p, rfl, hz⟩
  have HXY := Lib.hid hxy
  have HWY : Hid (∀ w', Below w5.heap.size w5 w' → Calls Try.prog 21 #[ptr d.A, .int .i64 (rfN 0), .int .i64 0] w' fun e w'' => e = .returned (.int .i64 z) ∧ w' = w'') := fun w' hb => by
    obtain ⟨FW, hws⟩ := (HRG.out.below hb).ws
    have := nxW_way hws HFIT.out.ok hh 0
    rw [hwp] at this
    exact this
  have HC : Hid (∀ w', Below w5.heap.size w5 w' → w'.cell? ⟨tw, 0, none⟩ = some (ptr d.W) ∧ w'.cell? ⟨d.W, 0, none⟩ = some (ptr d.A) ∧ w'.cell? ⟨bx, 0, none⟩ = some (.slice (some ⟨g, 0, none⟩) m c) ∧ w'.cell? ⟨g, 0, none⟩ = some (.int .i64 (rfN 0))) := fun w' hb =>
    have q1 := HRG.out.below hb
    ⟨q1.cell HM.out.1, q1.cells, q1.cell HM.out.2.1, q1.at_ (by omega)⟩
  have HBE : Hid (Below w.heap.size w w5) := HB1.out.trans (hRG.bel.mono HB1.out.size)
  have hm1 : (0 : Int) < (m : Int) := by omega
  have hm2 : 0 < m := by omega
  obtain ⟨r0, hr0⟩ : ∃ r, rfN 0 = r := ⟨_, rfl⟩
  rw [hr0] at HC HWY
  clear hRG hfit hgood hz hxy hh hwp hr0
  go_upto_region 11 with fail
  obtain ⟨W0, hW0, b0⟩ : ∃ W0 : World, w5.drew = W0 ∧ Below w5.heap.size w5 W0 := ⟨_, rfl, (Below.refl _ w5).drew⟩
  refine region_T (fun _ => false) (fun w' : World => w'.cell? ⟨tw, 0, none⟩ = some (ptr d.W) ∧ w'.cell? ⟨d.W, 0, none⟩ = some (ptr d.A) ∧ w'.cell? ⟨bx, 0, none⟩ = some (.slice (some ⟨g, 0, none⟩) m c) ∧ w'.cell? ⟨g, 0, none⟩ = some (.int .i64 r0)) (by kernel_rfl) ?_
  rw [hW0]
  have hC := HC.out W0 b0
  have HB0 := Lib.hid b0
  clear hW0 b0
  refine takeX 0 39 (v := ?_) rfl rfl (by kernel_rfl) (by kernel_rfl) (by kernel_rfl) (by kernel_rfl) (by kernel_rfl) (fun _ _ _ _ h => h) hC (by rfl) ?_ ?_
  rotate_left
  · intro w hSw; (try dsimp only at hSw); go_simp; try (with_reducible rfl)
  simp only [List.setIfInBounds_toArray, List.set_cons_zero, List.set_cons_succ]
  refine takeX 2 41 (v := ?_) rfl rfl (by kernel_rfl) (by kernel_rfl) (by kernel_rfl) (by kernel_rfl) (by kernel_rfl) (fun _ _ _ _ h => h) hC (by rfl) ?_ ?_
  rotate_left
  · intro w hSw; (try dsimp only at hSw); go_simp; try (with_reducible rfl)
  simp only [List.setIfInBounds_toArray, List.set_cons_zero, List.set_cons_succ]
  refine takeX 4 43 (v := ?_) rfl rfl (by kernel_rfl) (by kernel_rfl) (by kernel_rfl) (by kernel_rfl) (by kernel_rfl) (fun _ _ _ _ h => h) hC (by rfl) ?_ ?_
  rotate_left
  · intro w hSw; (try dsimp only at hSw); go_simp; try (with_reducible rfl)
  simp only [List.setIfInBounds_toArray, List.set_cons_zero, List.set_cons_succ]
  refine takeX 5 44 (v := ?_) rfl rfl (by kernel_rfl) (by kernel_rfl) (by kernel_rfl) (by kernel_rfl) (by kernel_rfl) (fun _ _ _ _ h => h) hC (by rfl) ?_ ?_
  rotate_left
  · intro w hSw; (try dsimp only at hSw); go_simp; try (with_reducible rfl)
  simp only [List.setIfInBounds_toArray, List.set_cons_zero, List.set_cons_succ]
  refine takeX 6 45 (v := ?_) rfl rfl (by kernel_rfl) (by kernel_rfl) (by kernel_rfl) (by kernel_rfl) (by kernel_rfl) (fun _ _ _ _ h => h) hC (by rfl) ?_ ?_
  rotate_left
  · intro w hSw; (try dsimp only at hSw); go_simp; try (with_reducible rfl)
  simp only [List.setIfInBounds_toArray, List.set_cons_zero, List.set_cons_succ]
  refine takeX 7 46 (v := ?_) rfl rfl (by kernel_rfl) (by kernel_rfl) (by kernel_rfl) (by kernel_rfl) (by kernel_rfl) (fun _ _ _ _ h => h) hC (by rfl) ?_ ?_
  rotate_left
  · intro w hSw; (try dsimp only at hSw); go_simp; try (with_reducible rfl)
  simp only [List.setIfInBounds_toArray, List.set_cons_zero, List.set_cons_succ]
  refine takeX 8 47 (v := ?_) rfl rfl (by kernel_rfl) (by kernel_rfl) (by kernel_rfl) (by kernel_rfl) (by kernel_rfl) (fun _ _ _ _ h => h) hC (by rfl) ?_ ?_
  rotate_left
  · intro w hSw; (try dsimp only at hSw); go_simp; try (with_reducible rfl)
  simp only [List.setIfInBounds_toArray, List.set_cons_zero, List.set_cons_succ]
  refine takeX 9 48 (v := ?_) rfl rfl (by kernel_rfl) (by kernel_rfl) (by kernel_rfl) (by kernel_rfl) (by kernel_rfl) (fun _ _ _ _ h => h) hC (by rfl) ?_ ?_
  rotate_left
  · intro w hSw; (try dsimp only at hSw); go_simp; try (with_reducible rfl)
  simp only [List.setIfInBounds_toArray, List.set_cons_zero, List.set_cons_succ]
  refine takeX 10 49 (v := ?_) rfl rfl (by kernel_rfl) (by kernel_rfl) (by kernel_rfl) (by kernel_rfl) (by kernel_rfl) (fun _ _ _ _ h => h) hC (by rfl) ?_ ?_
  rotate_left
  · intro w hSw; (try dsimp only at hSw); go_simp; try (with_reducible rfl)
  simp only [List.setIfInBounds_toArray, List.set_cons_zero, List.set_cons_succ]
  clear hC
  refine oneT (i := 1) (by kernel_rfl) rfl (by rfl) (fun KK hK => ?_)
  go_simp
  refine ((HRG.out.below HB0.out).came (i := 0) rfl).mono ?_
  rintro e w6 ⟨rfl, b6⟩
  have HB6 : Hid (Below w5.heap.size w5 w6) := HB0.out.trans (b6.mono HB0.out.size)
  refine hK.out _ _ (fun _ => HC.out w6 HB6.out) ?_
  clear hK KK b6
  try simp only [Act.put, List.setIfInBounds_toArray, List.set_cons_zero, List.set_cons_succ]
  refine oneT (i := 3) (by kernel_rfl) rfl (by rfl) (fun KK hK => ?_)
  go_simp
  refine ((HRG.out.below HB6.out).came (i := 1) rfl).mono ?_
  rintro e w7 ⟨rfl, b7⟩
  have HB7 : Hid (Below w5.heap.size w5 w7) := HB6.out.trans (b7.mono HB6.out.size)
  refine hK.out _ _ (fun _ => HC.out w7 HB7.out) ?_
  clear hK KK b7
  try simp only [Act.put, List.setIfInBounds_toArray, List.set_cons_zero, List.set_cons_succ]
  refine oneT (i := 11) (by kernel_rfl) rfl (by rfl) (fun KK hK => ?_)
  go_simp
  refine (HWY.out w7 HB7.out).mono ?_
  rintro e w8 ⟨rfl, rfl⟩
  refine hK.out _ _ (fun _ => HC.out w7 HB7.out) ?_
  clear hK KK HWY
  try simp only [Act.put, List.setIfInBounds_toArray, List.set_cons_zero, List.set_cons_succ]
  have hC := HC.out w7 HB7.out
  refine takeX 12 11 (v := ?_) rfl rfl (by kernel_rfl) (by kernel_rfl) (by kernel_rfl) (by kernel_rfl) (by kernel_rfl) (fun _ _ _ _ h => h) hC (by rfl) ?_ ?_
  rotate_left
  · intro w hSw; (try dsimp only at hSw); go_simp; try (with_reducible rfl)
  simp only [List.setIfInBounds_toArray, List.set_cons_zero, List.set_cons_succ]
  refine takeX 13 12 (v := ?_) rfl rfl (by kernel_rfl) (by kernel_rfl) (by kernel_rfl) (by kernel_rfl) (by kernel_rfl) (fun _ _ _ _ h => h) hC (by rfl) ?_ ?_
  rotate_left
  · intro w hSw; (try dsimp only at hSw); go_simp; try (with_reducible rfl)
  simp only [List.setIfInBounds_toArray, List.set_cons_zero, List.set_cons_succ]
  refine takeX 14 13 (v := ?_) rfl rfl (by kernel_rfl) (by kernel_rfl) (by kernel_rfl) (by kernel_rfl) (by kernel_rfl) (fun _ _ _ _ h => h) hC (by rfl) ?_ ?_
  rotate_left
  · intro w hSw; (try dsimp only at hSw); go_simp; try (with_reducible rfl)
  simp only [List.setIfInBounds_toArray, List.set_cons_zero, List.set_cons_succ]
  clear hC
  refine doneT (by kernel_rfl) ?_
  have HF : Hid (Below w.heap.size w w7) := HBE.out.trans (HB7.out.mono HBE.out.size)
  rcases HXY.out with ⟨q1, q2, q3⟩ | ⟨q1, q2, q3⟩
  · subst q1 q3
    have q2b : (y' != 1) = true := by simpa using q2
    have q2c : (y' == 1) = false := by simpa using q2
    clear HXY HC HRG HFIT
    go_wp2
    go_ret
    exact ⟨rfl, HF.out⟩
  · subst q2 q3
    have q1b : (x' == 1) = false := by simpa using q1
    clear HXY HC HRG HFIT
    go_wp2
    go_ret
    exact ⟨rfl, HF.out⟩
end Go.Proofs.Ytmnldlhpiapalaa
