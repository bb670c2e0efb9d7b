/-
  Law LlxStill.
-/
import Derived.Test.YtoeilogakfggfaaZf10
import Derived.Deep.Cut
import Derived.BigQuiet
namespace Go.Proofs.Ytoeilogakfggfaa
open Go.ChangeShapes Go.WideShapes Go.ChangeAt Go.RowKit
set_option linter.unusedVariables false
set_option linter.unusedSimpArgs false
set_option maxRecDepth 20000

theorem L1.fin {W v2 w : World} {X : Nat → Nat} {b6 n k T : Nat} {nv v vv : Value} {d : Wd} {s : Sig} {ps : List (Nat × Ts)} (h : L1 v2 X b6 nv n v w) (hG : RG W vv [] d k T s v2 ps) :
    ∃ gp cp cs, v = .slice (some ⟨gp, 0, none⟩) (n + 1) cp ∧ RG W vv cs d k T s w ps ∧ (b6, 0, nv) ∈ cs ∧ (b6 + 3, 0, Value.slice (some ⟨gp, 0, none⟩) (n + 1) cp) ∈ cs ∧ ∀ i, i ≤ n → (gp, i * 2, Value.int .i64 (zwv 0 (zla X 0 i))) ∈ cs ∧ (gp, i * 2 + 1, Value.int .i64 (zwv 1 (zla X 1 i))) ∈ cs := by
  have hr := h.row
  have hv : ∃ gp cp, v = .slice (some ⟨gp, 0, none⟩) (n + 1) cp := by
    rcases hr.2 with ⟨rfl, h0⟩ | ⟨g, cap, cur, rfl, _⟩
    · omega
    · exact ⟨_, _, rfl⟩
  obtain ⟨gp, cp, rfl⟩ := hv
  have hgp : b6 ≤ gp := (h.own gp rfl).1
  have c0 : ∀ i, i ≤ n → w.cell? ⟨gp, i * 2, none⟩ = some (.int .i64 (zwv 0 (zla X 0 i))) := fun i hi => by
    rw [World.ownsRow.cellAt hr (i * 2) (by omega)]; exact cellsP_key (prsL_at (by omega))
  have c1 : ∀ i, i ≤ n → w.cell? ⟨gp, i * 2 + 1, none⟩ = some (.int .i64 (zwv 1 (zla X 1 i))) := fun i hi => by
    rw [World.ownsRow.cellAt hr (i * 2 + 1) (by omega)]; exact cellsP_value (prsL_at (by omega))
  have hA := hG.add (cs' := (b6, 0, nv) :: (b6 + 3, 0, Value.slice (some ⟨gp, 0, none⟩) (n + 1) cp) :: ((List.range (n + 1)).map (fun i => (gp, i * 2, Value.int .i64 (zwv 0 (zla X 0 i)))) ++ (List.range (n + 1)).map (fun i => (gp, i * 2 + 1, Value.int .i64 (zwv 1 (zla X 1 i)))))) h.bel (fun c e => by
    have ha := h.at_
    rcases List.mem_cons.1 e with rfl | e
    · exact ⟨by show _ ≤ b6; omega, h.nod⟩
    rcases List.mem_cons.1 e with rfl | e
    · exact ⟨by show _ ≤ b6 + 3; omega, h.boxc⟩
    rcases List.mem_append.1 e with e | e
    · obtain ⟨i, hi, rfl⟩ := List.mem_map.1 e
      exact ⟨by show _ ≤ gp; omega, c0 i (by have := List.mem_range.1 hi; omega)⟩
    · obtain ⟨i, hi, rfl⟩ := List.mem_map.1 e
      exact ⟨by show _ ≤ gp; omega, c1 i (by have := List.mem_range.1 hi; omega)⟩)
  refine ⟨gp, cp, _, rfl, hA, by simp, by simp, fun i hi => ⟨?_, ?_⟩⟩
  · exact List.mem_append_right _ (List.mem_cons_of_mem _ (List.mem_cons_of_mem _ (List.mem_append_left _ (List.mem_map.2 ⟨i, List.mem_range.2 (by omega), rfl⟩))))
  · exact List.mem_append_right _ (List.mem_cons_of_mem _ (List.mem_cons_of_mem _ (List.mem_append_right _ (List.mem_map.2 ⟨i, List.mem_range.2 (by omega), rfl⟩))))
theorem l1_begin (v2 : World) (X : Nat → Nat) (nv : Value) : ∃ (b6 : Nat) (Y6 Z6 Y7 Z7 V7 Y8 Z8 : World),
    v2.heap.size = b6 ∧ v2.alloc (.cells #[.slice none 0 0] 26) = Y6 ∧ Y6.frozen? ⟨b6, 0, none⟩ = false ∧ Y6.cell? ⟨b6, 0, none⟩ = some (.slice none 0 0) ∧ Y6.setCell ⟨b6, 0, none⟩ nv = Z6 ∧
    Z6.heap.size = b6 + 1 ∧ Z6.alloc (.cells #[.int .i64 0, .int .i64 0] arW) = Y7 ∧ Y7.frozen? ⟨b6 + 1, 0, none⟩ = false ∧ Y7.frozen? ⟨b6 + 1, 1, none⟩ = false ∧ Y7.cell? ⟨b6 + 1, 0, none⟩ = some (.int .i64 0) ∧ Y7.cell? ⟨b6 + 1, 1, none⟩ = some (.int .i64 0) ∧ (Y7.setCell ⟨b6 + 1, 0, none⟩ (.int .i64 200)).setCell ⟨b6 + 1, 1, none⟩ (.int .i64 210) = Z7 ∧
    Z7.heap.size = b6 + 2 ∧ Z7.cell? ⟨b6 + 1, 0, none⟩ = some (.int .i64 200) ∧ Z7.cell? ⟨b6 + 1, 1, none⟩ = some (.int .i64 210) ∧ Z7.alloc (.cells #[.int .i64 200, .int .i64 210] arW) = V7 ∧
    V7.heap.size = b6 + 3 ∧ V7.alloc (.cells #[.slice none 0 0] psT) = Y8 ∧ Y8.frozen? ⟨b6 + 3, 0, none⟩ = false ∧ Y8.cell? ⟨b6 + 3, 0, none⟩ = some (.slice none 0 0) ∧ Y8.setCell ⟨b6 + 3, 0, none⟩ (.slice (some ⟨b6 + 2, 0, none⟩) 1 1) = Z8 ∧
    L1 v2 X b6 nv 0 (.slice (some ⟨b6 + 2, 0, none⟩) 1 1) Z8 := by
  obtain ⟨Y6, b6, Z6, hY6, hb6, f6, y6, hZ6, bZ6, sZ6, x6⟩ := box_new v2 (.slice none 0 0) nv 26
  obtain ⟨Y7, q, Z7, hY7, hq, f70, f71, y70, y71, hZ7, bZ7, sZ7, x7, -⟩ := arr_new Z6 200 210
  obtain rfl : q = b6 + 1 := by omega
  obtain ⟨V7, hV7⟩ : ∃ V7, Z7.alloc (.cells #[.int .i64 200, .int .i64 210] arW) = V7 := ⟨_, rfl⟩
  have bV7 : Below Z7.heap.size Z7 V7 := by rw [← hV7]; exact below_new _ _
  have sV7 : V7.heap.size = b6 + 3 := by rw [← hV7]; simp [sZ7]
  have xg : Arr V7 (b6 + 2) 200 210 := by
    have h := heap_alloc_new Z7 (.cells #[.int .i64 200, .int .i64 210] arW)
    rw [sZ7, hV7] at h
    exact h
  obtain ⟨Y8, b8, Z8, hY8, hb8, f8, y8, hZ8, bZ8, sZ8, x8⟩ := box_new V7 (.slice none 0 0) (.slice (some ⟨b6 + 2, 0, none⟩) 1 1) psT
  obtain rfl : b8 = b6 + 3 := by omega
  refine ⟨b6, Y6, Z6, Y7, Z7, V7, Y8, Z8, hb6, hY6, f6, y6, hZ6, sZ6, hY7, f70, f71, y70, y71, hZ7, by omega, x7.c0, x7.c1, hV7, sV7, hY8, f8, y8, hZ8, ?_, ?_, x8, ?_, ?_, ?_, hb6⟩
  · exact ((bZ6.trans (bZ7.mono bZ6.size)).trans (bV7.mono (by omega))).trans (bZ8.mono (by omega))
  · exact x7.same ((bZ8.block _ (by omega)).trans (bV7.block _ (by omega)))
  · have h6 : Z6.cell? ⟨b6, 0, none⟩ = some nv := by rw [cell_of_row Z6 _ _ _ _ (0, 0) x6]; rfl
    exact below_read bZ8 (below_read bV7 (below_read bZ7 h6))
  · have xg8 : Arr Z8 (b6 + 2) 200 210 := xg.same (bZ8.block _ (by omega))
    exact ⟨rfl, .inr ⟨b6 + 2, 1, _, rfl, Nat.zero_le _, xg8, Nat.le_refl _, by unfold maxLen; omega, rfl, rfl⟩⟩
  · intro b e
    have e' : some (b6 + 2) = some b := e
    injection e' with e'
    omega
set_option maxHeartbeats 16000000 in
theorem llxStill_walk (A1 : Option Addr) (n1 c1 : Nat) (l1 : List Int) (A2 : Option Addr) (n2 c2 : Nat) (l2 : List Int) (w : World) (hk1 : Sk .u8 0 255 w A1 n1 l1) (hk2 : Sk .u8 0 255 w A2 n2 l2) :
    Calls Try.prog 4 #[.slice A1 n1 c1, .slice A2 n2 c2] w fun e w' => e = .returned (.bool true) ∧ Below w.heap.size w w' := by
  have e3 := mk_fn
  have HK1 := Lib.hid hk1
  have HK2 := Lib.hid hk2
  obtain ⟨X, hXd⟩ : ∃ X : Nat → Nat, ∀ i, X i = (l1.getD i 0).toNat % 2 := ⟨_, fun i => rfl⟩
  have HX2 : Hid (∀ j, X j < 2) := fun j => by rw [hXd]; omega
  have HXL : Hid (∀ i z, l1[i]? = some z → X i = z.toNat % 2) := fun i z h => by rw [hXd, List.getD_eq_getElem?_getD, h]; rfl
  obtain ⟨W0, b2, hW0, hb2, bW0, cW0⟩ : ∃ (Z : World) (b : Nat), w.alloc (.cells #[.slice A1 n1 c1] 61) = Z ∧ w.heap.size = b ∧ Below w.heap.size w Z ∧ Z.cell? ⟨b, 0, none⟩ = some (.slice A1 n1 c1) := ⟨_, _, rfl, rfl, below_new _ _, c_new rfl rfl⟩
  have HW0 := Lib.hid bW0
  have HCW := Lib.hid cW0
  clear hk1 hk2 hXd bW0 cW0
  go_enter Try.func4, Try.ntmps4
  go_wp2_with fail
  (try rw [hW0])
  refine (awake10_walk W0).mono ?_
  rintro e v1 ⟨rfl, b1⟩
  have HB1 : Hid (Below w.heap.size w v1) := HW0.out.trans (b1.mono HW0.out.size)
  have HC2 : Hid (v1.cell? ⟨b2, 0, none⟩ = some (.slice A1 n1 c1)) := below_read b1 HCW.out
  have k2 := HC2.out
  clear b1 hW0
  by_cases hn : 6 < n1
  · have i1 : (6 : Int) < (n1 : Int) := by omega
    go_wp2
    go_ret
    exact ⟨rfl, HB1.out⟩
  have i1 : ¬ (6 : Int) < (n1 : Int) := by omega
  by_cases hn2 : 200 < n2
  · have i2 : (200 : Int) < (n2 : Int) := by omega
    go_wp2
    go_ret
    exact ⟨rfl, HB1.out⟩
  have i2 : ¬ (200 : Int) < (n2 : Int) := by omega
  go_wp2_with fail
  have HN1 := Lib.hid hn
  have HN2 := Lib.hid hn2
  refine (nodes_walk 2 2 (by omega) (by omega) v1).mono ?_
  rintro e v2 ⟨d, A, m, c, rfl, hN⟩
  have HDM := Lib.hid hN.dm
  obtain ⟨g, c', hv, hX0, hcg⟩ := hN.rowX.at_ (refN_at (k := 2) (i := 0) (by omega))
  rw [refN_len] at hv
  injection hv with e5 e6 e4
  subst e5 e6 e4
  have HG0 : Hid (RG v1 (.slice (some ⟨g, 0, none⟩) 2 c) [] d 2 0 (zS X 0) v2 []) := RG.begin_ hN.lg
  clear hN hcg hX0 i1 i2 hn hn2
  have k2 := below_read HG0.out.bel HC2.out
  obtain ⟨b6, Y6, Z6, Y7, Z7, V7, Y8, Z8, hb6, hY6, f6, y6, hZ6, sZ6, hY7, f70, f71, y70, y71, hZ7, sZ7, x70, x71, hV7, sV7, hY8, f8, y8, hZ8, hL⟩ := l1_begin v2 X (.slice (some ⟨g, 0, none⟩) 2 c)
  have HL0 := Lib.hid hL
  have k3 : Z8.cell? ⟨b2, 0, none⟩ = some (.slice A1 n1 c1) := below_read hL.bel k2
  clear hL k2
  go_upto_region 6 with fail
  (try rw [hY6]); (try rw [hb6]); (try rw [hZ6])
  clear hY6 hZ6 f6 y6
  go_upto_region 7 with fail
  (try rw [hY7]); (try rw [sZ6]); (try rw [hZ7])
  clear hY7 hZ7 f70 f71 y70 y71
  go_upto_region 8 with fail
  (try rw [hV7]); (try rw [sZ7]); (try rw [hY8]); (try rw [sV7]); (try rw [hZ8])
  clear hV7 hY8 hZ8 f8 y8 x70 x71
  go_wp2_with fail
  go_loopg [35] n1 (fun gk iv wr => ∃ (j : Nat) (v : Value), j + gk = n1 ∧ iv = .int .i64 (j : Int) ∧ Hid (L1 v2 X b6 (.slice (some ⟨g, 0, none⟩) 2 c) j v wr))
  case atStart => exact ⟨0, _, by omega, rfl, HL0.out⟩
  case round =>
    clear HL0 k3
    obtain ⟨j, v, hj, rfl, HL⟩ := hrel
    by_cases hlt : j < n1
    case neg =>
      have i1 : ¬ ((j : Int) < (n1 : Int)) := by omega
      have hjn : n1 = j := by omega
      subst hjn
      clear hj hlt
      obtain ⟨gp, cp, cs, rfl, hG1, m6, m8, mC⟩ := HL.out.fin HG0.out
      have HM : Hid ((b6, 0, Value.slice (some ⟨g, 0, none⟩) 2 c) ∈ cs ∧ (b6 + 3, 0, Value.slice (some ⟨gp, 0, none⟩) (n1 + 1) cp) ∈ cs ∧ ∀ i, i ≤ n1 → (gp, i * 2, Value.int .i64 (zwv 0 (zla X 0 i))) ∈ cs ∧ (gp, i * 2 + 1, Value.int .i64 (zwv 1 (zla X 1 i))) ∈ cs) := ⟨m6, m8, mC⟩
      have HKV : Hid (Sk .u8 0 255 v1 A1 n1 l1) := HK1.out.below HB1.out
      have HSW := Lib.hid (hG1.startW (b2 := b2) (cB := c1) (b8 := b6 + 3) (b6 := b6) (X := X) (gp := gp) (q1 := cp) (m1 := n1 + 1) HDM.out HKV.out (by have := HN1.out; omega) HXL.out HC2.out (by omega) m8 m6 (mC 0 (by omega)).1 (mC 0 (by omega)).2)
      clear hG1 m6 m8 mC HL HKV
      go_wp2_with fail
      refine HSW.out.mono ?_
      clear HSW
      rintro e w3 ⟨A0, rfl, hG2, -⟩
      have HSR := Lib.hid (hG2.startR (b6 := b6) HM.out.1)
      clear hG2
      go_wp2_with fail
      refine HSR.out.mono ?_
      clear HSR
      rintro e w4 ⟨A1', rfl, hG3, -⟩
      obtain ⟨Z2, gl, hZ2, hgl, bZ2, cZ0, cZ1⟩ : ∃ (Z : World) (b : Nat), w4.alloc (.cells #[ptr A0, ptr A1'] 49) = Z ∧ w4.heap.size = b ∧ Below w4.heap.size w4 Z ∧ Z.cell? ⟨b, 0, none⟩ = some (ptr A0) ∧ Z.cell? ⟨b, 1, none⟩ = some (ptr A1') := ⟨_, _, rfl, rfl, below_new _ _, c_new rfl rfl, c_new rfl rfl⟩
      have hE := hG3.add (cs' := [(gl, 0, ptr A0), (gl, 1, ptr A1')]) bZ2 (fun c' e => by
        rcases List.mem_cons.1 e with rfl | e
        · exact ⟨by show _ ≤ gl; omega, cZ0⟩
        · rw [List.mem_singleton.1 e]; exact ⟨by show _ ≤ gl; omega, cZ1⟩)
      obtain ⟨cs2, hcs⟩ : ∃ cs2, cs ++ [(gl, 0, ptr A0), (gl, 1, ptr A1')] = cs2 := ⟨_, rfl⟩
      rw [hcs] at hE
      have HMG : Hid ((gl, 0, ptr A0) ∈ cs2 ∧ (gl, 1, ptr A1') ∈ cs2) := by rw [← hcs]; exact ⟨by simp, by simp⟩
      have HM2 : Hid (∀ x ∈ cs, x ∈ cs2) := fun x hx => by rw [← hcs]; exact List.mem_append_left _ hx
      have hER := EZ.begin_ (c := n1) HX2.out (by have := HN1.out; omega) hE
      have hmx := mixed2_walk (e := c2) (gl := gl) (a0 := A0) (a1 := A1') (B := A2) (k := n2) (l := l2) (E := EZ v1 (.slice (some ⟨g, 0, none⟩) 2 c) cs2 d X n1 A0 A1') (F := FZ v1 (.slice (some ⟨g, 0, none⟩) 2 c) cs2 d X n1 A0 A1') (G := GZ v1 (.slice (some ⟨g, 0, none⟩) 2 c) cs2 d X n1 A0 A1') (by have := HN2.out; omega) hER (fun j w' h => by
          obtain ⟨oa, ob, t, na, nb, q1, q2⟩ := h
          exact ⟨q1.cell HMG.out.1, q1.cell HMG.out.2, HK2.out.below (HB1.out.trans (q1.bel.mono HB1.out.size))⟩)
        (fun j w' hj h => h.step0 (by have := HN2.out; omega)) (fun j w' hj h => h.step1 (by have := HN2.out; omega)) (fun w' h => h.alone (by have := HN2.out; omega)) (fun w' h => by
          obtain ⟨ob, T, nb, q1, q2⟩ := h
          exact q1.cell HMG.out.2) (fun w' h => h.alone)
      have HMX := Lib.hid hmx
      clear hG3 hE hcs hER hmx bZ2 cZ0 cZ1 HMG
      go_wp2_with fail
      (try rw [hZ2]); (try rw [hgl])
      clear hZ2 hgl
      refine HMX.out.mono ?_
      clear HMX
      rintro e w5 ⟨rfl, b, sF, T, hRG, hans⟩
      have HANS := Lib.hid hans
      have HRG := Lib.hid hRG
      have HO := Lib.hid (hRG.out (i := 1) rfl (by have := hans.len; omega))
      clear hRG hans
      go_wp2_with fail
      refine HO.out.mono ?_
      clear HO
      rintro e w6 ⟨Ao, mo, qo, rfl, hrow, b6o⟩
      have HRG6 := Lib.hid (HRG.out.below b6o)
      have HBE : Hid (Below w.heap.size w w6) := HB1.out.trans (HRG6.out.bel.mono HB1.out.size)
      have HK6 : Hid (w6.cell? ⟨b2, 0, none⟩ = some (.slice A1 n1 c1)) := below_read HRG6.out.bel HC2.out
      have HCP : Hid (∀ w', Below w6.heap.size w6 w' → w'.cell? ⟨b6 + 3, 0, none⟩ = some (.slice (some ⟨gp, 0, none⟩) (n1 + 1) cp) ∧ ∀ i, i ≤ n1 → w'.cell? ⟨gp, i * 2, none⟩ = some (.int .i64 (zwv 0 (zla X 0 i))) ∧ w'.cell? ⟨gp, i * 2 + 1, none⟩ = some (.int .i64 (zwv 1 (zla X 1 i)))) := fun w' hb =>
        ⟨(HRG6.out.below hb).cell (HM2.out _ HM.out.2.1), fun i hi => ⟨(HRG6.out.below hb).cell (HM2.out _ (HM.out.2.2 i hi).1), (HRG6.out.below hb).cell (HM2.out _ (HM.out.2.2 i hi).2)⟩⟩
      clear HRG HRG6 HM HM2 b6o
      rcases HANS.out with ⟨rfl, h0⟩ | ⟨kk, hkk, rfl⟩
      · obtain rfl : mo = 0 := by
          obtain ⟨A', c', e, -⟩ := hrow.form
          injection e
        have k6 := HK6.out
        have i1 : (0 : Int) < (n1 : Int) := by omega
        clear hrow HANS
        go_wp2
        go_ret
        exact ⟨rfl, HBE.out⟩
      obtain ⟨go, co, hvo, -⟩ : ∃ g c, Value.slice Ao mo qo = .slice (some ⟨g, 0, none⟩) 2 c ∧ True := by
        obtain ⟨g, c, u, e, -⟩ := hrow.put (k := 0) (by simp)
        exact ⟨g, c, e, trivial⟩
      injection hvo with e5 e6 e4
      subst e5 e6 e4
      have hsl := hrow.sl
      obtain ⟨z0, hz0⟩ : ∃ z, zwv 0 (zla X 0 kk) = z := ⟨_, rfl⟩
      obtain ⟨z1, hz1⟩ : ∃ z, zwv 1 (zla X 1 kk) = z := ⟨_, rfl⟩
      have HCO : Hid (∀ w', Below w6.heap.size w6 w' → w'.cell? ⟨go, 0, none⟩ = some (.int .i64 z0) ∧ w'.cell? ⟨go, 1, none⟩ = some (.int .i64 z1)) := fun w' hb => by
        rw [← hz0, ← hz1]
        obtain ⟨b, off, e, -, hc0⟩ := hsl.at_ (k := 0) (by simp)
        obtain ⟨b', off', e', -, hc1⟩ := hsl.at_ (k := 1) (by simp)
        injection e with e
        injection e' with e'
        injection e with ea eb
        injection e' with ea' eb'
        subst ea eb ea' eb'
        exact ⟨below_read hb (by simpa using hc0), below_read hb (by simpa using hc1)⟩
      have HZ01 : Hid (zwv 0 (zla X 0 kk) = z0 ∧ zwv 1 (zla X 1 kk) = z1) := ⟨hz0, hz1⟩
      have HKK := Lib.hid hkk
      have k6 := HK6.out
      have k8 := (HCP.out w6 (Below.refl _ _)).1
      clear hrow hsl HANS hz0 hz1 hkk
      go_wp2_with fail
      go_loopg [72] (n1 + 1) (fun gk iv wr => ∃ (j : Nat), j + gk = n1 + 1 ∧ iv = .int .i64 (j : Int) ∧ j ≤ kk ∧ Hid (Below w6.heap.size w6 wr))
      case atStart => exact ⟨0, by omega, rfl, by omega, Below.refl _ _⟩
      case round =>
        clear k6 k8
        obtain ⟨j, hj, rfl, hjk, HW⟩ := hrel
        have hkn := HKK.out
        by_cases hlt : j < n1 + 1
        case neg => omega
        have i1 : (j : Int) < ((n1 + 1 : Nat) : Int) := by omega
        have i1' : (j : Int) < (n1 : Int) + 1 := by omega
        have i0 : (0 : Int) ≤ (j : Int) := by omega
        have hkw : IntKind.i64.wrap ((j : Int) + 1) = (j : Int) + 1 := IntWalk.i64_in _ (by have := HN1.out; omega)
        obtain ⟨p0, p1⟩ := (HCP.out wr HW.out).2 j (by omega)
        obtain ⟨y0, hy0⟩ : ∃ z, zwv 0 (zla X 0 j) = z := ⟨_, rfl⟩
        obtain ⟨y1, hy1⟩ : ∃ z, zwv 1 (zla X 1 j) = z := ⟨_, rfl⟩
        rw [hy0] at p0
        rw [hy1] at p1
        have HYY : Hid (j = kk → z0 = y0 ∧ z1 = y1) := fun e => by
          obtain ⟨a1, a2⟩ := HZ01.out
          rw [← hy0, ← hy1, e]; exact ⟨a1.symm, a2.symm⟩
        obtain ⟨Y, q, Z, hY, hq, f0, f1, x0, x1, hZ, bZ, sZ, hAr, -⟩ := arr_new wr y0 y1
        have HBZ : Hid (Below w6.heap.size w6 Z) := HW.out.trans (bZ.mono HW.out.size)
        have r0 := hAr.c0
        have r1 := hAr.c1
        obtain ⟨s0, s1'⟩ := HCO.out Z HBZ.out
        have HJK := Lib.hid hjk
        clear bZ sZ hAr hy0 hy1 HW hkn hjk
        go_upto_region 24 with fail
        (try rw [hY]); (try rw [hq]); (try rw [hZ])
        clear hY hq hZ f0 f1 x0 x1 p0 p1
        by_cases ha : z0 = y0
        · have ha2 : (z0 == y0) = true := by simpa using ha
          by_cases hb : z1 = y1
          · have hb2' : (z1 == y1) = true := by simpa using hb
            clear HYY
            subst ha hb
            go_quiet (fail)
            go_wp2
            go_ret
            exact ⟨rfl, HBE.out.trans ((below_drewN HBZ.out _).mono HBE.out.size)⟩
          · have hb2' : (z1 == y1) = false := by simpa using hb
            have hjk : j < kk := by have := HJK.out; have : j ≠ kk := fun e => hb (HYY.out e).2; omega
            clear HYY
            subst ha
            go_quiet (fail)
            go_wp2
            go_roundg (gk - 1)
            case measure => omega
            case rel => exact ⟨j + 1, by omega, by go_num, by omega, below_drewN HBZ.out _⟩
        · have ha2 : (z0 == y0) = false := by simpa using ha
          have hjk : j < kk := by have := HJK.out; have : j ≠ kk := fun e => ha (HYY.out e).1; omega
          clear HYY
          go_quiet (fail)
          go_wp2
          go_roundg (gk - 1)
          case measure => omega
          case rel => exact ⟨j + 1, by omega, by go_num, by omega, below_drewN HBZ.out _⟩
    have i1 : (j : Int) < (n1 : Int) := by omega
    have i0 : (0 : Int) ≤ (j : Int) := by omega
    have hkw : IntKind.i64.wrap ((j : Int) + 1) = (j : Int) + 1 := IntWalk.i64_in _ (by have := HN1.out; omega)
    have h300 : IntKind.i64.wrap (300 + (j : Int)) = 300 + (j : Int) := IntWalk.i64_in _ (by have := HN1.out; omega)
    obtain ⟨bz, ofz, z, hBe, hz, z1, z2, hcz⟩ := HK1.out.in_ (HB1.out.trans ((HG0.out.bel.trans (HL.out.bel.mono HG0.out.bel.size)).mono HB1.out.size)) hlt
    obtain ⟨zn, rfl⟩ := Int.eq_ofNat_of_zero_le z1
    have hXj : X j = zn % 2 := by have := HXL.out j _ hz; simpa using this
    subst hBe
    have w8 : IntKind.u8.wrap (zn : Int) = (zn : Int) := IntWalk.u8_in _ (by omega)
    clear hz z1 z2
    have hi2 : zn % 2 = 0 ∨ zn % 2 = 1 := by omega
    have hj50 : j ≤ 50 := by have := HN1.out; omega
    rcases hi2 with hi | hi
    · rw [hi] at hXj
      have d2 : (zn : Int) % 2 = 0 := by omega
      have d3 : (zn : Int).tmod 2 = 0 := by rw [Int.tmod_eq_emod_of_nonneg (by omega)]; exact d2
      have cq := HL.out.arr.c0
      have fq := HL.out.arr.fr 0
      obtain ⟨w1, gg, w2, A', m', c', w3, w4, q1, q2, q3, happ, q5, k0, k1, k8, y8, f8, hL⟩ := HL.out.step hXj (.inl rfl) hj50
      subst q2 q3
      have HN := Lib.hid hL
      clear hL HL hi hXj
      go_upto_region 12 with fail
      (try rw [q1])
      clear q1 cq fq hcz
      go_wp2_with (at_builtin; refine Lib.wpList_append_run _ rfl _ _ _ _ rfl _ _ rfl rfl _ _ happ ?_)
      (try rw [q5])
      go_roundg (gk - 1)
      case measure => omega
      case rel => exact ⟨j + 1, _, by omega, by go_num, HN.out⟩
    · rw [hi] at hXj
      have d2 : (zn : Int) % 2 = 1 := by omega
      have d3 : (zn : Int).tmod 2 = 1 := by rw [Int.tmod_eq_emod_of_nonneg (by omega)]; exact d2
      have cq := HL.out.arr.c1
      have fq := HL.out.arr.fr 1
      obtain ⟨w1, gg, w2, A', m', c', w3, w4, q1, q2, q3, happ, q5, k0, k1, k8, y8, f8, hL⟩ := HL.out.step hXj (.inr rfl) hj50
      subst q2 q3
      have HN := Lib.hid hL
      clear hL HL hi hXj
      go_upto_region 12 with fail
      (try rw [q1])
      clear q1 cq fq hcz
      go_wp2_with (at_builtin; refine Lib.wpList_append_run _ rfl _ _ _ _ rfl _ _ rfl rfl _ _ happ ?_)
      (try rw [q5])
      go_roundg (gk - 1)
      case measure => omega
      case rel => exact ⟨j + 1, _, by omega, by go_num, HN.out⟩
end Go.Proofs.Ytoeilogakfggfaa
