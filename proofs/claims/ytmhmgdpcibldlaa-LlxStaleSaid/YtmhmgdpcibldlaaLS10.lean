/-
  Law LlxStores: nodes that nobody is at, loaded and stored alone, and again.
-/
import Derived.Test.YtmhmgdpcibldlaaCh10
import Derived.Lib.MinMax
namespace Go.Proofs.Ytmhmgdpcibldlaa
open Go.ChangeShapes Go.WideShapes Go.ChangeAt Go.RowKit
set_option linter.unusedVariables false
set_option linter.unusedSimpArgs false
set_option maxRecDepth 20000

/-- The nodes behind a Store: all have its record, those from kept on are marked, the first one's way is another one. -/
def fS (kept : Nat) (nw : Int) : Nat → Ns := fun i => ⟨1, decide (kept ≤ i), 200 + 10 * (i : Int), if i = 0 then nw else 201 + 10 * (i : Int)⟩
def rcS (k kept : Nat) (od nw : Int) (n : Int) : Rc := ⟨refN k, List.replicate k n, (kept : Int), 1, od, nw⟩
def sS (k kept : Nat) : Sig := sN 1 k (fS kept 66) [⟨rcS k kept 201 66 0, 2, true⟩]
def nS (k kept : Nat) : Nat := 7 * k + 1 + k + 1 + (k - kept) + 2
abbrev tS (k kept : Nat) (od nw : Int) : Tr (List Int) := tChange 40 (ndsN k) (kept : Int) 1 od nw
theorem ev_S {k kept : Nat} (hk : 1 ≤ k ∧ k ≤ 5) (hq : kept ≤ 6) : ev (tS k kept 201 66) (sN 1 k ns0 []) = ([1], sS k kept, nS k kept) := by
  have h1 : k = 1 ∨ k = 2 ∨ k = 3 ∨ k = 4 ∨ k = 5 := by omega
  have h2 : kept = 0 ∨ kept = 1 ∨ kept = 2 ∨ kept = 3 ∨ kept = 4 ∨ kept = 5 ∨ kept = 6 := by omega
  rcases h1 with rfl | rfl | rfl | rfl | rfl <;> rcases h2 with rfl | rfl | rfl | rfl | rfl | rfl | rfl <;> rfl
/-- A second time. -/
def sS2 (k kept : Nat) : Sig := (ev (tS k kept 66 67) (sS k kept)).2.1
theorem ev_S2 {k kept : Nat} (hk : 1 ≤ k ∧ k ≤ 5) (hq : kept ≤ 6) : (ev (tS k kept 66 67) (sS k kept)).1 = [if kept < k then -1 else 1] ∧ (ev (tS k kept 66 67) (sS k kept)).2.2 ≤ 60 ∧ ∃ p, (sS2 k kept).ar.hit (rfN 0) = some (2, p) ∧ wayAt p 1 = if kept < k then 66 else 67 := by
  have h1 : k = 1 ∨ k = 2 ∨ k = 3 ∨ k = 4 ∨ k = 5 := by omega
  have h2 : kept = 0 ∨ kept = 1 ∨ kept = 2 ∨ kept = 3 ∨ kept = 4 ∨ kept = 5 ∨ kept = 6 := by omega
  rcases h1 with rfl | rfl | rfl | rfl | rfl <;> rcases h2 with rfl | rfl | rfl | rfl | rfl | rfl | rfl <;> exact ⟨rfl, Nat.le_of_ble_eq_true rfl, _, rfl, rfl⟩
theorem stt_S0 {k : Nat} (hk : k ≤ 5) : Stt (ndsN k) 40 (sN 1 k ns0 []) := stt_sN (by omega) (fun j hj => ⟨in64_small (z := 200 + 10 * (j : Int)) (by omega), in64_small (z := 201 + 10 * (j : Int)) (by omega)⟩) (fun x hx => (by cases hx)) (by simp)
theorem stt_S {k kept : Nat} (hk : k ≤ 5) : Stt (ndsN k) 40 (sS k kept) := stt_sN (by omega) (fun j hj => ⟨in64_small (z := 200 + 10 * (j : Int)) (by omega), by
  show in64 (if j = 0 then 66 else 201 + 10 * (j : Int))
  exact in64_small (by split <;> omega)⟩) (fun x hx => by
  obtain rfl : x = ⟨rcS k kept 201 66 0, 2, true⟩ := by simpa using hx
  exact ⟨⟨by show (0 : Int) ≤ (kept : Int); omega, by show (refN k).length = (List.replicate k (0 : Int)).length; rw [refN_len, List.length_replicate], by show (refN k).length ≤ 20; rw [refN_len]; omega⟩, in64_small (z := 66) (by decide)⟩) (by simp)
theorem inv_S {k kept B : Nat} (hk : k ≤ 5) (hB : B ≤ 900) : Inv 1 B (sS k kept) := inv_sN (by omega) (by omega) hB (fun j hj => in01.2.1) (by simp)
theorem ndsN_fst (k : Nat) : (ndsN k).map Prod.fst = refN k := by simp [ndsN, refN]
theorem ndsN_len (k : Nat) : (ndsN k).length = k := by simp [ndsN]
theorem ndsN_all {k : Nat} : ∀ x ∈ ndsN k, x ∈ ndsN k ∧ x.2.small := fun x hx => ⟨hx, by obtain ⟨i, hi, rfl⟩ := List.mem_map.1 hx; exact nodeNd_small i⟩
set_option maxHeartbeats 16000000 in
theorem llxStores_walk (x y : Nat) (hx : x < 256) (hy : y < 256) (w : World) :
    Calls Try.prog 5 #[.int .u8 (x : Int), .int .u8 (y : Int)] w fun e w' => e = .returned (.bool true) ∧ Below w.heap.size w w' := by
  obtain ⟨k, hk, hk1, hk5⟩ : ∃ k : Nat, 1 + x % 5 = k ∧ 1 ≤ k ∧ k ≤ 5 := ⟨_, rfl, by omega, by omega⟩
  obtain ⟨kept, hq, hq6⟩ : ∃ q : Nat, y % 7 = q ∧ q ≤ 6 := ⟨_, rfl, by omega⟩
  have a1 : IntKind.i64.wrap (x : Int) = (x : Int) := IntWalk.i64_in _ (by omega)
  have a2 : IntKind.i64.wrap (y : Int) = (y : Int) := IntWalk.i64_in _ (by omega)
  have d1 : (x : Int).tmod 5 = (x : Int) % 5 := Int.tmod_eq_emod_of_nonneg (by omega)
  have d2 : (y : Int).tmod 7 = (y : Int) % 7 := Int.tmod_eq_emod_of_nonneg (by omega)
  have e1 : IntKind.i64.wrap (1 + (x : Int) % 5) = (k : Int) := by rw [IntWalk.i64_in _ (by omega)]; omega
  have e1' : 1 + (x : Int) % 5 = (k : Int) := by omega
  have e2 : IntKind.i64.wrap ((y : Int) % 7) = (kept : Int) := by rw [IntWalk.i64_in _ (by omega)]; omega
  have e2' : (y : Int) % 7 = (kept : Int) := by omega
  generalize (x : Int) % 5 = x5 at *
  have m0 : 0 < k := by omega
  clear hk hq
  go_enter Try.func5, Try.ntmps5
  go_wp2_with fail
  refine (awake10_walk w).mono ?_
  rintro e v1 ⟨rfl, b1⟩
  go_wp2_with fail
  refine (nodes_walk 1 k (by omega) (by omega) v1).mono ?_
  rintro e v2 ⟨d, A, m, c, rfl, hN⟩
  have HB1 := Lib.hid b1
  have HDM := Lib.hid hN.dm
  obtain ⟨g, c', hv, hX0, hcg⟩ := hN.rowX.at_ (refN_at (k := k) (i := 0) (by omega))
  rw [refN_len] at hv
  injection hv with e5 e6 e4
  subst e5 e4 e6
  obtain ⟨X, hX⟩ : ∃ X, ownX v1 (.slice (some ⟨g, 0, none⟩) m c) = X := ⟨_, rfl⟩
  have hG := hN.lg
  rw [hX] at hG hX0
  have HG : Hid (LG v1 X (.slice (some ⟨g, 0, none⟩) m c) d m 0 0 h0 o0 (sN 1 m ns0 []) v2) := hG
  have HXG := Lib.hid hX0
  clear hN b1 hcg hX hG hX0 d1 a1 e1 e1'
  have HCh := Lib.hid (HG.out.mb.change (me := 0) (M := 40) (nds := ndsN m) (prs := ndsN m) (A := some ⟨g, 0, none⟩) (m := m) (c0 := c) (kp := (kept : Int)) (wy := 1) (od := 201) (nw := 66) (by omega) HDM.out ndsN_all (by rw [ndsN_len]; omega) (by
      rw [ndsN_fst]
      obtain ⟨A', c2, hv, hsl, -⟩ := HG.out.row.len
      rw [refN_len] at hv hsl
      injection hv with e5 e6 e4
      subst e5 e4
      exact hsl) (fun ad e => by injection e with e; rw [← e]; exact HXG.out) (in64_small (by omega)))
  go_wp2_with fail
  refine HCh.out.mono ?_
  rintro e u1 ⟨a, b, rfl, hM1, hb1⟩
  have hrow1 := HG.out.row.kp (HG.out.mb.kb hb1)
  obtain ⟨n1, q1⟩ : ∃ n1, IntKind.i64.wrap (7 * (m : Int)) = n1 := ⟨_, rfl⟩
  obtain ⟨n2, q2⟩ : ∃ n2, IntKind.i64.wrap (n1 + 1) = n2 := ⟨_, rfl⟩
  obtain ⟨n3, q3⟩ : ∃ n3, IntKind.i64.wrap (n2 + (m : Int)) = n3 := ⟨_, rfl⟩
  obtain ⟨n4, q4⟩ : ∃ n4, IntKind.i64.wrap (n3 + 1) = n4 := ⟨_, rfl⟩
  obtain ⟨n5, q5⟩ : ∃ n5, IntKind.i64.wrap ((m : Int) - (kept : Int)) = n5 := ⟨_, rfl⟩
  obtain ⟨n6, q6⟩ : ∃ n6, max n5 0 = n6 := ⟨_, rfl⟩
  obtain ⟨n7, q7⟩ : ∃ n7, IntKind.i64.wrap (n4 + n6) = n7 := ⟨_, rfl⟩
  obtain ⟨n8, q8⟩ : ∃ n8, IntKind.i64.wrap (n7 + 2) = n8 := ⟨_, rfl⟩
  have hkk : ((max (nS m kept) 1 : Nat) : Int) = n8 := by
    rw [IntWalk.i64_in _ (by omega)] at q1
    subst q1
    rw [IntWalk.i64_in _ (by omega)] at q2
    subst q2
    rw [IntWalk.i64_in _ (by omega)] at q3
    subst q3
    rw [IntWalk.i64_in _ (by omega)] at q4
    subst q4
    rw [IntWalk.i64_in _ (by omega)] at q5
    subst q5 q6
    rw [IntWalk.i64_in _ (by omega)] at q7
    subst q7
    rw [IntWalk.i64_in _ (by omega)] at q8
    subst q8
    unfold nS
    omega
  have HA := Lib.hid (hM1.alone (i := 0) (M := 80) (L := 1) (nds := ndsN m) (Mx := 40) (by omega) (upd_at ..) (by rw [upd_at]) (inv_ns0 1 m 81 (by omega) (by omega) (by omega) [] (by simp)) (stt_S0 hk5) (tj_change (by omega) _) (kl_change (by rw [ndsN_len]; omega) (in64_small (by omega))) (good_change _ _ _ _ _ _ _) (ev_S ⟨hk1, hk5⟩ hq6) (by omega) (by unfold nS; omega) (by simp) hkk)
  rw [upd_at] at HA
  have HR1 := Lib.hid hrow1
  clear HCh hM1 hb1 hrow1 hkk d2 a2 e2 e2' HG hx hy
  go_wp2_with fail
  refine HA.out.mono ?_
  rintro e u2 ⟨A3, p3, c3, rfl, -, hM2, hk2⟩
  obtain ⟨r0, hr0⟩ : ∃ r0, rfN 0 = r0 := ⟨_, rfl⟩
  have hrow2 := HR1.out.kp (hk2.mono fun q e => e.imp id .inl)
  have HLG2 : Hid (LG v1 X (.slice (some ⟨g, 0, none⟩) m c) d m 0 0 h0 o0 (sS m kept) u2) := ⟨MB.mono ⟨hM2.me.reset, hM2.bel⟩ fun q e => .inl e, hrow2⟩
  have HM2 := Lib.hid hM2
  have HCG : Hid (∀ n T hs os s V, LG v1 X (.slice (some ⟨g, 0, none⟩) m c) d m n T hs os s V → V.cell? ⟨d.W, 0, none⟩ = some (ptr d.A) ∧ V.cell? ⟨g, 0, none⟩ = some (.int .i64 r0)) := fun n T hs os s V h => by
    obtain ⟨g', c', hv, -, hc⟩ := h.row.at_ (refN_at (k := m) (i := 0) (by omega))
    injection hv with e5 e6 e4
    injection e5 with e5
    injection e5 with e5
    subst e5
    rw [← hr0]
    exact ⟨h.mb.cells.1, hc⟩
  have HR0 := Lib.hid hr0
  obtain ⟨X0, hX0, bX0⟩ : ∃ X0 : World, u2.drew = X0 ∧ Below u2.heap.size u2 X0 := ⟨_, rfl, (Below.refl _ u2).drew⟩
  have HCa := Lib.hid ((HM2.out.below bX0).came (i := 0) (z := 1) (by omega) (upd_at ..))
  rw [upd_at] at HCa
  have HLG3 := Lib.hid (HLG2.out.below bX0)
  have HWY : Hid (∀ V, LG v1 X (.slice (some ⟨g, 0, none⟩) m c) d m 0 0 h0 o0 (sS m kept) V → (Calls Try.prog 23 #[ptr d.A, .int .i64 r0, .int .i64 1] V fun e w' => e = .returned (.int .i64 66) ∧ V = w') ∧ Calls Try.prog 23 #[ptr d.A, .int .i64 r0, .int .i64 0] V fun e w' => e = .returned (.int .i64 200) ∧ V = w') := fun V h => by
    obtain ⟨FW, hW⟩ := h.mb.ws
    have hI := (inv_S (k := m) (kept := kept) (B := 0) hk5 (by omega)).fit.ok
    rw [← HR0.out]
    exact ⟨nxW_way (k := 1) hW hI (arN_hit (by omega) (by omega)), nxW_way (k := 0) hW hI (arN_hit (by omega) (by omega))⟩
  clear HA hM2 hk2 hrow2 hr0 HM2 HLG2 HR1
  go_upto_region 8 with fail
  refine region_T (fun _ => false) (fun w' => w'.cell? ⟨d.W, 0, none⟩ = some (ptr d.A) ∧ w'.cell? ⟨g, 0, none⟩ = some (.int .i64 r0)) (by kernel_rfl) ?_
  rw [hX0]
  clear hX0
  have hC := HCG.out _ _ _ _ _ _ HLG3.out
  refine takeX 0 40 (v := ?_) rfl rfl (by kernel_rfl) (by kernel_rfl) (by kernel_rfl) (by kernel_rfl) (by kernel_rfl) (fun _ _ _ _ h => h) hC (by rfl) ?_ ?_
  rotate_left
  · intro w hSw; (try dsimp only at hSw); go_simp; try (with_reducible rfl)
  simp only [List.setIfInBounds_toArray, List.set_cons_zero, List.set_cons_succ]
  refine takeX 1 41 (v := ?_) rfl rfl (by kernel_rfl) (by kernel_rfl) (by kernel_rfl) (by kernel_rfl) (by kernel_rfl) (fun _ _ _ _ h => h) hC (by rfl) ?_ ?_
  rotate_left
  · intro w hSw; (try dsimp only at hSw); go_simp; try (with_reducible rfl)
  simp only [List.setIfInBounds_toArray, List.set_cons_zero, List.set_cons_succ]
  refine takeX 2 42 (v := ?_) rfl rfl (by kernel_rfl) (by kernel_rfl) (by kernel_rfl) (by kernel_rfl) (by kernel_rfl) (fun _ _ _ _ h => h) hC (by rfl) ?_ ?_
  rotate_left
  · intro w hSw; (try dsimp only at hSw); go_simp; try (with_reducible rfl)
  simp only [List.setIfInBounds_toArray, List.set_cons_zero, List.set_cons_succ]
  refine takeX 3 43 (v := ?_) rfl rfl (by kernel_rfl) (by kernel_rfl) (by kernel_rfl) (by kernel_rfl) (by kernel_rfl) (fun _ _ _ _ h => h) hC (by rfl) ?_ ?_
  rotate_left
  · intro w hSw; (try dsimp only at hSw); go_simp; try (with_reducible rfl)
  simp only [List.setIfInBounds_toArray, List.set_cons_zero, List.set_cons_succ]
  refine takeX 4 44 (v := ?_) rfl rfl (by kernel_rfl) (by kernel_rfl) (by kernel_rfl) (by kernel_rfl) (by kernel_rfl) (fun _ _ _ _ h => h) hC (by rfl) ?_ ?_
  rotate_left
  · intro w hSw; (try dsimp only at hSw); go_simp; try (with_reducible rfl)
  simp only [List.setIfInBounds_toArray, List.set_cons_zero, List.set_cons_succ]
  refine takeX 5 45 (v := ?_) rfl rfl (by kernel_rfl) (by kernel_rfl) (by kernel_rfl) (by kernel_rfl) (by kernel_rfl) (fun _ _ _ _ h => h) hC (by rfl) ?_ ?_
  rotate_left
  · intro w hSw; (try dsimp only at hSw); go_simp; try (with_reducible rfl)
  simp only [List.setIfInBounds_toArray, List.set_cons_zero, List.set_cons_succ]
  refine takeX 6 46 (v := ?_) rfl rfl (by kernel_rfl) (by kernel_rfl) (by kernel_rfl) (by kernel_rfl) (by kernel_rfl) (fun _ _ _ _ h => h) hC (by rfl) ?_ ?_
  rotate_left
  · intro w hSw; (try dsimp only at hSw); go_simp; try (with_reducible rfl)
  simp only [List.setIfInBounds_toArray, List.set_cons_zero, List.set_cons_succ]
  refine takeX 7 47 (v := ?_) rfl rfl (by kernel_rfl) (by kernel_rfl) (by kernel_rfl) (by kernel_rfl) (by kernel_rfl) (fun _ _ _ _ h => h) hC (by rfl) ?_ ?_
  rotate_left
  · intro w hSw; (try dsimp only at hSw); go_simp; try (with_reducible rfl)
  simp only [List.setIfInBounds_toArray, List.set_cons_zero, List.set_cons_succ]
  refine takeX 8 48 (v := ?_) rfl rfl (by kernel_rfl) (by kernel_rfl) (by kernel_rfl) (by kernel_rfl) (by kernel_rfl) (fun _ _ _ _ h => h) hC (by rfl) ?_ ?_
  rotate_left
  · intro w hSw; (try dsimp only at hSw); go_simp; try (with_reducible rfl)
  simp only [List.setIfInBounds_toArray, List.set_cons_zero, List.set_cons_succ]
  refine takeX 9 49 (v := ?_) rfl rfl (by kernel_rfl) (by kernel_rfl) (by kernel_rfl) (by kernel_rfl) (by kernel_rfl) (fun _ _ _ _ h => h) hC (by rfl) ?_ ?_
  rotate_left
  · intro w hSw; (try dsimp only at hSw); go_simp; try (with_reducible rfl)
  simp only [List.setIfInBounds_toArray, List.set_cons_zero, List.set_cons_succ]
  refine takeX 10 50 (v := ?_) rfl rfl (by kernel_rfl) (by kernel_rfl) (by kernel_rfl) (by kernel_rfl) (by kernel_rfl) (fun _ _ _ _ h => h) hC (by rfl) ?_ ?_
  rotate_left
  · intro w hSw; (try dsimp only at hSw); go_simp; try (with_reducible rfl)
  simp only [List.setIfInBounds_toArray, List.set_cons_zero, List.set_cons_succ]
  refine takeX 11 51 (v := ?_) rfl rfl (by kernel_rfl) (by kernel_rfl) (by kernel_rfl) (by kernel_rfl) (by kernel_rfl) (fun _ _ _ _ h => h) hC (by rfl) ?_ ?_
  rotate_left
  · intro w hSw; (try dsimp only at hSw); go_simp; try (with_reducible rfl)
  simp only [List.setIfInBounds_toArray, List.set_cons_zero, List.set_cons_succ]
  refine takeX 12 52 (v := ?_) rfl rfl (by kernel_rfl) (by kernel_rfl) (by kernel_rfl) (by kernel_rfl) (by kernel_rfl) (fun _ _ _ _ h => h) hC (by rfl) ?_ ?_
  rotate_left
  · intro w hSw; (try dsimp only at hSw); go_simp; try (with_reducible rfl)
  simp only [List.setIfInBounds_toArray, List.set_cons_zero, List.set_cons_succ]
  refine takeX 13 53 (v := ?_) rfl rfl (by kernel_rfl) (by kernel_rfl) (by kernel_rfl) (by kernel_rfl) (by kernel_rfl) (fun _ _ _ _ h => h) hC (by rfl) ?_ ?_
  rotate_left
  · intro w hSw; (try dsimp only at hSw); go_simp; try (with_reducible rfl)
  simp only [List.setIfInBounds_toArray, List.set_cons_zero, List.set_cons_succ]
  refine takeX 14 54 (v := ?_) rfl rfl (by kernel_rfl) (by kernel_rfl) (by kernel_rfl) (by kernel_rfl) (by kernel_rfl) (fun _ _ _ _ h => h) hC (by rfl) ?_ ?_
  rotate_left
  · intro w hSw; (try dsimp only at hSw); go_simp; try (with_reducible rfl)
  simp only [List.setIfInBounds_toArray, List.set_cons_zero, List.set_cons_succ]
  refine takeX 15 55 (v := ?_) rfl rfl (by kernel_rfl) (by kernel_rfl) (by kernel_rfl) (by kernel_rfl) (by kernel_rfl) (fun _ _ _ _ h => h) hC (by rfl) ?_ ?_
  rotate_left
  · intro w hSw; (try dsimp only at hSw); go_simp; try (with_reducible rfl)
  simp only [List.setIfInBounds_toArray, List.set_cons_zero, List.set_cons_succ]
  refine takeX 16 56 (v := ?_) rfl rfl (by kernel_rfl) (by kernel_rfl) (by kernel_rfl) (by kernel_rfl) (by kernel_rfl) (fun _ _ _ _ h => h) hC (by rfl) ?_ ?_
  rotate_left
  · intro w hSw; (try dsimp only at hSw); go_simp; try (with_reducible rfl)
  simp only [List.setIfInBounds_toArray, List.set_cons_zero, List.set_cons_succ]
  refine takeX 17 57 (v := ?_) rfl rfl (by kernel_rfl) (by kernel_rfl) (by kernel_rfl) (by kernel_rfl) (by kernel_rfl) (fun _ _ _ _ h => h) hC (by rfl) ?_ ?_
  rotate_left
  · intro w hSw; (try dsimp only at hSw); go_simp; try (with_reducible rfl)
  simp only [List.setIfInBounds_toArray, List.set_cons_zero, List.set_cons_succ]
  refine takeX 18 58 (v := ?_) rfl rfl (by kernel_rfl) (by kernel_rfl) (by kernel_rfl) (by kernel_rfl) (by kernel_rfl) (fun _ _ _ _ h => h) hC (by rfl) ?_ ?_
  rotate_left
  · intro w hSw; (try dsimp only at hSw); go_simp; try (with_reducible rfl)
  simp only [List.setIfInBounds_toArray, List.set_cons_zero, List.set_cons_succ]
  refine takeX 19 59 (v := ?_) rfl rfl (by kernel_rfl) (by kernel_rfl) (by kernel_rfl) (by kernel_rfl) (by kernel_rfl) (fun _ _ _ _ h => h) hC (by rfl) ?_ ?_
  rotate_left
  · intro w hSw; (try dsimp only at hSw); go_simp; try (with_reducible rfl)
  simp only [List.setIfInBounds_toArray, List.set_cons_zero, List.set_cons_succ]
  refine oneT (i := 20) (by kernel_rfl) rfl (by rfl) (fun K hK => ?_)
  go_simp
  refine HCa.out.mono ?_
  rintro e u3 ⟨rfl, hb3⟩
  have HLG4 := Lib.hid (HLG3.out.below hb3)
  refine hK.out _ _ (fun _ => HCG.out _ _ _ _ _ _ HLG4.out) ?_
  clear hK K hC hb3 HCa HLG3 bX0
  have hC := HCG.out _ _ _ _ _ _ HLG4.out
  try simp only [Act.put, List.setIfInBounds_toArray, List.set_cons_zero, List.set_cons_succ]
  refine takeX 21 61 (v := ?_) rfl rfl (by kernel_rfl) (by kernel_rfl) (by kernel_rfl) (by kernel_rfl) (by kernel_rfl) (fun _ _ _ _ h => h) hC (by rfl) ?_ ?_
  rotate_left
  · intro w hSw; (try dsimp only at hSw); go_simp; try (with_reducible rfl)
  simp only [List.setIfInBounds_toArray, List.set_cons_zero, List.set_cons_succ]
  refine takeX 22 62 (v := ?_) rfl rfl (by kernel_rfl) (by kernel_rfl) (by kernel_rfl) (by kernel_rfl) (by kernel_rfl) (fun _ _ _ _ h => h) hC (by rfl) ?_ ?_
  rotate_left
  · intro w hSw; (try dsimp only at hSw); go_simp; try (with_reducible rfl)
  simp only [List.setIfInBounds_toArray, List.set_cons_zero, List.set_cons_succ]
  refine takeX 23 63 (v := ?_) rfl rfl (by kernel_rfl) (by kernel_rfl) (by kernel_rfl) (by kernel_rfl) (by kernel_rfl) (fun _ _ _ _ h => h) hC (by rfl) ?_ ?_
  rotate_left
  · intro w hSw; (try dsimp only at hSw); go_simp; try (with_reducible rfl)
  simp only [List.setIfInBounds_toArray, List.set_cons_zero, List.set_cons_succ]
  refine takeX 24 64 (v := ?_) rfl rfl (by kernel_rfl) (by kernel_rfl) (by kernel_rfl) (by kernel_rfl) (by kernel_rfl) (fun _ _ _ _ h => h) hC (by rfl) ?_ ?_
  rotate_left
  · intro w hSw; (try dsimp only at hSw); go_simp; try (with_reducible rfl)
  simp only [List.setIfInBounds_toArray, List.set_cons_zero, List.set_cons_succ]
  refine takeX 25 65 (v := ?_) rfl rfl (by kernel_rfl) (by kernel_rfl) (by kernel_rfl) (by kernel_rfl) (by kernel_rfl) (fun _ _ _ _ h => h) hC (by rfl) ?_ ?_
  rotate_left
  · intro w hSw; (try dsimp only at hSw); go_simp; try (with_reducible rfl)
  simp only [List.setIfInBounds_toArray, List.set_cons_zero, List.set_cons_succ]
  refine takeX 26 66 (v := ?_) rfl rfl (by kernel_rfl) (by kernel_rfl) (by kernel_rfl) (by kernel_rfl) (by kernel_rfl) (fun _ _ _ _ h => h) hC (by rfl) ?_ ?_
  rotate_left
  · intro w hSw; (try dsimp only at hSw); go_simp; try (with_reducible rfl)
  simp only [List.setIfInBounds_toArray, List.set_cons_zero, List.set_cons_succ]
  refine takeX 27 67 (v := ?_) rfl rfl (by kernel_rfl) (by kernel_rfl) (by kernel_rfl) (by kernel_rfl) (by kernel_rfl) (fun _ _ _ _ h => h) hC (by rfl) ?_ ?_
  rotate_left
  · intro w hSw; (try dsimp only at hSw); go_simp; try (with_reducible rfl)
  simp only [List.setIfInBounds_toArray, List.set_cons_zero, List.set_cons_succ]
  refine takeX 28 68 (v := ?_) rfl rfl (by kernel_rfl) (by kernel_rfl) (by kernel_rfl) (by kernel_rfl) (by kernel_rfl) (fun _ _ _ _ h => h) hC (by rfl) ?_ ?_
  rotate_left
  · intro w hSw; (try dsimp only at hSw); go_simp; try (with_reducible rfl)
  simp only [List.setIfInBounds_toArray, List.set_cons_zero, List.set_cons_succ]
  refine takeX 29 69 (v := ?_) rfl rfl (by kernel_rfl) (by kernel_rfl) (by kernel_rfl) (by kernel_rfl) (by kernel_rfl) (fun _ _ _ _ h => h) hC (by rfl) ?_ ?_
  rotate_left
  · intro w hSw; (try dsimp only at hSw); go_simp; try (with_reducible rfl)
  simp only [List.setIfInBounds_toArray, List.set_cons_zero, List.set_cons_succ]
  refine takeX 30 70 (v := ?_) rfl rfl (by kernel_rfl) (by kernel_rfl) (by kernel_rfl) (by kernel_rfl) (by kernel_rfl) (fun _ _ _ _ h => h) hC (by rfl) ?_ ?_
  rotate_left
  · intro w hSw; (try dsimp only at hSw); go_simp; try (with_reducible rfl)
  simp only [List.setIfInBounds_toArray, List.set_cons_zero, List.set_cons_succ]
  refine oneT (i := 31) (by kernel_rfl) rfl (by rfl) (fun K hK => ?_)
  go_simp
  refine (HWY.out u3 HLG4.out).1.mono ?_
  rintro e u4 ⟨rfl, rfl⟩
  refine hK.out _ _ (fun _ => hC) ?_
  clear hK K
  try simp only [Act.put, List.setIfInBounds_toArray, List.set_cons_zero, List.set_cons_succ]
  refine takeX 32 72 (v := ?_) rfl rfl (by kernel_rfl) (by kernel_rfl) (by kernel_rfl) (by kernel_rfl) (by kernel_rfl) (fun _ _ _ _ h => h) hC (by rfl) ?_ ?_
  rotate_left
  · intro w hSw; (try dsimp only at hSw); go_simp; try (with_reducible rfl)
  simp only [List.setIfInBounds_toArray, List.set_cons_zero, List.set_cons_succ]
  refine takeX 33 73 (v := ?_) rfl rfl (by kernel_rfl) (by kernel_rfl) (by kernel_rfl) (by kernel_rfl) (by kernel_rfl) (fun _ _ _ _ h => h) hC (by rfl) ?_ ?_
  rotate_left
  · intro w hSw; (try dsimp only at hSw); go_simp; try (with_reducible rfl)
  simp only [List.setIfInBounds_toArray, List.set_cons_zero, List.set_cons_succ]
  refine takeX 34 74 (v := ?_) rfl rfl (by kernel_rfl) (by kernel_rfl) (by kernel_rfl) (by kernel_rfl) (by kernel_rfl) (fun _ _ _ _ h => h) hC (by rfl) ?_ ?_
  rotate_left
  · intro w hSw; (try dsimp only at hSw); go_simp; try (with_reducible rfl)
  simp only [List.setIfInBounds_toArray, List.set_cons_zero, List.set_cons_succ]
  refine takeX 35 75 (v := ?_) rfl rfl (by kernel_rfl) (by kernel_rfl) (by kernel_rfl) (by kernel_rfl) (by kernel_rfl) (fun _ _ _ _ h => h) hC (by rfl) ?_ ?_
  rotate_left
  · intro w hSw; (try dsimp only at hSw); go_simp; try (with_reducible rfl)
  simp only [List.setIfInBounds_toArray, List.set_cons_zero, List.set_cons_succ]
  refine takeX 36 76 (v := ?_) rfl rfl (by kernel_rfl) (by kernel_rfl) (by kernel_rfl) (by kernel_rfl) (by kernel_rfl) (fun _ _ _ _ h => h) hC (by rfl) ?_ ?_
  rotate_left
  · intro w hSw; (try dsimp only at hSw); go_simp; try (with_reducible rfl)
  simp only [List.setIfInBounds_toArray, List.set_cons_zero, List.set_cons_succ]
  refine takeX 37 77 (v := ?_) rfl rfl (by kernel_rfl) (by kernel_rfl) (by kernel_rfl) (by kernel_rfl) (by kernel_rfl) (fun _ _ _ _ h => h) hC (by rfl) ?_ ?_
  rotate_left
  · intro w hSw; (try dsimp only at hSw); go_simp; try (with_reducible rfl)
  simp only [List.setIfInBounds_toArray, List.set_cons_zero, List.set_cons_succ]
  refine takeX 38 78 (v := ?_) rfl rfl (by kernel_rfl) (by kernel_rfl) (by kernel_rfl) (by kernel_rfl) (by kernel_rfl) (fun _ _ _ _ h => h) hC (by rfl) ?_ ?_
  rotate_left
  · intro w hSw; (try dsimp only at hSw); go_simp; try (with_reducible rfl)
  simp only [List.setIfInBounds_toArray, List.set_cons_zero, List.set_cons_succ]
  refine takeX 39 79 (v := ?_) rfl rfl (by kernel_rfl) (by kernel_rfl) (by kernel_rfl) (by kernel_rfl) (by kernel_rfl) (fun _ _ _ _ h => h) hC (by rfl) ?_ ?_
  rotate_left
  · intro w hSw; (try dsimp only at hSw); go_simp; try (with_reducible rfl)
  simp only [List.setIfInBounds_toArray, List.set_cons_zero, List.set_cons_succ]
  refine takeX 40 80 (v := ?_) rfl rfl (by kernel_rfl) (by kernel_rfl) (by kernel_rfl) (by kernel_rfl) (by kernel_rfl) (fun _ _ _ _ h => h) hC (by rfl) ?_ ?_
  rotate_left
  · intro w hSw; (try dsimp only at hSw); go_simp; try (with_reducible rfl)
  simp only [List.setIfInBounds_toArray, List.set_cons_zero, List.set_cons_succ]
  refine takeX 41 81 (v := ?_) rfl rfl (by kernel_rfl) (by kernel_rfl) (by kernel_rfl) (by kernel_rfl) (by kernel_rfl) (fun _ _ _ _ h => h) hC (by rfl) ?_ ?_
  rotate_left
  · intro w hSw; (try dsimp only at hSw); go_simp; try (with_reducible rfl)
  simp only [List.setIfInBounds_toArray, List.set_cons_zero, List.set_cons_succ]
  refine oneT (i := 42) (by kernel_rfl) rfl (by rfl) (fun K hK => ?_)
  go_simp
  refine (HWY.out u3 HLG4.out).2.mono ?_
  rintro e u4 ⟨rfl, rfl⟩
  refine hK.out _ _ (fun _ => hC) ?_
  clear hK K
  try simp only [Act.put, List.setIfInBounds_toArray, List.set_cons_zero, List.set_cons_succ]
  refine takeX 43 83 (v := ?_) rfl rfl (by kernel_rfl) (by kernel_rfl) (by kernel_rfl) (by kernel_rfl) (by kernel_rfl) (fun _ _ _ _ h => h) hC (by rfl) ?_ ?_
  rotate_left
  · intro w hSw; (try dsimp only at hSw); go_simp; try (with_reducible rfl)
  simp only [List.setIfInBounds_toArray, List.set_cons_zero, List.set_cons_succ]
  refine takeX 44 84 (v := ?_) rfl rfl (by kernel_rfl) (by kernel_rfl) (by kernel_rfl) (by kernel_rfl) (by kernel_rfl) (fun _ _ _ _ h => h) hC (by rfl) ?_ ?_
  rotate_left
  · intro w hSw; (try dsimp only at hSw); go_simp; try (with_reducible rfl)
  simp only [List.setIfInBounds_toArray, List.set_cons_zero, List.set_cons_succ]
  refine doneT (by kernel_rfl) ?_
  clear hC HWY q1 q2 q3 q4 q5 q6 q7 q8
  go_wp2_with fail
  go_loopg [87] m (fun gk iv wr => ∃ i : Nat, i + gk = m ∧ iv = .int .i64 (i : Int) ∧ Hid (LG v1 X (.slice (some ⟨g, 0, none⟩) m c) d m 0 0 h0 o0 (sS m kept) wr))
  case atStart => exact ⟨0, by omega, rfl, HLG4.out⟩
  case round =>
    clear HLG4
    obtain ⟨i, hi, rfl, HH⟩ := hrel
    by_cases hlt : i < m
    case pos =>
      have i1 : (i : Int) < (m : Int) := by omega
      have i0 : (0 : Int) ≤ (i : Int) := by omega
      have hkw : IntKind.i64.wrap ((i : Int) + 1) = (i : Int) + 1 := IntWalk.i64_in _ (by omega)
      obtain ⟨ri, hri⟩ : ∃ ri, rfN i = ri := ⟨_, rfl⟩
      have hci : wr.cell? ⟨g, i, none⟩ = some (.int .i64 ri) := by
        obtain ⟨g', c', hv, -, hc⟩ := HH.out.row.at_ (refN_at (k := m) (i := i) hlt)
        injection hv with e5 e6 e4
        injection e5 with e5
        injection e5 with e5
        subst e5
        rw [← hri]; exact hc
      have HIn : Hid (Calls Try.prog 21 #[ptr d.A, .int .i64 ri] wr fun e w' => e = .returned (.int .i64 1) ∧ wr = w') := by
        obtain ⟨FW, hW⟩ := HH.out.mb.ws
        rw [← hri]
        exact nxW_infoR hW (inv_S (k := m) (kept := kept) (B := 0) hk5 (by omega)).fit.ok (arN_hit hlt (by omega))
      have HMr : Hid (Calls Try.prog 22 #[ptr d.A, .int .i64 ri] wr fun e w' => e = .returned (.bool (decide (kept ≤ i))) ∧ wr = w') := by
        obtain ⟨FW, hW⟩ := HH.out.mb.ws
        rw [← hri]
        exact nxW_markR hW (inv_S (k := m) (kept := kept) (B := 0) hk5 (by omega)).fit.ok (arN_hit hlt (by omega))
      obtain ⟨k0, k1⟩ := HCG.out _ _ _ _ _ _ HH.out
      clear hri
      go_wp2_with fail
      refine HIn.out.mono ?_
      rintro e w2 ⟨rfl, rfl⟩
      clear HIn
      go_wp2_with fail
      refine HMr.out.mono ?_
      rintro e w2 ⟨rfl, rfl⟩
      clear HMr k0 k1 hci
      by_cases hm : kept ≤ i
      · have h5 : decide (kept ≤ i) = true := decide_eq_true hm
        have h6 : (kept : Int) ≤ (i : Int) := by omega
        rw [h5]
        clear h5 hm
        go_wp2
        go_roundg (gk - 1)
        case measure => omega
        case rel => exact ⟨i + 1, by omega, by go_num, HH.out⟩
      · have h5 : decide (kept ≤ i) = false := decide_eq_false hm
        have h6 : ¬ (kept : Int) ≤ (i : Int) := by omega
        rw [h5]
        clear h5 hm
        go_wp2
        go_roundg (gk - 1)
        case measure => omega
        case rel => exact ⟨i + 1, by omega, by go_num, HH.out⟩
    have i1 : ¬ ((i : Int) < (m : Int)) := by omega
    have HG := Lib.hid HH.out
    have HCh := Lib.hid (HG.out.mb.change (me := 0) (M := 40) (nds := ndsN m) (prs := ndsN m) (A := some ⟨g, 0, none⟩) (m := m) (c0 := c) (kp := (kept : Int)) (wy := 1) (od := 66) (nw := 67) (by omega) HDM.out ndsN_all (by rw [ndsN_len]; omega) (by
        rw [ndsN_fst]
        obtain ⟨A', c2, hv, hsl, -⟩ := HG.out.row.len
        rw [refN_len] at hv hsl
        injection hv with e5 e6 e4
        subst e5 e4
        exact hsl) (fun ad e => by injection e with e; rw [← e]; exact HXG.out) (in64_small (by omega)))
    clear HH
    go_wp2_with fail
    refine HCh.out.mono ?_
    rintro e u5 ⟨a2, b2, rfl, hM1, hb1⟩
    have hrow1 := HG.out.row.kp (HG.out.mb.kb hb1)
    obtain ⟨hv2, hK2, pp, hp1, hp2⟩ := ev_S2 (k := m) (kept := kept) ⟨hk1, hk5⟩ hq6
    obtain ⟨K2, hK⟩ : ∃ K2, (ev (tS m kept 66 67) (sS m kept)).2.2 = K2 := ⟨_, rfl⟩
    rw [hK] at hK2
    have hIv := (tj_all (nds := ndsN m) (M := 40) (L := 1) (tj_change (kp := (kept : Int)) (wy := 1) (od := 66) (nw := 67) (by omega) (ndsN m)) (kl_change (by rw [ndsN_len]; omega) (in64_small (by omega))) (sS m kept) 5 (stt_S hk5) (inv_S hk5 (by rw [hK]; omega))).2
    have HOK : Hid (Ok (sS2 m kept).ar) := hIv.fit.ok
    have HA := Lib.hid (hM1.alone (i := 0) (M := 80) (L := 1) (nds := ndsN m) (Mx := 40) (s' := sS2 m kept) (k := K2) (v := [if kept < m then -1 else 1]) (by omega) (upd_at ..) (by rw [upd_at]) (inv_S hk5 (by omega)) (stt_S hk5) (tj_change (by omega) _) (kl_change (by rw [ndsN_len]; omega) (in64_small (by omega))) (good_change _ _ _ _ _ _ _) (Prod.ext hv2 (Prod.ext rfl hK)) (by omega) (by omega) (by simp) rfl)
    rw [upd_at] at HA
    have HR1 := Lib.hid hrow1
    have HP := Lib.hid hp1
    have HP2 := Lib.hid hp2
    generalize ((max K2 1 : Nat) : Int) = kz2 at HA
    clear HCh hM1 hb1 hrow1 HG hv2 hK2 hK hIv hp1 hp2
    go_wp2_with fail
    refine HA.out.mono ?_
    rintro e u6 ⟨A3, p3, c3, rfl, -, hM2, hk2⟩
    have hrow2 := HR1.out.kp (hk2.mono fun q e => e.imp id .inl)
    obtain ⟨X0, hX0, bX0⟩ : ∃ X0 : World, u6.drew = X0 ∧ Below u6.heap.size u6 X0 := ⟨_, rfl, (Below.refl _ u6).drew⟩
    have HM2 := Lib.hid (hM2.below bX0)
    have HLG2 : Hid (LG v1 X (.slice (some ⟨g, 0, none⟩) m c) d m 0 0 h0 o0 (sS2 m kept) u6) := ⟨MB.mono ⟨hM2.me.reset, hM2.bel⟩ fun q e => .inl e, hrow2⟩
    have HLG3 := Lib.hid (HLG2.out.below bX0)
    clear HA hM2 hk2 hrow2 HR1
    by_cases hq2 : kept < m
    · have j1 : (kept : Int) < (m : Int) := by omega
      have HCa := Lib.hid (HM2.out.came (i := 0) (z := -1) (by omega) (by rw [upd_at]; simp only [if_pos hq2]))
      rw [upd_at] at HCa
      have HWy : Hid (∀ V, LG v1 X (.slice (some ⟨g, 0, none⟩) m c) d m 0 0 h0 o0 (sS2 m kept) V → Calls Try.prog 23 #[ptr d.A, .int .i64 r0, .int .i64 1] V fun e w' => e = .returned (.int .i64 66) ∧ V = w') := fun V h => by
        obtain ⟨FW, hW⟩ := h.mb.ws
        have := nxW_way (k := 1) hW HOK.out HP.out
        rw [HP2.out, if_pos hq2, HR0.out] at this
        exact this
      clear HM2 HP HP2 HOK HLG2
      go_upto_region 21 with fail
      refine region_T (fun _ => false) (fun w' => w'.cell? ⟨d.W, 0, none⟩ = some (ptr d.A) ∧ w'.cell? ⟨g, 0, none⟩ = some (.int .i64 r0)) (by kernel_rfl) ?_
      rw [hX0]
      clear hX0
      have hC := HCG.out _ _ _ _ _ _ HLG3.out
      refine takeX 0 127 (v := ?_) rfl rfl (by kernel_rfl) (by kernel_rfl) (by kernel_rfl) (by kernel_rfl) (by kernel_rfl) (fun _ _ _ _ h => h) hC (by rfl) ?_ ?_
      rotate_left
      · intro w hSw; (try dsimp only at hSw); go_simp; try (with_reducible rfl)
      simp only [List.setIfInBounds_toArray, List.set_cons_zero, List.set_cons_succ]
      refine oneT (i := 1) (by kernel_rfl) rfl (by rfl) (fun K hK => ?_)
      go_simp
      refine HCa.out.mono ?_
      rintro e u7 ⟨rfl, hb3⟩
      have HLG4 := Lib.hid (HLG3.out.below hb3)
      refine hK.out _ _ (fun _ => HCG.out _ _ _ _ _ _ HLG4.out) ?_
      clear hK K hC hb3 HCa HLG3 bX0
      have hC := HCG.out _ _ _ _ _ _ HLG4.out
      try simp only [Act.put, List.setIfInBounds_toArray, List.set_cons_zero, List.set_cons_succ]
      refine takeX 2 129 (v := ?_) rfl rfl (by kernel_rfl) (by kernel_rfl) (by kernel_rfl) (by kernel_rfl) (by kernel_rfl) (fun _ _ _ _ h => h) hC (by rfl) ?_ ?_
      rotate_left
      · intro w hSw; (try dsimp only at hSw); go_simp; try (with_reducible rfl)
      simp only [List.setIfInBounds_toArray, List.set_cons_zero, List.set_cons_succ]
      refine takeX 3 130 (v := ?_) rfl rfl (by kernel_rfl) (by kernel_rfl) (by kernel_rfl) (by kernel_rfl) (by kernel_rfl) (fun _ _ _ _ h => h) hC (by rfl) ?_ ?_
      rotate_left
      · intro w hSw; (try dsimp only at hSw); go_simp; try (with_reducible rfl)
      simp only [List.setIfInBounds_toArray, List.set_cons_zero, List.set_cons_succ]
      refine takeX 4 131 (v := ?_) rfl rfl (by kernel_rfl) (by kernel_rfl) (by kernel_rfl) (by kernel_rfl) (by kernel_rfl) (fun _ _ _ _ h => h) hC (by rfl) ?_ ?_
      rotate_left
      · intro w hSw; (try dsimp only at hSw); go_simp; try (with_reducible rfl)
      simp only [List.setIfInBounds_toArray, List.set_cons_zero, List.set_cons_succ]
      refine takeX 5 132 (v := ?_) rfl rfl (by kernel_rfl) (by kernel_rfl) (by kernel_rfl) (by kernel_rfl) (by kernel_rfl) (fun _ _ _ _ h => h) hC (by rfl) ?_ ?_
      rotate_left
      · intro w hSw; (try dsimp only at hSw); go_simp; try (with_reducible rfl)
      simp only [List.setIfInBounds_toArray, List.set_cons_zero, List.set_cons_succ]
      refine takeX 6 133 (v := ?_) rfl rfl (by kernel_rfl) (by kernel_rfl) (by kernel_rfl) (by kernel_rfl) (by kernel_rfl) (fun _ _ _ _ h => h) hC (by rfl) ?_ ?_
      rotate_left
      · intro w hSw; (try dsimp only at hSw); go_simp; try (with_reducible rfl)
      simp only [List.setIfInBounds_toArray, List.set_cons_zero, List.set_cons_succ]
      refine takeX 7 134 (v := ?_) rfl rfl (by kernel_rfl) (by kernel_rfl) (by kernel_rfl) (by kernel_rfl) (by kernel_rfl) (fun _ _ _ _ h => h) hC (by rfl) ?_ ?_
      rotate_left
      · intro w hSw; (try dsimp only at hSw); go_simp; try (with_reducible rfl)
      simp only [List.setIfInBounds_toArray, List.set_cons_zero, List.set_cons_succ]
      refine takeX 8 135 (v := ?_) rfl rfl (by kernel_rfl) (by kernel_rfl) (by kernel_rfl) (by kernel_rfl) (by kernel_rfl) (fun _ _ _ _ h => h) hC (by rfl) ?_ ?_
      rotate_left
      · intro w hSw; (try dsimp only at hSw); go_simp; try (with_reducible rfl)
      simp only [List.setIfInBounds_toArray, List.set_cons_zero, List.set_cons_succ]
      refine takeX 9 136 (v := ?_) rfl rfl (by kernel_rfl) (by kernel_rfl) (by kernel_rfl) (by kernel_rfl) (by kernel_rfl) (fun _ _ _ _ h => h) hC (by rfl) ?_ ?_
      rotate_left
      · intro w hSw; (try dsimp only at hSw); go_simp; try (with_reducible rfl)
      simp only [List.setIfInBounds_toArray, List.set_cons_zero, List.set_cons_succ]
      refine takeX 10 137 (v := ?_) rfl rfl (by kernel_rfl) (by kernel_rfl) (by kernel_rfl) (by kernel_rfl) (by kernel_rfl) (fun _ _ _ _ h => h) hC (by rfl) ?_ ?_
      rotate_left
      · intro w hSw; (try dsimp only at hSw); go_simp; try (with_reducible rfl)
      simp only [List.setIfInBounds_toArray, List.set_cons_zero, List.set_cons_succ]
      refine oneT (i := 11) (by kernel_rfl) rfl (by rfl) (fun K hK => ?_)
      go_simp
      refine (HWy.out u7 HLG4.out).mono ?_
      rintro e u8 ⟨rfl, rfl⟩
      refine hK.out _ _ (fun _ => hC) ?_
      clear hK K
      try simp only [Act.put, List.setIfInBounds_toArray, List.set_cons_zero, List.set_cons_succ]
      refine takeX 12 139 (v := ?_) rfl rfl (by kernel_rfl) (by kernel_rfl) (by kernel_rfl) (by kernel_rfl) (by kernel_rfl) (fun _ _ _ _ h => h) hC (by rfl) ?_ ?_
      rotate_left
      · intro w hSw; (try dsimp only at hSw); go_simp; try (with_reducible rfl)
      simp only [List.setIfInBounds_toArray, List.set_cons_zero, List.set_cons_succ]
      refine takeX 13 140 (v := ?_) rfl rfl (by kernel_rfl) (by kernel_rfl) (by kernel_rfl) (by kernel_rfl) (by kernel_rfl) (fun _ _ _ _ h => h) hC (by rfl) ?_ ?_
      rotate_left
      · intro w hSw; (try dsimp only at hSw); go_simp; try (with_reducible rfl)
      simp only [List.setIfInBounds_toArray, List.set_cons_zero, List.set_cons_succ]
      refine takeX 14 4 (v := ?_) rfl rfl (by kernel_rfl) (by kernel_rfl) (by kernel_rfl) (by kernel_rfl) (by kernel_rfl) (fun _ _ _ _ h => h) hC (by rfl) ?_ ?_
      rotate_left
      · intro w hSw; (try dsimp only at hSw); go_simp; try (with_reducible rfl)
      simp only [List.setIfInBounds_toArray, List.set_cons_zero, List.set_cons_succ]
      refine doneT (by kernel_rfl) ?_
      have HE : Hid (Below w.heap.size w u7) := HB1.out.trans (HLG4.out.mb.bel.mono HB1.out.size)
      clear hC HLG4 HWy
      go_wp2
      go_ret
      exact ⟨rfl, HE.out⟩
    · have j1 : ¬ (kept : Int) < (m : Int) := by omega
      have HCa := Lib.hid (HM2.out.came (i := 0) (z := 1) (by omega) (by rw [upd_at]; simp only [if_neg hq2]))
      rw [upd_at] at HCa
      have HWy : Hid (∀ V, LG v1 X (.slice (some ⟨g, 0, none⟩) m c) d m 0 0 h0 o0 (sS2 m kept) V → Calls Try.prog 23 #[ptr d.A, .int .i64 r0, .int .i64 1] V fun e w' => e = .returned (.int .i64 67) ∧ V = w') := fun V h => by
        obtain ⟨FW, hW⟩ := h.mb.ws
        have := nxW_way (k := 1) hW HOK.out HP.out
        rw [HP2.out, if_neg hq2, HR0.out] at this
        exact this
      clear HM2 HP HP2 HOK HLG2
      go_upto_region 22 with fail
      refine region_T (fun _ => false) (fun w' => w'.cell? ⟨d.W, 0, none⟩ = some (ptr d.A) ∧ w'.cell? ⟨g, 0, none⟩ = some (.int .i64 r0)) (by kernel_rfl) ?_
      rw [hX0]
      clear hX0
      have hC := HCG.out _ _ _ _ _ _ HLG3.out
      refine takeX 0 141 (v := ?_) rfl rfl (by kernel_rfl) (by kernel_rfl) (by kernel_rfl) (by kernel_rfl) (by kernel_rfl) (fun _ _ _ _ h => h) hC (by rfl) ?_ ?_
      rotate_left
      · intro w hSw; (try dsimp only at hSw); go_simp; try (with_reducible rfl)
      simp only [List.setIfInBounds_toArray, List.set_cons_zero, List.set_cons_succ]
      refine oneT (i := 1) (by kernel_rfl) rfl (by rfl) (fun K hK => ?_)
      go_simp
      refine HCa.out.mono ?_
      rintro e u7 ⟨rfl, hb3⟩
      have HLG4 := Lib.hid (HLG3.out.below hb3)
      refine hK.out _ _ (fun _ => HCG.out _ _ _ _ _ _ HLG4.out) ?_
      clear hK K hC hb3 HCa HLG3 bX0
      have hC := HCG.out _ _ _ _ _ _ HLG4.out
      try simp only [Act.put, List.setIfInBounds_toArray, List.set_cons_zero, List.set_cons_succ]
      refine takeX 2 143 (v := ?_) rfl rfl (by kernel_rfl) (by kernel_rfl) (by kernel_rfl) (by kernel_rfl) (by kernel_rfl) (fun _ _ _ _ h => h) hC (by rfl) ?_ ?_
      rotate_left
      · intro w hSw; (try dsimp only at hSw); go_simp; try (with_reducible rfl)
      simp only [List.setIfInBounds_toArray, List.set_cons_zero, List.set_cons_succ]
      refine takeX 3 144 (v := ?_) rfl rfl (by kernel_rfl) (by kernel_rfl) (by kernel_rfl) (by kernel_rfl) (by kernel_rfl) (fun _ _ _ _ h => h) hC (by rfl) ?_ ?_
      rotate_left
      · intro w hSw; (try dsimp only at hSw); go_simp; try (with_reducible rfl)
      simp only [List.setIfInBounds_toArray, List.set_cons_zero, List.set_cons_succ]
      refine takeX 4 145 (v := ?_) rfl rfl (by kernel_rfl) (by kernel_rfl) (by kernel_rfl) (by kernel_rfl) (by kernel_rfl) (fun _ _ _ _ h => h) hC (by rfl) ?_ ?_
      rotate_left
      · intro w hSw; (try dsimp only at hSw); go_simp; try (with_reducible rfl)
      simp only [List.setIfInBounds_toArray, List.set_cons_zero, List.set_cons_succ]
      refine takeX 5 146 (v := ?_) rfl rfl (by kernel_rfl) (by kernel_rfl) (by kernel_rfl) (by kernel_rfl) (by kernel_rfl) (fun _ _ _ _ h => h) hC (by rfl) ?_ ?_
      rotate_left
      · intro w hSw; (try dsimp only at hSw); go_simp; try (with_reducible rfl)
      simp only [List.setIfInBounds_toArray, List.set_cons_zero, List.set_cons_succ]
      refine takeX 6 147 (v := ?_) rfl rfl (by kernel_rfl) (by kernel_rfl) (by kernel_rfl) (by kernel_rfl) (by kernel_rfl) (fun _ _ _ _ h => h) hC (by rfl) ?_ ?_
      rotate_left
      · intro w hSw; (try dsimp only at hSw); go_simp; try (with_reducible rfl)
      simp only [List.setIfInBounds_toArray, List.set_cons_zero, List.set_cons_succ]
      refine takeX 7 148 (v := ?_) rfl rfl (by kernel_rfl) (by kernel_rfl) (by kernel_rfl) (by kernel_rfl) (by kernel_rfl) (fun _ _ _ _ h => h) hC (by rfl) ?_ ?_
      rotate_left
      · intro w hSw; (try dsimp only at hSw); go_simp; try (with_reducible rfl)
      simp only [List.setIfInBounds_toArray, List.set_cons_zero, List.set_cons_succ]
      refine takeX 8 149 (v := ?_) rfl rfl (by kernel_rfl) (by kernel_rfl) (by kernel_rfl) (by kernel_rfl) (by kernel_rfl) (fun _ _ _ _ h => h) hC (by rfl) ?_ ?_
      rotate_left
      · intro w hSw; (try dsimp only at hSw); go_simp; try (with_reducible rfl)
      simp only [List.setIfInBounds_toArray, List.set_cons_zero, List.set_cons_succ]
      refine takeX 9 150 (v := ?_) rfl rfl (by kernel_rfl) (by kernel_rfl) (by kernel_rfl) (by kernel_rfl) (by kernel_rfl) (fun _ _ _ _ h => h) hC (by rfl) ?_ ?_
      rotate_left
      · intro w hSw; (try dsimp only at hSw); go_simp; try (with_reducible rfl)
      simp only [List.setIfInBounds_toArray, List.set_cons_zero, List.set_cons_succ]
      refine takeX 10 151 (v := ?_) rfl rfl (by kernel_rfl) (by kernel_rfl) (by kernel_rfl) (by kernel_rfl) (by kernel_rfl) (fun _ _ _ _ h => h) hC (by rfl) ?_ ?_
      rotate_left
      · intro w hSw; (try dsimp only at hSw); go_simp; try (with_reducible rfl)
      simp only [List.setIfInBounds_toArray, List.set_cons_zero, List.set_cons_succ]
      refine oneT (i := 11) (by kernel_rfl) rfl (by rfl) (fun K hK => ?_)
      go_simp
      refine (HWy.out u7 HLG4.out).mono ?_
      rintro e u8 ⟨rfl, rfl⟩
      refine hK.out _ _ (fun _ => hC) ?_
      clear hK K
      try simp only [Act.put, List.setIfInBounds_toArray, List.set_cons_zero, List.set_cons_succ]
      refine takeX 12 153 (v := ?_) rfl rfl (by kernel_rfl) (by kernel_rfl) (by kernel_rfl) (by kernel_rfl) (by kernel_rfl) (fun _ _ _ _ h => h) hC (by rfl) ?_ ?_
      rotate_left
      · intro w hSw; (try dsimp only at hSw); go_simp; try (with_reducible rfl)
      simp only [List.setIfInBounds_toArray, List.set_cons_zero, List.set_cons_succ]
      refine takeX 13 154 (v := ?_) rfl rfl (by kernel_rfl) (by kernel_rfl) (by kernel_rfl) (by kernel_rfl) (by kernel_rfl) (fun _ _ _ _ h => h) hC (by rfl) ?_ ?_
      rotate_left
      · intro w hSw; (try dsimp only at hSw); go_simp; try (with_reducible rfl)
      simp only [List.setIfInBounds_toArray, List.set_cons_zero, List.set_cons_succ]
      refine takeX 14 4 (v := ?_) rfl rfl (by kernel_rfl) (by kernel_rfl) (by kernel_rfl) (by kernel_rfl) (by kernel_rfl) (fun _ _ _ _ h => h) hC (by rfl) ?_ ?_
      rotate_left
      · intro w hSw; (try dsimp only at hSw); go_simp; try (with_reducible rfl)
      simp only [List.setIfInBounds_toArray, List.set_cons_zero, List.set_cons_succ]
      refine doneT (by kernel_rfl) ?_
      have HE : Hid (Below w.heap.size w u7) := HB1.out.trans (HLG4.out.mb.bel.mono HB1.out.size)
      clear hC HLG4 HWy
      go_wp2
      go_ret
      exact ⟨rfl, HE.out⟩
end Go.Proofs.Ytmhmgdpcibldlaa
