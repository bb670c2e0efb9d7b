/-
  The law HelpAgain.
-/
import Derived.Test.YtfloblofdkemlaaHg9
import Derived.Test.YtfloblofdkemlaaAw9
namespace Go.Proofs.Ytfloblofdkemlaa
open Go.ChangeShapes Go.WideShapes Go.ChangeAt Go.RowKit
set_option linter.unusedVariables false
set_option linter.unusedSimpArgs false
set_option maxRecDepth 20000

def zers (n : Nat) : Array Value := ((List.range n).map fun _ => (Value.int .i64 0)).toArray
theorem run_mkZ (n : Nat) (hn : n ≤ 64) (W : World) : (Instr.makeSlice 37 (.int .i64 (n : Int)) (.int .i64 (n : Int))).run Try.prog W = .ok (.slice (some ⟨W.heap.size, 0, none⟩) n n) (W.alloc (.cells (zers n) 2)) := by
  obtain ⟨i0, hi0, hz0, hz1, hz2⟩ := info_parts rowK.info
  have := run_make (P := Try.prog) W 37 2 i0 _ Try.underlying37 hi0 hz0 .i64 .i64 (n : Int) (n : Int) (by omega) (Int.le_refl _) (by rw [hz2]; omega) (by omega)
  rw [hz1] at this
  have e : madeCells #[Value.int .i64 0] (n * 1) = zers n := by
    apply Array.ext
    · rw [size_madeCells]; simp [zers]
    · intro j h1 h2
      simp [madeCells, Nat.mod_one, zers]
  rw [this, ← e]
  rfl
theorem sl_zers {W w : World} {g n : Nat} (h : w.heap[g]? = some (.cells (zers n) 2 (0, 0))) : Sl w (some ⟨g, 0, none⟩) n n (List.replicate n 0) := by
  refine ⟨by simp, Nat.le_refl _, fun e => (by cases e), ?_⟩
  by_cases hn : n = 0
  · subst hn; exact .inl rfl
  · refine .inr ⟨g, 0, rfl, fun i z hi => ?_⟩
    have hl : i < n := by have := (List.getElem?_eq_some_iff.1 hi).1; simpa using this
    rw [List.getElem?_replicate, if_pos hl] at hi
    injection hi with hi
    subst hi
    rw [Nat.zero_add, cell_of_row w g _ _ _ (0, 0) h]
    simp [zers, hl]
theorem goodAg (k : Nat) (hk : k ≤ 20) : GoodR (rAg k) := ⟨by simp [rAg, rcN], by simp [rAg, rcN], by simp [rAg, rcN]; exact hk⟩
/-- The law's state. -/
structure AG (W : World) (v : Value) (d : Wd) (k : Nat) (s : Sig) (w : World) : Prop where
  mb : MB W (ownX W v) d 0 0 h0 o0 s w
  row : RowX (ownX W v) 30 w v (refN k)
theorem AG.nx {W : World} {v : Value} {d : Wd} {k : Nat} {s s' : Sig} {w : World} {F : Nat} {args : Array Value} {a : Value} (h : AG W v d k s w) (hc : ∀ FW, WS d FW w s → Calls Try.prog F args w fun e w' => e = .returned a ∧ NxW d FW w s' w') : Calls Try.prog F args w fun e w' => e = .returned a ∧ AG W v d k s' w' :=
  (h.mb.nxK hc).mono fun e w' hp => ⟨hp.1, hp.2.1, h.row.kp hp.2.2⟩
theorem AG.below {W : World} {v : Value} {d : Wd} {k : Nat} {s : Sig} {w w' : World} (h : AG W v d k s w) (hb : Below w.heap.size w w') : AG W v d k s w' := ⟨h.mb.below hb, h.row.kp (h.mb.kb hb)⟩
set_option maxHeartbeats 4000000 in
theorem helpAgain_walk (x y z : Nat) (hx : x < 256) (hy : y < 256) (hz : z < 256) (w : World) :
    Calls Try.prog 7 #[.int .u8 (x : Int), .int .u8 (y : Int), .int .u8 (z : Int)] w fun e w' => e = .returned (.bool true) ∧ Below w.heap.size w w' := by
  obtain ⟨k, hk, hk1, hk2⟩ : ∃ k : Nat, 1 + x % 4 = k ∧ 1 ≤ k ∧ k ≤ 4 := ⟨_, rfl, by omega, by omega⟩
  obtain ⟨M, hM, hM1, hM2⟩ : ∃ M : Nat, 2 + z % 4 = M ∧ 2 ≤ M ∧ M ≤ 5 := ⟨_, rfl, by omega, by omega⟩
  have a1 : IntKind.i64.wrap (x : Int) = (x : Int) := IntWalk.i64_in _ (by omega)
  have a2 : IntKind.i64.wrap (y : Int) = (y : Int) := IntWalk.i64_in _ (by omega)
  have a3 : IntKind.i64.wrap (z : Int) = (z : Int) := IntWalk.i64_in _ (by omega)
  have d1 : (x : Int).tmod 4 = ((x % 4 : Nat) : Int) := by rw [Int.tmod_eq_emod_of_nonneg (by omega)]; rfl
  have d3 : (z : Int).tmod 4 = ((z % 4 : Nat) : Int) := by rw [Int.tmod_eq_emod_of_nonneg (by omega)]; rfl
  have e1 : IntKind.i64.wrap (1 + ((x % 4 : Nat) : Int)) = (k : Int) := by rw [← hk]; rw [IntWalk.i64_in _ (by omega)]; omega
  have e3 : IntKind.i64.wrap (2 + ((z % 4 : Nat) : Int)) = (M : Int) := by rw [← hM]; rw [IntWalk.i64_in _ (by omega)]; omega
  have w1 : IntKind.i64.wrap ((x % 4 : Nat) : Int) = ((x % 4 : Nat) : Int) := IntWalk.i64_in _ (by omega)
  have w3 : IntKind.i64.wrap ((z % 4 : Nat) : Int) = ((z % 4 : Nat) : Int) := IntWalk.i64_in _ (by omega)
  generalize ((x % 4 : Nat) : Int) = x4 at *
  generalize ((z % 4 : Nat) : Int) = z4 at *
  clear hk hM
  go_enter Try.func7, Try.ntmps7
  go_wp2_with fail
  refine (awake9_walk w).mono ?_
  rintro e v1 ⟨rfl, b1⟩
  go_wp2_with fail
  refine (nodes_walk 1 k (by omega) (by omega) v1).mono ?_
  rintro e v2 ⟨d, A, m, c, rfl, hN⟩
  have HB1 := Lib.hid b1
  have HDM := Lib.hid hN.dm
  have HG : Hid (AG v1 (.slice A m c) d k (sN 1 k ns0 []) v2) := ⟨hN.mb, hN.rowX⟩
  obtain ⟨A', c', hv, hsl, hX⟩ := hN.rowX.len
  injection hv with e5 e2 e4
  subst e5 e4
  rw [refN_len] at e2
  subst e2
  clear hN hsl hX b1
  obtain ⟨bd, hbd⟩ : ∃ bd, decide (y < m) = bd := ⟨_, rfl⟩
  have HBD := Lib.hid hbd
  have hdec : decide ((y : Int) < (m : Int)) = bd := by rw [← hbd]; simp
  go_upto_if 34 with fail
  clear hdec
  go_cut [] (fun wx => Hid (AG v1 (.slice A m c) d m (sN 1 m (fAg m y) []) wx))
  case first =>
    by_cases hym : y < m
    · obtain rfl : bd = true := by rw [← hbd]; simpa using hym
      have i1 : (y : Int) < (m : Int) := by omega
      have i0 : (0 : Int) ≤ (y : Int) := by omega
      have hI := inv_ns0 1 m 0 (by omega) (by omega) (by omega) [] (by simp)
      obtain ⟨b, c2, hv, -, hc⟩ := HG.out.row.at_ (refN_at hym)
      injection hv with e5 e2 e4
      subst e5
      have g0 := HG.out.mb.cells.1
      have hs : gSwapInfo (rfN y) 0 44 (sN 1 m ns0 []) = (1, sN 1 m (fAg m y) []) := by
        rw [g_swapInfo hym (by omega)]
        unfold fAg
        rw [if_pos hym]
        exact if_pos rfl
      have S1 := HG.out.below ((Below.refl _ v2).drew) |>.nx fun FW hW => nxW_swapInfo hW hI.fit.ok (rfN y) 0 44
      rw [hs] at S1
      have S1 := Lib.hid S1
      have hC0 : v2.drew.cell? ⟨d.W, 0, none⟩ = some (ptr d.A) ∧ v2.drew.cell? ⟨b, y, none⟩ = some (.int .i64 (rfN y)) := ⟨g0, hc⟩
      clear hI hs e2 e4 g0 hc
      generalize rfN y = ry at *
      go_wp2_with fail
      refine region_T (fun k => Nat.ble 8 k) (fun w' => w'.cell? ⟨d.W, 0, none⟩ = some (ptr d.A) ∧ w'.cell? ⟨b, y, none⟩ = some (.int .i64 ry)) (by kernel_rfl) ?_
      have hC := hC0
      refine takeX 0 35 (v := ?_) rfl rfl (by kernel_rfl) (by kernel_rfl) (by kernel_rfl) (by kernel_rfl) (by kernel_rfl) (fun _ _ _ _ h => h) hC (by rfl) ?_ ?_
      rotate_left
      · intro w hSw; (try dsimp only at hSw); go_simp; try (with_reducible rfl)
      simp only [List.setIfInBounds_toArray, List.set_cons_zero, List.set_cons_succ]
      refine takeX 1 36 (v := ?_) rfl rfl (by kernel_rfl) (by kernel_rfl) (by kernel_rfl) (by kernel_rfl) (by kernel_rfl) (fun _ _ _ _ h => h) hC (by rfl) ?_ ?_
      rotate_left
      · intro w hSw; (try dsimp only at hSw); go_simp; try (with_reducible rfl)
      simp only [List.setIfInBounds_toArray, List.set_cons_zero, List.set_cons_succ]
      refine takeX 2 37 (v := ?_) rfl rfl (by kernel_rfl) (by kernel_rfl) (by kernel_rfl) (by kernel_rfl) (by kernel_rfl) (fun _ _ _ _ h => h) hC (by rfl) ?_ ?_
      rotate_left
      · intro w hSw; (try dsimp only at hSw); go_simp; try (with_reducible rfl)
      simp only [List.setIfInBounds_toArray, List.set_cons_zero, List.set_cons_succ]
      refine takeX 3 38 (v := ?_) rfl rfl (by kernel_rfl) (by kernel_rfl) (by kernel_rfl) (by kernel_rfl) (by kernel_rfl) (fun _ _ _ _ h => h) hC (by rfl) ?_ ?_
      rotate_left
      · intro w hSw; (try dsimp only at hSw); go_simp; try (with_reducible rfl)
      simp only [List.setIfInBounds_toArray, List.set_cons_zero, List.set_cons_succ]
      refine takeX 4 39 (v := ?_) rfl rfl (by kernel_rfl) (by kernel_rfl) (by kernel_rfl) (by kernel_rfl) (by kernel_rfl) (fun _ _ _ _ h => h) hC (by rfl) ?_ ?_
      rotate_left
      · intro w hSw; (try dsimp only at hSw); go_simp; try (with_reducible rfl)
      simp only [List.setIfInBounds_toArray, List.set_cons_zero, List.set_cons_succ]
      refine takeX 5 40 (v := ?_) rfl rfl (by kernel_rfl) (by kernel_rfl) (by kernel_rfl) (by kernel_rfl) (by kernel_rfl) (fun _ _ _ _ h => h) hC (by rfl) ?_ ?_
      rotate_left
      · intro w hSw; (try dsimp only at hSw); go_simp; try (with_reducible rfl)
      simp only [List.setIfInBounds_toArray, List.set_cons_zero, List.set_cons_succ]
      refine takeX 6 41 (v := ?_) rfl rfl (by kernel_rfl) (by kernel_rfl) (by kernel_rfl) (by kernel_rfl) (by kernel_rfl) (fun _ _ _ _ h => h) hC (by rfl) ?_ ?_
      rotate_left
      · intro w hSw; (try dsimp only at hSw); go_simp; try (with_reducible rfl)
      simp only [List.setIfInBounds_toArray, List.set_cons_zero, List.set_cons_succ]
      refine takeX 7 42 (v := ?_) rfl rfl (by kernel_rfl) (by kernel_rfl) (by kernel_rfl) (by kernel_rfl) (by kernel_rfl) (fun _ _ _ _ h => h) hC (by rfl) ?_ ?_
      rotate_left
      · intro w hSw; (try dsimp only at hSw); go_simp; try (with_reducible rfl)
      simp only [List.setIfInBounds_toArray, List.set_cons_zero, List.set_cons_succ]
      refine oneT (i := 8) (by kernel_rfl) rfl (by rfl) (fun K hK => ?_)
      go_simp
      refine S1.out.mono ?_
      rintro e u ⟨rfl, hn⟩
      refine hK.out _ _ (fun h => absurd h (by decide)) ?_
      clear hK K hC hC0 S1
      have HN := Lib.hid hn
      clear hn
      try simp only [Act.put, List.setIfInBounds_toArray, List.set_cons_zero, List.set_cons_succ]
      refine doneT (by kernel_rfl) ?_
      go_wp2
      go_meet
      case rel => exact HN.out
    · obtain rfl : bd = false := by rw [← hbd]; simpa using hym
      have i1 : ¬ (y : Int) < (m : Int) := by omega
      have HN : Hid (AG v1 (.slice A m c) d m (sN 1 m (fAg m y) []) v2) := by
        have e : fAg m y = ns0 := if_neg hym
        show AG _ _ _ _ (sN 1 m (fAg m y) []) _
        rw [e]; exact HG.out
      go_wp2
      go_meet
      case rel => exact HN.out
  case rest =>
    have HA : Hid (AG v1 (.slice A m c) d m (sN 1 m (fAg m y) []) wc) := hcut
    clear HG
    have g1 := HA.out.mb.cells.2.1
    obtain ⟨X0, hX0, bX0⟩ : ∃ X0 : World, wc.drew = X0 ∧ Below wc.heap.size wc X0 := ⟨_, rfl, (Below.refl _ wc).drew⟩
    obtain ⟨Y, p, hY, hp, bY, hrow⟩ : ∃ (Y : World) (p : Nat), X0.alloc (.cells (zers m) 2) = Y ∧ X0.heap.size = p ∧ Below X0.heap.size X0 Y ∧ Y.heap[p]? = some (.cells (zers m) 2 (0, 0)) := ⟨_, _, rfl, rfl, below_new _ _, heap_alloc_new _ _⟩
    have hmk := run_mkZ m (by omega) X0
    rw [hY, hp] at hmk
    have hbY : Below wc.heap.size wc Y := bX0.trans (bY.mono bX0.size)
    have HM : Hid (Calls Try.prog 23 #[ptr d.R, .agg #[.slice A m c, .slice (some ⟨p, 0, none⟩) m m, .int .i64 1, .int .i64 0, .int .i64 200, .int .i64 88]] Y fun e w' => e = .returned (.tuple #[.int .i64 1, .bool true]) ∧ AG v1 (.slice A m c) d m (s1 1 m (fAg m y) (rAg m) 1 false) w') := by
      have hAY := HA.out.below hbY
      obtain ⟨A', c', hv, hsl, -⟩ := hAY.row.len
      injection hv with e5 e2 e4
      subst e5 e4
      rw [refN_len] at hsl
      exact hAY.nx fun FW hW => nxW_rmake (r := rAg m) hW hsl (sl_zers (W := Y) hrow) (by show (0 : Int) ≤ 1; omega) (by show 0 < d.m; rw [HDM.out]; omega) (by rw [HDM.out]; omega) (by omega)
    have hC : X0.cell? ⟨d.W, 1, none⟩ = some (ptr d.R) := below_read bX0 g1
    have hCY : Y.cell? ⟨d.W, 1, none⟩ = some (ptr d.R) := below_read bY hC
    have HCX : Hid (∀ u, AG v1 (.slice A m c) d m (s1 1 m (fAg m y) (rAg m) 1 false) u → u.cell? ⟨d.W, 1, none⟩ = some (ptr d.R)) := fun u h => h.mb.cells.2.1
    clear g1 hbY bX0 bY hrow
    go_upto_region 8 with fail
    go_cut [11] (fun v wx => v = .int .i64 1 ∧ Hid (AG v1 (.slice A m c) d m (s1 1 m (fAg m y) (rAg m) 1 false) wx))
    case first =>
      refine region_T (fun _ => false) (fun w' => w'.cell? ⟨d.W, 1, none⟩ = some (ptr d.R)) (by kernel_rfl) ?_
      rw [hX0]
      clear hX0
      refine takeX 0 45 (v := ?_) rfl rfl (by kernel_rfl) (by kernel_rfl) (by kernel_rfl) (by kernel_rfl) (by kernel_rfl) (fun _ _ _ _ h => h) hC (by rfl) ?_ ?_
      rotate_left
      · intro w hSw; (try dsimp only at hSw); go_simp; try (with_reducible rfl)
      simp only [List.setIfInBounds_toArray, List.set_cons_zero, List.set_cons_succ]
      refine takeX 1 46 (v := ?_) rfl rfl (by kernel_rfl) (by kernel_rfl) (by kernel_rfl) (by kernel_rfl) (by kernel_rfl) (fun _ _ _ _ h => h) hC (by rfl) ?_ ?_
      rotate_left
      · intro w hSw; (try dsimp only at hSw); go_simp; try (with_reducible rfl)
      simp only [List.setIfInBounds_toArray, List.set_cons_zero, List.set_cons_succ]
      refine takeX 2 47 (v := ?_) rfl rfl (by kernel_rfl) (by kernel_rfl) (by kernel_rfl) (by kernel_rfl) (by kernel_rfl) (fun _ _ _ _ h => h) hC (by rfl) ?_ ?_
      rotate_left
      · intro w hSw; (try dsimp only at hSw); go_simp; try (with_reducible rfl)
      simp only [List.setIfInBounds_toArray, List.set_cons_zero, List.set_cons_succ]
      refine takeX 3 48 (v := ?_) rfl rfl (by kernel_rfl) (by kernel_rfl) (by kernel_rfl) (by kernel_rfl) (by kernel_rfl) (fun _ _ _ _ h => h) hC (by rfl) ?_ ?_
      rotate_left
      · intro w hSw; (try dsimp only at hSw); go_simp; try (with_reducible rfl)
      simp only [List.setIfInBounds_toArray, List.set_cons_zero, List.set_cons_succ]
      refine takeX 4 49 (v := ?_) rfl rfl (by kernel_rfl) (by kernel_rfl) (by kernel_rfl) (by kernel_rfl) (by kernel_rfl) (fun _ _ _ _ h => h) hC (by rfl) ?_ ?_
      rotate_left
      · intro w hSw; (try dsimp only at hSw); go_simp; try (with_reducible rfl)
      simp only [List.setIfInBounds_toArray, List.set_cons_zero, List.set_cons_succ]
      refine takeX 5 50 (v := ?_) rfl rfl (by kernel_rfl) (by kernel_rfl) (by kernel_rfl) (by kernel_rfl) (by kernel_rfl) (fun _ _ _ _ h => h) hC (by rfl) ?_ ?_
      rotate_left
      · intro w hSw; (try dsimp only at hSw); go_simp; try (with_reducible rfl)
      simp only [List.setIfInBounds_toArray, List.set_cons_zero, List.set_cons_succ]
      refine oneT (i := 6) (by kernel_rfl) rfl (by rfl) (fun K hK => ?_)
      go_simp
      (try rw [hY]); (try rw [hp])
      refine hK.out _ _ (fun _ => hCY) ?_
      clear hK K hC
      have hC := hCY
      clear hCY hmk
      try simp only [Act.put, List.setIfInBounds_toArray, List.set_cons_zero, List.set_cons_succ]
      refine takeX 7 52 (v := ?_) rfl rfl (by kernel_rfl) (by kernel_rfl) (by kernel_rfl) (by kernel_rfl) (by kernel_rfl) (fun _ _ _ _ h => h) hC (by rfl) ?_ ?_
      rotate_left
      · intro w hSw; (try dsimp only at hSw); go_simp; try (with_reducible rfl)
      simp only [List.setIfInBounds_toArray, List.set_cons_zero, List.set_cons_succ]
      refine oneT (i := 8) (by kernel_rfl) rfl (by rfl) (fun K hK => ?_)
      go_simp
      refine HM.out.mono ?_
      rintro e u ⟨rfl, hu⟩
      have HU := Lib.hid hu
      have hC2 := HCX.out u hu
      clear hu hC
      have hC := hC2
      clear hC2
      refine hK.out _ _ (fun _ => hC) ?_
      clear hK K HM
      try simp only [Act.put, List.setIfInBounds_toArray, List.set_cons_zero, List.set_cons_succ]
      refine takeX 9 44 (v := ?_) rfl rfl (by kernel_rfl) (by kernel_rfl) (by kernel_rfl) (by kernel_rfl) (by kernel_rfl) (fun _ _ _ _ h => h) hC (by rfl) ?_ ?_
      rotate_left
      · intro w hSw; (try dsimp only at hSw); go_simp; try (with_reducible rfl)
      simp only [List.setIfInBounds_toArray, List.set_cons_zero, List.set_cons_succ]
      refine takeX 10 54 (v := ?_) rfl rfl (by kernel_rfl) (by kernel_rfl) (by kernel_rfl) (by kernel_rfl) (by kernel_rfl) (fun _ _ _ _ h => h) hC (by rfl) ?_ ?_
      rotate_left
      · intro w hSw; (try dsimp only at hSw); go_simp; try (with_reducible rfl)
      simp only [List.setIfInBounds_toArray, List.set_cons_zero, List.set_cons_succ]
      refine takeX 11 55 (v := ?_) rfl rfl (by kernel_rfl) (by kernel_rfl) (by kernel_rfl) (by kernel_rfl) (by kernel_rfl) (fun _ _ _ _ h => h) hC (by rfl) ?_ ?_
      rotate_left
      · intro w hSw; (try dsimp only at hSw); go_simp; try (with_reducible rfl)
      simp only [List.setIfInBounds_toArray, List.set_cons_zero, List.set_cons_succ]
      refine takeX 12 11 (v := ?_) rfl rfl (by kernel_rfl) (by kernel_rfl) (by kernel_rfl) (by kernel_rfl) (by kernel_rfl) (fun _ _ _ _ h => h) hC (by rfl) ?_ ?_
      rotate_left
      · intro w hSw; (try dsimp only at hSw); go_simp; try (with_reducible rfl)
      simp only [List.setIfInBounds_toArray, List.set_cons_zero, List.set_cons_succ]
      refine takeX 13 12 (v := ?_) rfl rfl (by kernel_rfl) (by kernel_rfl) (by kernel_rfl) (by kernel_rfl) (by kernel_rfl) (fun _ _ _ _ h => h) hC (by rfl) ?_ ?_
      rotate_left
      · intro w hSw; (try dsimp only at hSw); go_simp; try (with_reducible rfl)
      simp only [List.setIfInBounds_toArray, List.set_cons_zero, List.set_cons_succ]
      refine doneT (by kernel_rfl) ?_
      clear hC
      go_wp2
      go_meet
      case rel => exact ⟨rfl, HU.out⟩
    case rest =>
      obtain ⟨rfl, HU⟩ := hcut
      clear HA HM HCX hC hCY hmk hX0 hY hp
      have HJ : Hid (∃ (f : Nat → Ns) (st : Int) (al : Bool), JA m y f al ∧ AG v1 (.slice A m c) d m (s1 1 m f (rAg m) st al) wc) := ⟨_, _, _, ja_new m y hk1, HU.out⟩
      clear HU
      go_wp2_with fail
      go_loopg [60] M (fun gk i wr => ∃ j : Nat, j + gk = M ∧ i = .int .i64 (j : Int) ∧ Hid (∃ (f : Nat → Ns) (st : Int) (al : Bool), JA m y f al ∧ AG v1 (.slice A m c) d m (s1 1 m f (rAg m) st al) wr))
      case atStart => exact ⟨0, by omega, rfl, HJ.out⟩
      case round =>
        clear HJ
        obtain ⟨j, hj, rfl, HH⟩ := hrel
        by_cases hlt : j < M
        case neg =>
          have i1 : ¬ ((j : Int) < (M : Int)) := by omega
          have HE : Hid (Below w.heap.size w wr) := by
            obtain ⟨f, st, al, -, h⟩ := HH.out
            exact HB1.out.trans (h.mb.bel.mono HB1.out.size)
          clear HH
          go_wp2
          go_ret
          exact ⟨rfl, HE.out⟩
        have i1 : (j : Int) < (M : Int) := by omega
        have hkw : IntKind.i64.wrap ((j : Int) + 1) = (j : Int) + 1 := IntWalk.i64_in _ (by omega)
        obtain ⟨f, st, al, hJA, hAG⟩ := HH.out
        have HJA := Lib.hid hJA
        have HAG := Lib.hid hAG
        clear hJA hAG HH
        have HS := Lib.hid (helper_walk (me := 0) (z := 1) (r := rAg m) HAG.out.mb.me (goodAg m (by omega)))
        go_wp2_with fail
        refine HS.out.mono ?_
        rintro e u1 ⟨a, rfl, hME, hb⟩
        have hI : Inv 1 101 (s1 1 m f (rAg m) st al) := inv_sN (by omega) (by omega) (by omega) HJA.out.in64 (by simp)
        have hAl := ME.alone' (i := 0) (L := 1) hME (by omega) (upd_at ..) hI (by rw [upd_at]; rfl) (by rw [upd_at]; exact in01.2.1) (by omega)
        rw [upd_at] at hAl
        simp only at hAl
        obtain ⟨f', al', hJ2, q1, q2, q3⟩ := ja_step (st := st) HJA.out hk1 (by omega)
        rw [q1, q2] at hAl
        have HA := Lib.hid hAl
        have HBX : Hid (MB v1 (ownX v1 (.slice A m c)) d (0 + 1) 0 (upd h0 0 ⟨a, 0, 1, rAg m⟩) (upd o0 0 (.run (tHelp (rAg m) 1))) (s1 1 m f (rAg m) st al) u1 ∧ RowX (ownX v1 (.slice A m c)) 30 u1 (.slice A m c) (refN m)) := ⟨⟨hME, HAG.out.mb.bel.trans (hb.mono HAG.out.mb.bel.size)⟩, HAG.out.row.kp (HAG.out.mb.kb hb)⟩
        have HJ2 := Lib.hid hJ2
        have HQ3 := Lib.hid q3
        clear HS hME hb hAl HAG hI hJ2 q1 q2 q3 HJA
        go_wp2_with fail
        refine HA.out.mono ?_
        rintro e u2 ⟨A5, q5, c5, rfl, -, hM2, hK⟩
        have hMB := HBX.out.1.kp hM2 hK
        simp only [upd_upd] at hMB
        have hrw := HBX.out.2.kp (W := v1) hK
        have HY := Lib.hid (hMB.me.yes (i := 0) (by omega) (upd_at ..))
        rw [upd_at] at HY
        simp only at HY
        have HMB := Lib.hid hMB
        have HRW := Lib.hid hrw
        clear HA HBX hM2 hK hMB hrw
        go_wp2_with fail
        refine HY.out.mono ?_
        rintro e u3 ⟨rfl, hM3, hb3⟩
        have HG3 : Hid (AG v1 (.slice A m c) d m (s1 1 m f' (rAg m) (if y < m then 0 else 2) al') u3) := ⟨(MB.mk hM3 (HMB.out.bel.trans (hb3.mono HMB.out.bel.size))).reset, HRW.out.kp (HMB.out.kb hb3)⟩
        clear HY HMB HRW hM3 hb3
        have hI : Inv 1 0 (s1 1 m f' (rAg m) (if y < m then 0 else 2) al') := inv_sN (by omega) (by omega) (by omega) HJ2.out.in64 (by simp)
        obtain ⟨b, c2, hv, -, hc⟩ := HG3.out.row.at_ (refN_at (k := m) (i := 0) hk1)
        injection hv with e5 e2 e4
        subst e5
        have g0 := HG3.out.mb.cells.1
        have g1 := HG3.out.mb.cells.2.1
        have m0 : (0 : Int) < (m : Int) := by omega
        have HW : Hid (Reads 13 #[ptr d.A, .int .i64 (rfN 0), .int .i64 0] u3 (.int .i64 (if y < m then 200 else 88))) := by
          rw [← HQ3.out]
          exact HG3.out.mb.reads fun w FW h => nxW_way (k := 0) h hI.fit.ok (arN_hit hk1 (by omega))
        have HSt : Hid (∀ q, Calls Try.prog 28 #[ptr d.R, .int .i64 1] (u3.drewN q) fun e w' => e = .returned (.int .u8 (if y < m then 0 else 2)) ∧ u3.drewN q = w') := fun q => by
          obtain ⟨FW, h⟩ := (HG3.out.mb.drewN q).ws
          exact nxW_stateR h (by simp [s1, sN]) (show rcAt [_] 1 = some (0, _) from rfl)
        have HEND : Hid (∀ t, AG v1 (.slice (some ⟨b, 0, none⟩) m c) d m (s1 1 m f' (rAg m) (if y < m then 0 else 2) al') (u3.drewN t)) := fun t => HG3.out.below (below_drewN (Below.refl _ u3) t)
        have HCR : Hid (∀ q, (u3.drewN q).cell? ⟨d.W, 1, none⟩ = some (ptr d.R)) := fun q => g1
        clear HG3 hI e2 e4 HQ3
        generalize rfN 0 = r0 at *
        cases bd with
        | true =>
          have hym : y < m := by simpa using HBD.out
          rw [if_pos hym] at HW
          simp only [if_pos hym] at HSt HEND
          go_wp2_with fail
          go_quiet (first | (go_at_call 13; exact HW.out _))
          have gg := HCR.out nq
          go_wp2_with fail
          refine (HSt.out _).mono ?_
          rintro e u4 ⟨rfl, rfl⟩
          go_wp2
          go_roundg (gk - 1)
          case measure => omega
          case rel => exact ⟨j + 1, by omega, by go_num, f', _, al', HJ2.out, HEND.out _⟩
        | false =>
          have hym : ¬ y < m := by simpa using HBD.out
          rw [if_neg hym] at HW
          simp only [if_neg hym] at HSt HEND
          go_wp2_with fail
          go_quiet (first | (go_at_call 13; exact HW.out _))
          have gg := HCR.out nq
          go_wp2_with fail
          refine (HSt.out _).mono ?_
          rintro e u4 ⟨rfl, rfl⟩
          go_wp2
          go_roundg (gk - 1)
          case measure => omega
          case rel => exact ⟨j + 1, by omega, by go_num, f', _, al', HJ2.out, HEND.out _⟩
end Go.Proofs.Ytfloblofdkemlaa
