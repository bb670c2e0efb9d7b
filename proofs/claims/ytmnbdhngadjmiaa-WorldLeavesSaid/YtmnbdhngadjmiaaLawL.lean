/-
  The law WorldLeaves.
-/
import Derived.Test.YtmnbdhngadjmiaaLv8
namespace Go.Proofs.Ytmnbdhngadjmiaa
open Go.ChangeShapes Go.WideShapes Go.ChangeAt Go.RowKit
set_option linter.unusedVariables false
set_option linter.unusedSimpArgs false
set_option maxRecDepth 20000

theorem fld_tag (x y : Bool) (A B C : Option Addr) (n c m d p q : Nat) (W : World) : (Instr.field 42 (ndv x y (.slice A n c) (.slice B m d) (.slice C p q)) 1).run Try.prog W = .ok (.bool y) W := by first | kernel_rfl | rfl | simp [go_sem]
theorem rdy_sV (k n : Nat) (r : Int) (q : List Int) : gRdy 1 ((k : Int) + 2) (sV k n (r :: q)) = (0, sV k n (r :: q)) ∧ gRdy 1 ((k : Int) + 3) (sV k n (r :: q)) = (r, sV k n q) := by
  have h1 : rdy (k : Int) ((k : Int) + 2) = false := by unfold rdy; simp
  have h2 : rdy (k : Int) ((k : Int) + 3) = true := by unfold rdy; simp
  refine ⟨?_, ?_⟩
  · simp [gRdy, sV, h1]
  · simp [gRdy, sV, h2]
theorem max_twice (k : Nat) : max (2 * (k : Int)) 1 = ((max (2 * k) 1 : Nat) : Int) := by omega
set_option maxHeartbeats 1500000 in
theorem worldLeaves_walk (x y : Nat) (hx : x < 256) (hy : y < 256) (w : World) :
    Calls Try.prog 8 #[.int .u8 (x : Int), .int .u8 (y : Int)] w fun e w' => e = .returned (.bool true) ∧ Below w.heap.size w w' := by
  have e3 := mk_fn
  obtain ⟨nn, hnn, hnn5⟩ : ∃ nn : Nat, y % 5 = nn ∧ nn < 5 := ⟨_, rfl, Nat.mod_lt _ (by omega)⟩
  obtain ⟨m, hm, hm20⟩ : ∃ m : Nat, x % 20 = m ∧ m < 20 := ⟨_, rfl, Nat.mod_lt _ (by omega)⟩
  have d2 : (y : Int).tmod 5 = (nn : Int) := by rw [← hnn, Int.tmod_eq_emod_of_nonneg (by omega)]; rfl
  have d1 : (x : Int).tmod 20 = (m : Int) := by rw [← hm, Int.tmod_eq_emod_of_nonneg (by omega)]; rfl
  have w2 : IntKind.i64.wrap (nn : Int) = (nn : Int) := IntWalk.i64_in _ (by omega)
  have w3 : IntKind.u8.wrap (nn : Int) = (nn : Int) := by simp only [IntKind.wrap_u8]; omega
  have w4 : IntKind.u8.wrap (m : Int) = (m : Int) := by simp only [IntKind.wrap_u8]; omega
  have HD2 : Hid ((y : Int).tmod 5 = (nn : Int) ∧ IntKind.i64.wrap (nn : Int) = (nn : Int) ∧ IntKind.u8.wrap (nn : Int) = (nn : Int)) := ⟨d2, w2, w3⟩
  clear hnn hm
  go_enter Try.func8, Try.ntmps8
  go_wp2_with fail
  refine (awake_walk w).mono ?_
  rintro e v1 ⟨rfl, b1⟩
  go_wp2_with fail
  refine (some_walk (L := 2) (m := 30) b1 (by decide) (by decide)).mono ?_
  rintro e v2 ⟨d, rfl, hO⟩
  have HO : Hid (Ow w d (sE 30 2 0) v2) := hO
  clear hO b1
  go_wp2_with fail
  go_loopg [21] nn (fun gk i wr => ∃ k : Nat, k + gk = nn ∧ i = .int .i64 (k : Int) ∧ Hid (Ow w d (sE 30 2 k) wr))
  case atStart => exact ⟨0, by omega, rfl, HO.out⟩
  case round =>
    clear HO
    obtain ⟨k, hk, rfl, HH⟩ := hrel
    by_cases hlt : k < nn
    case pos =>
      have i1 : (k : Int) < (nn : Int) := by omega
      have hkw : IntKind.i64.wrap ((k : Int) + 1) = (k : Int) + 1 := IntWalk.i64_in _ (by omega)
      obtain ⟨g0, g1, g2, g3, g4, g5⟩ := HH.out.cells
      obtain ⟨FW, k1, k2⟩ := HH.out.idle
      have S1 := Lib.hid (nxW_swap k1 (inv_sE 30 2 k 0 (by omega) (by omega) (by omega) (by omega)).fit (k : Int))
      have HB := Lib.hid HH.out.below
      have HE : Hid (∀ w', NxW d FW wr (gSwap (k : Int) (sE 30 2 k)).2 w' → Ow w d (sE 30 2 (k + 1)) w') := by
        intro w' hn
        have e : (gSwap (k : Int) (sE 30 2 k)).2 = sE 30 2 (k + 1) := by simp [gSwap, sE]
        rw [e] at hn
        obtain ⟨q1, q2⟩ := Idle.nx k1 k2 hn
        exact ⟨q1, HB.out.trans (kp_below q2)⟩
      clear HH k1 k2 g0 g1 g3 g4 g5 HB
      go_wp2_with fail
      refine S1.out.mono ?_
      rintro e u1 ⟨b, rfl, -, hn⟩
      have H := Lib.hid (HE.out u1 hn)
      clear S1 HE hn
      go_wp2
      go_roundg (gk - 1)
      case measure => omega
      case rel => exact ⟨k + 1, by omega, by go_num, H.out⟩
    have i1 : ¬ ((k : Int) < (nn : Int)) := by omega
    obtain rfl : k = nn := by omega
    obtain ⟨X, Lb, hX, hLb, hLL⟩ : ∃ (X : World) (Lb : Nat), wr.alloc (.cells #[.slice none 0 0] 38) = X ∧ wr.heap.size = Lb ∧ LL w d (sL k 0) Lb (.slice none 0 0) (refK 0) X := ⟨_, _, rfl, rfl, LL.new HH.out⟩
    have HL := Lib.hid hLL
    clear HH hk hLL
    go_wp2_with fail
    clear hX hLb
    go_loopg [33] m (fun gk i wr => ∃ (j : Nat) (A : Option Addr) (n c : Nat), j + gk = m ∧ i = .int .u8 (j : Int) ∧ Hid (LL w d (sL k j) Lb (.slice A n c) (refK j) wr))
    case atStart => exact ⟨0, none, 0, 0, by omega, rfl, HL.out⟩
    case round =>
      clear HL
      obtain ⟨j, A, n, c, hj, rfl, HH⟩ := hrel
      by_cases hlt2 : j < m
      case pos =>
        have i2 : (j : Int) < (m : Int) := by omega
        have hkw : IntKind.u8.wrap ((j : Int) + 1) = (j : Int) + 1 := by simp only [IntKind.wrap_u8]; omega
        obtain ⟨g0, g1, g2, g3, g4, g5⟩ := HH.out.ow.cells
        obtain ⟨FW, k1, k2⟩ := HH.out.idle
        have hfit := (inv_sL k j 0 (by omega) (by omega) (by omega)).fit
        have S1 := nxW_make k1 hfit.ok hfit.fr (RdF.nil FW wr false true) (by unfold Nd.small; simp)
        have hmk : gMake ⟨false, true, [], [], []⟩ (sL k j) = (mk ((j + 2 : Nat) : Int) 1, sL k (j + 1)) := by
          have := arK_make 30 (fun _ => true) j (by omega)
          simp only [gMake, sL]
          rw [show (⟨false, true, [], [], []⟩ : Nd) = tagNd true from rfl, this]
        rw [hmk] at S1
        have S1 := Lib.hid S1
        have HE : Hid (∀ w', NxW d FW wr (sL k (j + 1)) w' → LL w d (sL k (j + 1)) Lb (.slice A n c) (refK j) w') := by
          intro w' hn
          have hL := HH.out
          obtain ⟨q1, q2⟩ := Idle.nx k1 k2 hn
          exact ⟨q1, hL.below.trans (kp_below (q2.mono fun b e => .inl e)), (q2.block _ (.inr (.inl rfl))).trans hL.box, own_at hL.row fun b e => q2.block _ (.inr (.inr e)), hL.lb, hL.lt⟩
        clear HH k1 k2 g1 g2 g3 g4 g5 hfit hmk
        go_wp2_with fail
        refine S1.out.mono ?_
        rintro e u1 ⟨b, rfl, hn⟩
        have hL := HE.out u1 hn
        clear S1 HE hn g0
        obtain ⟨r, hr⟩ : ∃ r, mk ((j + 2 : Nat) : Int) 1 = r := ⟨_, rfl⟩
        rw [hr]
        obtain ⟨A', m', c', Z, hrun, z1, z2, hZ⟩ := hL.push (r := r) (by rw [refK_len]; omega)
        have c0 := hL.cell
        have H : Hid (LL w d (sL k (j + 1)) Lb (.slice A' m' c') (refK (j + 1)) (Z.setCell ⟨Lb, 0, none⟩ (.slice A' m' c'))) := by
          rw [refK_snoc, hr]; exact hZ
        clear hL hZ hr
        go_wp2_with (at_builtin; refine Lib.wpList_append_run _ rfl _ _ _ _ rfl _ _ rfl rfl _ _ hrun ?_)
        go_roundg (gk - 1)
        case measure => omega
        case rel => exact ⟨j + 1, A', m', c', by omega, by go_num, H.out⟩
      have i2 : ¬ ((j : Int) < (m : Int)) := by omega
      obtain rfl : j = m := by omega
      have hc0 := HH.out.cell
      have hlen : n = j := by have := HH.out.row.sl.len; rw [refK_len] at this; exact this
      subst hlen
      have HLL : Hid (LL w d (sV k n []) Lb (.slice A n c) (refK n) wr) := HH.out
      have HS := Lib.hid (start_walk (me := 1) (g := 40) (capw := #[ptr Lb]) HLL.out.idle)
      clear HH
      go_wp2_with fail
      refine HS.out.mono ?_
      clear HS
      intro e u1 hS
      have hev := ev_leave k n (refK n) []
      rw [List.nil_append, refK_len] at hev
      have hAd : ∀ ad : Addr, A = some ad → (Value.slice A n c).ownBlock = some ad.block := fun ad e => by subst e; rfl
      obtain ⟨a, rfl, hA⟩ := started_alone (B := 0) hS (fun a W => rfl) (lea1_job d _ wr (L := 2) (by omega) hc0 (.inr (.inl rfl)) HLL.out.row.sl (fun ad e => .inr (.inr (hAd ad e))) (by omega)) HLL.out.idle.lt (tame_tLeave 1 (refK n) (refK_in n)) (by rw [hev]; exact inv_sV k n _ [] (by omega) (by simp only; omega) (by omega) (by simp) (fun r hr => by cases hr)) (by rw [hev]; simp only; omega) (by simp [nilOut])
      rw [hev] at hA
      have HA := Lib.hid hA
      clear hA hS hev hc0
      go_wp2_with fail
      refine HA.out.mono ?_
      rintro e u2 ⟨hP, -⟩
      obtain ⟨A', n', c', rfl, hLL⟩ := HLL.out.alone hP
      have HL := Lib.hid hLL
      clear HA HLL hP
      simp only at hLL ⊢
      obtain ⟨FW, p1, p2⟩ := hLL.idle
      obtain ⟨g0, g1, g2, g3, g4, g5⟩ := hLL.ow.cells
      have c0 := hLL.cell
      obtain ⟨f1, f2⟩ := few_sV k n (refK n) (by rw [refK_len]; omega)
      rw [refK_len] at f2
      have hInv := inv_sV k n 0 (refK n) (by omega) (by omega) (by omega) (by rw [refK_len]; omega) (refK_in n)
      have SL := nxW_limbo (p1.below (Below.refl _ u2).drew) f1
      rw [f2] at SL
      have SL := Lib.hid SL
      have SU : Hid (∀ W', Below u2.heap.size u2 W' → Calls Try.prog 15 #[ptr d.A] W' fun e w' => e = .returned (.int .i64 ((n : Int) + 2)) ∧ Below W'.heap.size W' w') := by
        intro W' hb
        have hu := nxW_used (p1.below hb) hInv.fit.ok
        have e : ((sV k n (refK n)).ar.pls.length : Int) - ((sV k n (refK n)).ar.fr.length : Int) = (n : Int) + 2 := by
          show (((arK 30 (fun _ => true) n).pls.length : Nat) : Int) - ((0 : Nat) : Int) = _
          rw [arK_len]; omega
        rw [e] at hu
        exact hu
      have hC0 : u2.drew.cell? ⟨Lb, 0, none⟩ = some (.slice A n c) ∧ u2.drew.cell? ⟨d.W, 0, none⟩ = some (ptr d.A) ∧ u2.drew.cell? ⟨d.W, 2, none⟩ = some (ptr d.E) := ⟨c0, g0, g2⟩
      have m1 : IntKind.i64.wrap (2 * (n : Int)) = 2 * (n : Int) := IntWalk.i64_in _ (by omega)
      have m2 := max_twice n
      have m3 : IntKind.i64.wrap (2 + (n : Int)) = (n : Int) + 2 := by rw [IntWalk.i64_in _ (by omega)]; omega
      clear hLL p1 p2 g0 g1 g2 g3 g4 g5 c0 f1 f2 hInv i1 i2 d1 d2 w2 w3 w4
      generalize ((max (2 * n) 1 : Nat) : Int) = mx at *
      go_wp2_with fail
      refine region_T (fun _ => false) (fun w' => w'.cell? ⟨Lb, 0, none⟩ = some (.slice A n c) ∧ w'.cell? ⟨d.W, 0, none⟩ = some (ptr d.A) ∧ w'.cell? ⟨d.W, 2, none⟩ = some (ptr d.E)) (by kernel_rfl) ?_
      have hC := hC0
      refine takeX 0 57 (v := ?_) rfl rfl (by kernel_rfl) (by kernel_rfl) (by kernel_rfl) (by kernel_rfl) (by kernel_rfl) (fun _ _ _ _ h => h) hC (by rfl) ?_ ?_
      rotate_left
      · intro w hSw; (try dsimp only at hSw); go_simp; try (with_reducible rfl)
      simp only [List.setIfInBounds_toArray, List.set_cons_zero, List.set_cons_succ]
      refine takeX 1 58 (v := ?_) rfl rfl (by kernel_rfl) (by kernel_rfl) (by kernel_rfl) (by kernel_rfl) (by kernel_rfl) (fun _ _ _ _ h => h) hC (by rfl) ?_ ?_
      rotate_left
      · intro w hSw; (try dsimp only at hSw); go_simp; try (with_reducible rfl)
      simp only [List.setIfInBounds_toArray, List.set_cons_zero, List.set_cons_succ]
      refine takeX 2 59 (v := ?_) rfl rfl (by kernel_rfl) (by kernel_rfl) (by kernel_rfl) (by kernel_rfl) (by kernel_rfl) (fun _ _ _ _ h => h) hC (by rfl) ?_ ?_
      rotate_left
      · intro w hSw; (try dsimp only at hSw); go_simp; try (with_reducible rfl)
      simp only [List.setIfInBounds_toArray, List.set_cons_zero, List.set_cons_succ]
      refine takeX 3 60 (v := ?_) rfl rfl (by kernel_rfl) (by kernel_rfl) (by kernel_rfl) (by kernel_rfl) (by kernel_rfl) (fun _ _ _ _ h => h) hC (by rfl) ?_ ?_
      rotate_left
      · intro w hSw; (try dsimp only at hSw); go_simp; try (with_reducible rfl)
      simp only [List.setIfInBounds_toArray, List.set_cons_zero, List.set_cons_succ]
      refine takeX 4 61 (v := ?_) rfl rfl (by kernel_rfl) (by kernel_rfl) (by kernel_rfl) (by kernel_rfl) (by kernel_rfl) (fun _ _ _ _ h => h) hC (by rfl) ?_ ?_
      rotate_left
      · intro w hSw; (try dsimp only at hSw); go_simp; try (with_reducible rfl)
      simp only [List.setIfInBounds_toArray, List.set_cons_zero, List.set_cons_succ]
      refine takeX 5 62 (v := ?_) rfl rfl (by kernel_rfl) (by kernel_rfl) (by kernel_rfl) (by kernel_rfl) (by kernel_rfl) (fun _ _ _ _ h => h) hC (by rfl) ?_ ?_
      rotate_left
      · intro w hSw; (try dsimp only at hSw); go_simp; try (with_reducible rfl)
      simp only [List.setIfInBounds_toArray, List.set_cons_zero, List.set_cons_succ]
      refine takeX 6 63 (v := ?_) rfl rfl (by kernel_rfl) (by kernel_rfl) (by kernel_rfl) (by kernel_rfl) (by kernel_rfl) (fun _ _ _ _ h => h) hC (by rfl) ?_ ?_
      rotate_left
      · intro w hSw; (try dsimp only at hSw); go_simp; try (with_reducible rfl)
      simp only [List.setIfInBounds_toArray, List.set_cons_zero, List.set_cons_succ]
      refine takeX 7 64 (v := ?_) rfl rfl (by kernel_rfl) (by kernel_rfl) (by kernel_rfl) (by kernel_rfl) (by kernel_rfl) (fun _ _ _ _ h => h) hC (by rfl) ?_ ?_
      rotate_left
      · intro w hSw; (try dsimp only at hSw); go_simp; try (with_reducible rfl)
      simp only [List.setIfInBounds_toArray, List.set_cons_zero, List.set_cons_succ]
      refine takeX 8 65 (v := ?_) rfl rfl (by kernel_rfl) (by kernel_rfl) (by kernel_rfl) (by kernel_rfl) (by kernel_rfl) (fun _ _ _ _ h => h) hC (by rfl) ?_ ?_
      rotate_left
      · intro w hSw; (try dsimp only at hSw); go_simp; try (with_reducible rfl)
      simp only [List.setIfInBounds_toArray, List.set_cons_zero, List.set_cons_succ]
      refine takeX 9 66 (v := ?_) rfl rfl (by kernel_rfl) (by kernel_rfl) (by kernel_rfl) (by kernel_rfl) (by kernel_rfl) (fun _ _ _ _ h => h) hC (by rfl) ?_ ?_
      rotate_left
      · intro w hSw; (try dsimp only at hSw); go_simp; try (with_reducible rfl)
      simp only [List.setIfInBounds_toArray, List.set_cons_zero, List.set_cons_succ]
      refine takeX 10 67 (v := ?_) rfl rfl (by kernel_rfl) (by kernel_rfl) (by kernel_rfl) (by kernel_rfl) (by kernel_rfl) (fun _ _ _ _ h => h) hC (by rfl) ?_ ?_
      rotate_left
      · intro w hSw; (try dsimp only at hSw); go_simp; try (with_reducible rfl)
      simp only [List.setIfInBounds_toArray, List.set_cons_zero, List.set_cons_succ]
      refine takeX 11 68 (v := ?_) rfl rfl (by kernel_rfl) (by kernel_rfl) (by kernel_rfl) (by kernel_rfl) (by kernel_rfl) (fun _ _ _ _ h => h) hC (by rfl) ?_ ?_
      rotate_left
      · intro w hSw; (try dsimp only at hSw); go_simp; try (with_reducible rfl)
      simp only [List.setIfInBounds_toArray, List.set_cons_zero, List.set_cons_succ]
      refine takeX 12 69 (v := ?_) rfl rfl (by kernel_rfl) (by kernel_rfl) (by kernel_rfl) (by kernel_rfl) (by kernel_rfl) (fun _ _ _ _ h => h) hC (by rfl) ?_ ?_
      rotate_left
      · intro w hSw; (try dsimp only at hSw); go_simp; try (with_reducible rfl)
      simp only [List.setIfInBounds_toArray, List.set_cons_zero, List.set_cons_succ]
      refine takeX 13 70 (v := ?_) rfl rfl (by kernel_rfl) (by kernel_rfl) (by kernel_rfl) (by kernel_rfl) (by kernel_rfl) (fun _ _ _ _ h => h) hC (by rfl) ?_ ?_
      rotate_left
      · intro w hSw; (try dsimp only at hSw); go_simp; try (with_reducible rfl)
      simp only [List.setIfInBounds_toArray, List.set_cons_zero, List.set_cons_succ]
      refine takeX 14 71 (v := ?_) rfl rfl (by kernel_rfl) (by kernel_rfl) (by kernel_rfl) (by kernel_rfl) (by kernel_rfl) (fun _ _ _ _ h => h) hC (by rfl) ?_ ?_
      rotate_left
      · intro w hSw; (try dsimp only at hSw); go_simp; try (with_reducible rfl)
      simp only [List.setIfInBounds_toArray, List.set_cons_zero, List.set_cons_succ]
      refine takeX 16 73 (v := ?_) rfl rfl (by kernel_rfl) (by kernel_rfl) (by kernel_rfl) (by kernel_rfl) (by kernel_rfl) (fun _ _ _ _ h => h) hC (by rfl) ?_ ?_
      rotate_left
      · intro w hSw; (try dsimp only at hSw); go_simp; try (with_reducible rfl)
      simp only [List.setIfInBounds_toArray, List.set_cons_zero, List.set_cons_succ]
      refine takeX 17 74 (v := ?_) rfl rfl (by kernel_rfl) (by kernel_rfl) (by kernel_rfl) (by kernel_rfl) (by kernel_rfl) (fun _ _ _ _ h => h) hC (by rfl) ?_ ?_
      rotate_left
      · intro w hSw; (try dsimp only at hSw); go_simp; try (with_reducible rfl)
      simp only [List.setIfInBounds_toArray, List.set_cons_zero, List.set_cons_succ]
      refine oneT (i := 15) (by kernel_rfl) rfl (by rfl) (fun K hK => ?_)
      go_simp
      refine SL.out.mono ?_
      rintro e u3 ⟨rfl, rfl⟩
      refine hK.out _ _ (fun _ => hC) ?_
      clear hK K SL
      try simp only [Act.put, List.setIfInBounds_toArray, List.set_cons_zero, List.set_cons_succ]
      refine takeX 18 75 (v := ?_) rfl rfl (by kernel_rfl) (by kernel_rfl) (by kernel_rfl) (by kernel_rfl) (by kernel_rfl) (fun _ _ _ _ h => h) hC (by rfl) ?_ ?_
      rotate_left
      · intro w hSw; (try dsimp only at hSw); go_simp; try (with_reducible rfl)
      simp only [List.setIfInBounds_toArray, List.set_cons_zero, List.set_cons_succ]
      refine takeX 19 76 (v := ?_) rfl rfl (by kernel_rfl) (by kernel_rfl) (by kernel_rfl) (by kernel_rfl) (by kernel_rfl) (fun _ _ _ _ h => h) hC (by rfl) ?_ ?_
      rotate_left
      · intro w hSw; (try dsimp only at hSw); go_simp; try (with_reducible rfl)
      simp only [List.setIfInBounds_toArray, List.set_cons_zero, List.set_cons_succ]
      refine takeX 20 77 (v := ?_) rfl rfl (by kernel_rfl) (by kernel_rfl) (by kernel_rfl) (by kernel_rfl) (by kernel_rfl) (fun _ _ _ _ h => h) hC (by rfl) ?_ ?_
      rotate_left
      · intro w hSw; (try dsimp only at hSw); go_simp; try (with_reducible rfl)
      simp only [List.setIfInBounds_toArray, List.set_cons_zero, List.set_cons_succ]
      refine takeX 21 78 (v := ?_) rfl rfl (by kernel_rfl) (by kernel_rfl) (by kernel_rfl) (by kernel_rfl) (by kernel_rfl) (fun _ _ _ _ h => h) hC (by rfl) ?_ ?_
      rotate_left
      · intro w hSw; (try dsimp only at hSw); go_simp; try (with_reducible rfl)
      simp only [List.setIfInBounds_toArray, List.set_cons_zero, List.set_cons_succ]
      refine takeX 22 79 (v := ?_) rfl rfl (by kernel_rfl) (by kernel_rfl) (by kernel_rfl) (by kernel_rfl) (by kernel_rfl) (fun _ _ _ _ h => h) hC (by rfl) ?_ ?_
      rotate_left
      · intro w hSw; (try dsimp only at hSw); go_simp; try (with_reducible rfl)
      simp only [List.setIfInBounds_toArray, List.set_cons_zero, List.set_cons_succ]
      refine takeX 23 80 (v := ?_) rfl rfl (by kernel_rfl) (by kernel_rfl) (by kernel_rfl) (by kernel_rfl) (by kernel_rfl) (fun _ _ _ _ h => h) hC (by rfl) ?_ ?_
      rotate_left
      · intro w hSw; (try dsimp only at hSw); go_simp; try (with_reducible rfl)
      simp only [List.setIfInBounds_toArray, List.set_cons_zero, List.set_cons_succ]
      refine takeX 24 81 (v := ?_) rfl rfl (by kernel_rfl) (by kernel_rfl) (by kernel_rfl) (by kernel_rfl) (by kernel_rfl) (fun _ _ _ _ h => h) hC (by rfl) ?_ ?_
      rotate_left
      · intro w hSw; (try dsimp only at hSw); go_simp; try (with_reducible rfl)
      simp only [List.setIfInBounds_toArray, List.set_cons_zero, List.set_cons_succ]
      refine takeX 26 83 (v := ?_) rfl rfl (by kernel_rfl) (by kernel_rfl) (by kernel_rfl) (by kernel_rfl) (by kernel_rfl) (fun _ _ _ _ h => h) hC (by rfl) ?_ ?_
      rotate_left
      · intro w hSw; (try dsimp only at hSw); go_simp; try (with_reducible rfl)
      simp only [List.setIfInBounds_toArray, List.set_cons_zero, List.set_cons_succ]
      refine takeX 27 84 (v := ?_) rfl rfl (by kernel_rfl) (by kernel_rfl) (by kernel_rfl) (by kernel_rfl) (by kernel_rfl) (fun _ _ _ _ h => h) hC (by rfl) ?_ ?_
      rotate_left
      · intro w hSw; (try dsimp only at hSw); go_simp; try (with_reducible rfl)
      simp only [List.setIfInBounds_toArray, List.set_cons_zero, List.set_cons_succ]
      refine takeX 28 85 (v := ?_) rfl rfl (by kernel_rfl) (by kernel_rfl) (by kernel_rfl) (by kernel_rfl) (by kernel_rfl) (fun _ _ _ _ h => h) hC (by rfl) ?_ ?_
      rotate_left
      · intro w hSw; (try dsimp only at hSw); go_simp; try (with_reducible rfl)
      simp only [List.setIfInBounds_toArray, List.set_cons_zero, List.set_cons_succ]
      refine oneT (i := 25) (by kernel_rfl) rfl (by rfl) (fun K hK => ?_)
      go_simp
      refine (SU.out _ ((Below.refl _ u2).drew)).mono ?_
      rintro e u3 ⟨rfl, hb3⟩
      have hb4 : Below u2.heap.size u2 u3 := ((Below.refl _ u2).drew).trans hb3
      refine hK.out _ _ (fun _ => ⟨below_read hb4 hC0.1, below_read hb4 hC0.2.1, below_read hb4 hC0.2.2⟩) ?_
      have hC1 : u3.cell? ⟨Lb, 0, none⟩ = some (.slice A n c) ∧ u3.cell? ⟨d.W, 0, none⟩ = some (ptr d.A) ∧ u3.cell? ⟨d.W, 2, none⟩ = some (ptr d.E) := ⟨below_read hb4 hC0.1, below_read hb4 hC0.2.1, below_read hb4 hC0.2.2⟩
      have HL3 := Lib.hid (HL.out.bel hb4)
      clear hK K SU hC hC0 hb3 hb4
      have hC := hC1
      try simp only [Act.put, List.setIfInBounds_toArray, List.set_cons_zero, List.set_cons_succ]
      refine takeX 29 86 (v := ?_) rfl rfl (by kernel_rfl) (by kernel_rfl) (by kernel_rfl) (by kernel_rfl) (by kernel_rfl) (fun _ _ _ _ h => h) hC (by rfl) ?_ ?_
      rotate_left
      · intro w hSw; (try dsimp only at hSw); go_simp; try (with_reducible rfl)
      simp only [List.setIfInBounds_toArray, List.set_cons_zero, List.set_cons_succ]
      refine takeX 30 87 (v := ?_) rfl rfl (by kernel_rfl) (by kernel_rfl) (by kernel_rfl) (by kernel_rfl) (by kernel_rfl) (fun _ _ _ _ h => h) hC (by rfl) ?_ ?_
      rotate_left
      · intro w hSw; (try dsimp only at hSw); go_simp; try (with_reducible rfl)
      simp only [List.setIfInBounds_toArray, List.set_cons_zero, List.set_cons_succ]
      refine doneT (by kernel_rfl) ?_
      have c0 := hC1.1
      clear hC hC1 m1 m2 m3 HL
      go_wp2_with fail
      clear c0
      have HL4 : Hid (LL w d (sV k n ((refK n).drop 0)) Lb (.slice A n c) (refK n) u3) := HL3.out
      clear HL3
      obtain ⟨d2, w2, w3⟩ := HD2.out
      have w5 : IntKind.i64.wrap ((k : Int) + 2) = (k : Int) + 2 := IntWalk.i64_in _ (by omega)
      have w6 : IntKind.i64.wrap ((k : Int) + 3) = (k : Int) + 3 := IntWalk.i64_in _ (by omega)
      go_loopg [90] n (fun gk i wr => ∃ j : Nat, j + gk = n ∧ i = .int .i64 (j : Int) ∧ Hid (LL w d (sV k n ((refK n).drop j)) Lb (.slice A n c) (refK n) wr))
      case atStart => exact ⟨0, by omega, rfl, HL4.out⟩
      case round =>
        clear HL4
        obtain ⟨j, hj, rfl, HH⟩ := hrel
        obtain ⟨g0, g1, g2, g3, g4, g5⟩ := HH.out.ow.cells
        obtain ⟨FW, p1, p2⟩ := HH.out.idle
        by_cases hlt : j < n
        case neg =>
          have i1 : ¬ ((j : Int) < (n : Int)) := by omega
          have hdr : (refK n).drop j = [] := List.drop_eq_nil_of_le (by rw [refK_len]; omega)
          rw [hdr] at p1
          obtain ⟨f1, f2⟩ := few_sV k n [] (by simp)
          have SL := nxW_limbo p1 f1
          rw [f2] at SL
          have SL := Lib.hid SL
          have HB := Lib.hid HH.out.below
          clear HH p1 p2 hdr f1 f2 g0 g1 g3 g4 g5
          go_wp2_with fail
          refine SL.out.mono ?_
          rintro e u4 ⟨rfl, rfl⟩
          go_wp2
          go_ret
          exact ⟨rfl, HB.out⟩
        have i1 : (j : Int) < (n : Int) := by omega
        have i0 : (0 : Int) ≤ (j : Int) := by omega
        have hkw : IntKind.i64.wrap ((j : Int) + 1) = (j : Int) + 1 := IntWalk.i64_in _ (by omega)
        obtain ⟨b, off, rfl, hbl, hc⟩ := HH.out.row.sl.at0 hlt
        have hat := refK_at (k := n) (j := j) hlt
        obtain ⟨r, hr⟩ : ∃ r, mk ((j + 2 : Nat) : Int) 1 = r := ⟨_, rfl⟩
        rw [hr] at hat
        have hgd : (refK n).getD j 0 = r := by simp [List.getD, hat]
        rw [hgd] at hc
        have hdr : (refK n).drop j = r :: (refK n).drop (j + 1) := by
          have hl : j < (refK n).length := by rw [refK_len]; exact hlt
          rw [List.drop_eq_getElem_cons hl]
          have := (List.getElem?_eq_some_iff.1 hat).2
          rw [this]
        have hhit := arK_hit 30 (fun _ => true) n j hlt (by omega)
        rw [hr] at hhit
        have hql : ∀ q, ((refK n).drop q).length ≤ 50 := fun q => by rw [List.length_drop, refK_len]; omega
        have hqi : ∀ q, ∀ r ∈ (refK n).drop q, in64 r := fun q r h => refK_in n r (List.mem_of_mem_drop h)
        have hInv := inv_sV k n 0 ((refK n).drop j) (by omega) (by omega) (by omega) (hql j) (hqi j)
        have S1 := Lib.hid (nxW_look p1 hInv.fit.ok hhit)
        have HL := Lib.hid HH.out
        have S2 : Hid (∀ W', LL w d (sV k n (r :: (refK n).drop (j + 1))) Lb (.slice (some ⟨b, off, none⟩) n c) (refK n) W' → Calls Try.prog 42 #[ptr d.E, .int .i64 1, .int .i64 ((k : Int) + 2)] W' fun e w' => e = .returned (.int .i64 0) ∧ LL w d (sV k n (r :: (refK n).drop (j + 1))) Lb (.slice (some ⟨b, off, none⟩) n c) (refK n) w') := by
          intro W' hL
          obtain ⟨FW', q1, q2⟩ := hL.idle
          have hI := hInv
          rw [hdr] at hI
          have hc := nxW_ready (me := 1) (n := (k : Int) + 2) q1 hI.fit (by simp [sV]) (by omega)
          refine hc.mono ?_
          rintro e w' ⟨rfl, hn⟩
          rw [(rdy_sV k n r _).1] at hn ⊢
          refine ⟨rfl, ?_⟩
          obtain ⟨z1, z2⟩ := Idle.nx q1 q2 hn
          exact ⟨z1, hL.below.trans (kp_below (z2.mono fun b e => .inl e)), (z2.block _ (.inr (.inl rfl))).trans hL.box, own_at hL.row fun b e => z2.block _ (.inr (.inr e)), hL.lb, hL.lt⟩
        have S3 : Hid (∀ W', LL w d (sV k n (r :: (refK n).drop (j + 1))) Lb (.slice (some ⟨b, off, none⟩) n c) (refK n) W' → Calls Try.prog 42 #[ptr d.E, .int .i64 1, .int .i64 ((k : Int) + 3)] W' fun e w' => e = .returned (.int .i64 r) ∧ LL w d (sV k n ((refK n).drop (j + 1))) Lb (.slice (some ⟨b, off, none⟩) n c) (refK n) w') := by
          intro W' hL
          obtain ⟨FW', q1, q2⟩ := hL.idle
          have hI := hInv
          rw [hdr] at hI
          have hc := nxW_ready (me := 1) (n := (k : Int) + 3) q1 hI.fit (by simp [sV]) (by omega)
          refine hc.mono ?_
          rintro e w' ⟨rfl, hn⟩
          rw [(rdy_sV k n r _).2] at hn ⊢
          refine ⟨rfl, ?_⟩
          obtain ⟨z1, z2⟩ := Idle.nx q1 q2 hn
          exact ⟨z1, hL.below.trans (kp_below (z2.mono fun b e => .inl e)), (z2.block _ (.inr (.inl rfl))).trans hL.box, own_at hL.row fun b e => z2.block _ (.inr (.inr e)), hL.lb, hL.lt⟩
        rw [hdr] at HL
        clear HH p1 p2 g1 g3 g4 g5 hat hgd hdr hhit hInv hr hql hqi
        go_wp2_with fail
        refine S1.out.mono ?_
        rintro e u4 ⟨pv, kv, zv, rfl, s1, s2, s3, hb4⟩
        obtain ⟨_, _, _, rfl⟩ := s1.shape
        obtain ⟨_, _, _, rfl⟩ := s2.shape
        obtain ⟨_, _, _, rfl⟩ := s3.shape
        clear s1 s2 s3
        have hfl := fld_tag
        rw [show (tagPa true).nd.inn = false from rfl, show (tagPa true).nd.tag = true from rfl]
        have HL4 := Lib.hid (HL.out.bel hb4)
        obtain ⟨g0, g1, g2, g3, g4, g5⟩ := HL4.out.ow.cells
        clear S1 HL hb4 hc g0 g1 g3 g4 g5
        go_wp2_with fail
        refine (S2.out u4 HL4.out).mono ?_
        rintro e u5 ⟨rfl, hL5⟩
        obtain ⟨g0, g1, g2', g3, g4, g5⟩ := hL5.ow.cells
        have HL5 := Lib.hid hL5
        clear S2 HL4 hL5 g0 g1 g3 g4 g5 g2
        go_wp2_with fail
        refine (S3.out u5 HL5.out).mono ?_
        rintro e u6 ⟨rfl, hL6⟩
        have HL6 := Lib.hid hL6
        clear S3 HL5 hL6 g2'
        go_wp2
        go_roundg (gk - 1)
        case measure => omega
        case rel => exact ⟨j + 1, by omega, by go_num, HL6.out⟩
end Go.Proofs.Ytmnbdhngadjmiaa
