/-
  The law HelpMany.
-/
import Derived.Test.YtfloblofdkemlaaMo9
namespace Go.Proofs.Ytfloblofdkemlaa
open Go.ChangeShapes Go.WideShapes Go.ChangeAt Go.RowKit
set_option linter.unusedVariables false
set_option linter.unusedSimpArgs false
set_option maxRecDepth 20000

/-- The law, between Steps. -/
def JMs (W : World) (v T : Value) (p q : Nat) (ke : Nat) (d : Wd) (Q : Mn) (N t : Nat) (hs : Nat → Hp) (st : Int) (w : World) : Prop := ∃ m f al os, HM W v T p q (ke : Int) d Q.k N t hs os (s1 3 Q.k f Q.r st al) w ∧ SJ Q m f st al ∧ ∀ i, i < N → PJ Q m f st al (os i)
structure HsOk (Q : Mn) (N : Nat) (hs : Nat → Hp) : Prop where
  h : ∀ i, i < N → (hs i).n = 1 ∧ (hs i).r = Q.r
theorem JMs.step {W : World} {v T : Value} {p q ke : Nat} {d : Wd} {Q : Mn} {N t i : Nat} {hs : Nat → Hp} {st : Int} {w : World} (h : JMs W v T p q ke d Q N t hs st w) (hh : HsOk Q N hs) (hok : MnOk Q) (hi : i < N) (ht : t ≤ 300) (hk : Q.k ≤ 9) :
    Calls Try.prog 32 #[ptr (hs i).a] w fun e w' => (∃ b, e = .returned (.bool b)) ∧ ∃ st', JMs W v T p q ke d Q N (t + 1) hs st' w' ∧ (st ≠ 1 → st' = st) := by
  obtain ⟨m, f, al, os, h1, h2, h3⟩ := h
  have hI : Inv 3 31 (s1 3 Q.k f Q.r st al) := inv_sN (by have := hok.k2; omega) (by omega) (by omega) (h2.in64 hok) (by simp)
  have hst := h1.mb.me.step (L := 3) hi (fun _ => ⟨hI.mono (by omega), by rw [(hh.h i hi).1, (hh.h i hi).2]; rfl⟩) (by omega)
  obtain ⟨m', f', st', al', e1, e2, e3, e4⟩ := PJ.step (L := 3) (h3 i hi) h2 hok
  rw [e1] at hst
  refine hst.mono ?_
  rintro e w' ⟨rfl, k1, k2⟩
  refine ⟨⟨_, rfl⟩, st', ⟨m', f', al', _, h1.kp (h1.mb.kp k1 k2) k2, e2, fun j hj => ?_⟩, e3.st⟩
  by_cases e : j = i
  · subst e; rw [upd_at]; exact e4
  · rw [upd_ne _ _ e]; exact PJ.mono (h3 j hj) h2 e2 e3 hok
theorem JMs.state {W : World} {v T : Value} {p q ke : Nat} {d : Wd} {Q : Mn} {N t : Nat} {hs : Nat → Hp} {st : Int} {w : World} (h : JMs W v T p q ke d Q N t hs st w) : w.cell? ⟨d.W, 1, none⟩ = some (ptr d.R) ∧ Calls Try.prog 28 #[ptr d.R, .int .i64 1] w fun e w' => e = .returned (.int .u8 st) ∧ w = w' := by
  obtain ⟨m, f, al, os, h1, h2, h3⟩ := h
  obtain ⟨FW, hW⟩ := h1.mb.ws
  exact ⟨h1.mb.cells.2.1, nxW_stateR hW (by simp [s1, sN]) (show rcAt [_] 1 = some (0, _) from rfl)⟩
theorem JMs.list {W : World} {v T : Value} {p q ke : Nat} {d : Wd} {Q : Mn} {N t : Nat} {hs : Nat → Hp} {st : Int} {w : World} (h : JMs W v T p q ke d Q N t hs st w) : w.ownsRow 0 thP 1 T N (ptrs hs N) ∧ Below W.heap.size W w := by
  obtain ⟨m, f, al, os, h1, h2, h3⟩ := h
  exact ⟨h1.lst, h1.mb.bel⟩
/-- At the end. -/
structure JME (W : World) (v T : Value) (p q : Nat) (ke : Nat) (d : Wd) (Q : Mn) (N t : Nat) (hs : Nat → Hp) (bd : Bool) (f : Nat → Ns) (os : Nat → Ts) (w : World) : Prop where
  hm : HM W v T p q (ke : Int) d Q.k N t hs os (s1 3 Q.k f Q.r (if bd then 0 else 2) (!bd)) w
  os : ∀ i, i < N → os i = .fin (!bd)
  w1 : (f 0).w1 = if bd then 201 else 99
  w0 : (f 0).w0 = 200
  mks : ∀ i, i < Q.k → (f i).mark = (!bd && decide (Q.kp ≤ i))
  i64 : ∀ i, i < Q.k → in64 (f i).inf
theorem JME.of {W : World} {v T : Value} {p q ke : Nat} {d : Wd} {Q : Mn} {N t t' : Nat} {hs : Nat → Hp} {os0 : Nat → Ts} {s : Sig} {w0 w : World} (hm : HM W v T p q (ke : Int) d Q.k N t' hs os0 s w0) (h : MXF W (XM W v T p q) d N t hs (IM Q 3 N) w0 w N) (hok : MnOk Q) (hN : 1 ≤ N) :
    ∃ f os, JME W v T p q ke d Q N t hs (decide (Q.b < Q.k)) f os w := by
  obtain ⟨os, s', hX, hd⟩ := h
  obtain ⟨m, f, st, al, rfl, h1, h2⟩ := hX.i
  have key : ∀ i, i < N → ∃ b, os i = .fin b ∧ PT Q m f st al (.ret b) := fun i hi => by
    have hdi := hd i hi
    have hpi := h2 i hi
    cases ho : os i with
    | run u => rw [ho] at hdi; cases hdi
    | fin b => rw [ho] at hpi; exact ⟨b, rfl, hpi⟩
  obtain ⟨b0, -, hb0⟩ := key 0 hN
  obtain ⟨-, q2, q3, q4, q5⟩ := pt_ret hb0 h1 hok
  subst q2 q3
  refine ⟨f, os, ?_, fun i hi => ?_, ?_, h1.w0, q5, h1.in64 hok⟩
  · have := hm.kp hX.mb hX.kp
    simpa using this
  · obtain ⟨b, e, hb⟩ := key i hi
    rw [e, (pt_ret hb h1 hok).1]
  · rw [q4]; simp
set_option maxHeartbeats 8000000 in
theorem helpMany_walk (x y z u : Nat) (A0 : Option Addr) (n0 c0 : Nat) (l : List Int) (hx : x < 256) (hy : y < 256) (hz : z < 256) (hu : u < 256) (w : World) (hs : Sk .u8 0 255 w A0 n0 l) :
    Calls Try.prog 5 #[.int .u8 (x : Int), .int .u8 (y : Int), .int .u8 (z : Int), .int .u8 (u : Int), .slice A0 n0 c0] w fun e w' => e = .returned (.bool true) ∧ Below w.heap.size w w' := by
  have HSK := Lib.hid hs
  obtain ⟨k, hk, hk1, hk2⟩ : ∃ k : Nat, 1 + x % 4 = k ∧ 1 ≤ k ∧ k ≤ 4 := ⟨_, rfl, by omega, by omega⟩
  obtain ⟨N, hN, hN1, hN2⟩ : ∃ N : Nat, 1 + u % 3 = N ∧ 1 ≤ N ∧ N ≤ 3 := ⟨_, rfl, by omega, by omega⟩
  obtain ⟨ke, hke, hke2⟩ : ∃ ke : Nat, y % 6 = ke ∧ ke < 6 := ⟨_, rfl, by omega⟩
  have a1 : IntKind.i64.wrap (x : Int) = (x : Int) := IntWalk.i64_in _ (by omega)
  have a3 : IntKind.i64.wrap (u : Int) = (u : Int) := IntWalk.i64_in _ (by omega)
  have d1 : (x : Int).tmod 4 = ((x % 4 : Nat) : Int) := by rw [Int.tmod_eq_emod_of_nonneg (by omega)]; rfl
  have d2 : (y : Int).tmod 6 = (ke : Int) := by rw [← hke, Int.tmod_eq_emod_of_nonneg (by omega)]; rfl
  have d3 : (u : Int).tmod 3 = ((u % 3 : Nat) : Int) := by rw [Int.tmod_eq_emod_of_nonneg (by omega)]; rfl
  have e1 : IntKind.i64.wrap (1 + ((x % 4 : Nat) : Int)) = (k : Int) := by rw [← hk]; rw [IntWalk.i64_in _ (by omega)]; omega
  have e3 : IntKind.i64.wrap (1 + ((u % 3 : Nat) : Int)) = (N : Int) := by rw [← hN]; rw [IntWalk.i64_in _ (by omega)]; omega
  have w1 : IntKind.i64.wrap ((x % 4 : Nat) : Int) = ((x % 4 : Nat) : Int) := IntWalk.i64_in _ (by omega)
  have w3 : IntKind.i64.wrap ((u % 3 : Nat) : Int) = ((u % 3 : Nat) : Int) := IntWalk.i64_in _ (by omega)
  have w4 : IntKind.i64.wrap (ke : Int) = (ke : Int) := IntWalk.i64_in _ (by omega)
  have w5 : IntKind.u8.wrap (ke : Int) = (ke : Int) := by simp only [IntKind.wrap_u8]; omega
  generalize ((x % 4 : Nat) : Int) = x4 at *
  generalize ((u % 3 : Nat) : Int) = u3 at *
  clear hk hN hke hs
  go_enter Try.func5, Try.ntmps5
  go_wp2_with fail
  refine (awake9_walk w).mono ?_
  rintro e v1 ⟨rfl, b1⟩
  by_cases h80 : 80 < n0
  · have i1 : (80 : Int) < (n0 : Int) := by omega
    go_wp2
    go_ret
    exact ⟨rfl, b1⟩
  have i80 : ¬ (80 : Int) < (n0 : Int) := by omega
  go_wp2_with fail
  refine (nodes_walk 3 k (by omega) (by omega) v1).mono ?_
  rintro e v2 ⟨d, A, m, c, rfl, hNd⟩
  have HB1 := Lib.hid b1
  have HDM := Lib.hid hNd.dm
  obtain ⟨A', c', hv, hsl, hX⟩ := hNd.rowX.len
  injection hv with e5 e2 e4
  subst e5 e4
  rw [refN_len] at e2
  subst e2
  obtain ⟨Y, Y2, p, q, hY, hp, hY2, hq, hqs, h6, hHM⟩ := HM.new (k := m) (s := sN 3 m ns0 []) ⟨hNd.mb, hNd.rowX⟩ hNd.own (ke : Int)
  obtain ⟨z0, z1, z2, z3, z4, z5⟩ := h6.cells
  obtain ⟨f0, f1, f2, f3, f4, f5⟩ := h6.frees
  obtain ⟨Y3, hY3⟩ : ∃ Y3, put6 Y2 q (.slice A m c) (.slice (some ⟨p, 0, none⟩) m m) (ke : Int) 1 201 99 = Y3 := ⟨_, rfl⟩
  rw [hY3] at hHM
  have hmk := run_mkZ m (by omega) v2
  rw [hY, hp] at hmk
  have HJ : Hid (HM v1 (.slice A m c) (.slice none 0 0) p q (ke : Int) d m 0 0 h0 o0 (sN 3 m (fM z 0) []) Y3) := by
    show HM _ _ _ _ _ _ _ _ _ _ _ _ (sN 3 m (fM z 0) []) _
    rw [fM_zero]; exact hHM
  clear hNd hsl hX b1 h6 hHM
  go_wp2_with fail
  (try rw [hY2]); (try rw [hqs]); (try rw [hY3])
  clear z0 z1 z2 z3 z4 z5 f0 f1 f2 f3 f4 f5 hmk hY hp hY2 hq hqs hY3 d1 d2 e1 w1 w4 w5 a1 i80
  go_loopg [53, 15] m (fun gk iv bv wr => ∃ j : Nat, j + gk = m ∧ iv = .int .i64 (j : Int) ∧ bv = .bool (bdM z j) ∧ Hid (HM v1 (.slice A m c) (.slice none 0 0) p q (ke : Int) d m 0 0 h0 o0 (sN 3 m (fM z j) []) wr))
  case atStart => exact ⟨0, by omega, rfl, rfl, HJ.out⟩
  case round =>
    clear HJ
    obtain ⟨j, hj, rfl, rfl, HH⟩ := hrel
    by_cases hlt : j < m
    case pos =>
      have i1 : (j : Int) < (m : Int) := by omega
      have i0 : (0 : Int) ≤ (j : Int) := by omega
      have i8 : (j : Int) ≤ 8 := by omega
      have hkw : IntKind.i64.wrap ((j : Int) + 1) = (j : Int) + 1 := IntWalk.i64_in _ (by omega)
      have hbt := bit_u8 z j hz
      have HSTP := Lib.hid (bdM_step z j)
      have HFS := Lib.hid (fM_step z j)
      have HNO : Hid (bitM z j = false → ∃ jj : Nat, jj + (gk - 1) = m ∧ Value.int .i64 ((j : Int) + 1) = .int .i64 (jj : Int) ∧ Value.bool (bdM z j) = .bool (bdM z jj) ∧ Hid (HM v1 (.slice A m c) (.slice none 0 0) p q (ke : Int) d m 0 0 h0 o0 (sN 3 m (fM z jj) []) wr)) := fun e => ⟨j + 1, by omega, by go_num, by rw [HSTP.out, e, Bool.or_false], by
        have := HH.out
        rw [← show fM z (j + 1) = fM z j from by rw [HFS.out, e]; rfl] at this
        exact this⟩
      by_cases hb : z / 2 ^ j % 2 = 1
      · rw [hb] at hbt
        have hb1 : bits .and .u8 ((z : Int) / 2 ^ j) 1 = 1 := hbt
        by_cases h128 : 128 ≤ z
        · have g128 : (128 : Int) ≤ (z : Int) := by omega
          have hbm : bitM z j = true := by unfold bitM; rw [decide_eq_true hb, decide_eq_true h128]; rfl
          have hI := inv_sN (L := 3) (k := m) (f := fM z j) (rs := []) (B := 0) (by omega) (by omega) (by omega) (fun i _ => fM_in z j i) (by simp)
          obtain ⟨b, c2, hv, hc⟩ := HH.out.at_ hlt
          injection hv with e5 e2 e4
          subst e5
          have g0 := HH.out.mb.cells.1
          have hss : gSwapInfo (rfN j) 0 33 (sN 3 m (fM z j) []) = (1, sN 3 m (fM z (j + 1)) []) := by
            rw [g_swapInfo hlt (by omega), HFS.out, if_pos hbm]
            exact if_pos (by rw [fM_self]; rfl)
          have S1 := (HH.out.below ((Below.refl _ wr).drew)).nx fun FW hW => nxW_swapInfo hW hI.fit.ok (rfN j) 0 33
          rw [hss] at S1
          have S1 := Lib.hid S1
          have hC0 : wr.drew.cell? ⟨d.W, 0, none⟩ = some (ptr d.A) ∧ wr.drew.cell? ⟨b, j, none⟩ = some (.int .i64 (rfN j)) := ⟨g0, hc⟩
          have HYES : Hid (∀ w', HM v1 (.slice (some ⟨b, 0, none⟩) m c) (.slice none 0 0) p q (ke : Int) d m 0 0 h0 o0 (sN 3 m (fM z (j + 1)) []) w' → ∃ jj : Nat, jj + (gk - 1) = m ∧ Value.int .i64 ((j : Int) + 1) = .int .i64 (jj : Int) ∧ Value.bool true = .bool (bdM z jj) ∧ Hid (HM v1 (.slice (some ⟨b, 0, none⟩) m c) (.slice none 0 0) p q (ke : Int) d m 0 0 h0 o0 (sN 3 m (fM z jj) []) w')) := fun w' h => ⟨j + 1, by omega, by go_num, by rw [HSTP.out, hbm, Bool.or_true], h⟩
          clear hI hss e2 e4 g0 hc HNO HSTP HFS hbm hbt HH
          generalize rfN j = rj at *
          go_wp2_with fail
          refine region_T (fun k => Nat.ble 8 k) (fun w' => w'.cell? ⟨d.W, 0, none⟩ = some (ptr d.A) ∧ w'.cell? ⟨b, j, none⟩ = some (.int .i64 rj)) (by kernel_rfl) ?_
          have hC := hC0
          refine takeX 0 65 (v := ?_) rfl rfl (by kernel_rfl) (by kernel_rfl) (by kernel_rfl) (by kernel_rfl) (by kernel_rfl) (fun _ _ _ _ h => h) hC (by rfl) ?_ ?_
          rotate_left
          · intro w hSw; (try dsimp only at hSw); go_simp; try (with_reducible rfl)
          simp only [List.setIfInBounds_toArray, List.set_cons_zero, List.set_cons_succ]
          refine takeX 1 66 (v := ?_) rfl rfl (by kernel_rfl) (by kernel_rfl) (by kernel_rfl) (by kernel_rfl) (by kernel_rfl) (fun _ _ _ _ h => h) hC (by rfl) ?_ ?_
          rotate_left
          · intro w hSw; (try dsimp only at hSw); go_simp; try (with_reducible rfl)
          simp only [List.setIfInBounds_toArray, List.set_cons_zero, List.set_cons_succ]
          refine takeX 2 67 (v := ?_) rfl rfl (by kernel_rfl) (by kernel_rfl) (by kernel_rfl) (by kernel_rfl) (by kernel_rfl) (fun _ _ _ _ h => h) hC (by rfl) ?_ ?_
          rotate_left
          · intro w hSw; (try dsimp only at hSw); go_simp; try (with_reducible rfl)
          simp only [List.setIfInBounds_toArray, List.set_cons_zero, List.set_cons_succ]
          refine takeX 3 68 (v := ?_) rfl rfl (by kernel_rfl) (by kernel_rfl) (by kernel_rfl) (by kernel_rfl) (by kernel_rfl) (fun _ _ _ _ h => h) hC (by rfl) ?_ ?_
          rotate_left
          · intro w hSw; (try dsimp only at hSw); go_simp; try (with_reducible rfl)
          simp only [List.setIfInBounds_toArray, List.set_cons_zero, List.set_cons_succ]
          refine takeX 4 69 (v := ?_) rfl rfl (by kernel_rfl) (by kernel_rfl) (by kernel_rfl) (by kernel_rfl) (by kernel_rfl) (fun _ _ _ _ h => h) hC (by rfl) ?_ ?_
          rotate_left
          · intro w hSw; (try dsimp only at hSw); go_simp; try (with_reducible rfl)
          simp only [List.setIfInBounds_toArray, List.set_cons_zero, List.set_cons_succ]
          refine takeX 5 70 (v := ?_) rfl rfl (by kernel_rfl) (by kernel_rfl) (by kernel_rfl) (by kernel_rfl) (by kernel_rfl) (fun _ _ _ _ h => h) hC (by rfl) ?_ ?_
          rotate_left
          · intro w hSw; (try dsimp only at hSw); go_simp; try (with_reducible rfl)
          simp only [List.setIfInBounds_toArray, List.set_cons_zero, List.set_cons_succ]
          refine takeX 6 71 (v := ?_) rfl rfl (by kernel_rfl) (by kernel_rfl) (by kernel_rfl) (by kernel_rfl) (by kernel_rfl) (fun _ _ _ _ h => h) hC (by rfl) ?_ ?_
          rotate_left
          · intro w hSw; (try dsimp only at hSw); go_simp; try (with_reducible rfl)
          simp only [List.setIfInBounds_toArray, List.set_cons_zero, List.set_cons_succ]
          refine takeX 7 72 (v := ?_) rfl rfl (by kernel_rfl) (by kernel_rfl) (by kernel_rfl) (by kernel_rfl) (by kernel_rfl) (fun _ _ _ _ h => h) hC (by rfl) ?_ ?_
          rotate_left
          · intro w hSw; (try dsimp only at hSw); go_simp; try (with_reducible rfl)
          simp only [List.setIfInBounds_toArray, List.set_cons_zero, List.set_cons_succ]
          refine oneT (i := 8) (by kernel_rfl) rfl (by rfl) (fun K hK => ?_)
          go_simp
          refine S1.out.mono ?_
          rintro e u1 ⟨rfl, hn⟩
          refine hK.out _ _ (fun h => absurd h (by decide)) ?_
          clear hK K hC hC0 S1
          have HN := Lib.hid (HYES.out u1 hn)
          clear hn HYES
          try simp only [Act.put, List.setIfInBounds_toArray, List.set_cons_zero, List.set_cons_succ]
          refine doneT (by kernel_rfl) ?_
          go_wp2
          go_roundg (gk - 1)
          case measure => omega
          case rel => exact HN.out
        · have g128 : ¬ (128 : Int) ≤ (z : Int) := by omega
          have HN := Lib.hid (HNO.out (by unfold bitM; rw [decide_eq_false h128, Bool.and_false]))
          clear HNO HSTP HFS hbt HH
          go_wp2
          go_roundg (gk - 1)
          case measure => omega
          case rel => exact HN.out
      · have hb1 : ¬ bits .and .u8 ((z : Int) / 2 ^ j) 1 = 1 := by rw [hbt]; omega
        have HN := Lib.hid (HNO.out (by unfold bitM; rw [decide_eq_false hb, Bool.false_and]))
        clear HNO HSTP HFS hbt HH
        go_wp2
        go_roundg (gk - 1)
        case measure => omega
        case rel => exact HN.out
    have i1 : ¬ ((j : Int) < (m : Int)) := by omega
    obtain rfl : j = m := by omega
    obtain ⟨b, hb1, hb2, hb3, hb4⟩ := first_bad z j
    have hok := mnM_ok z j ke b hk1 (by omega) hb1 hb2 hb3
    obtain ⟨bd, hbd⟩ : ∃ bd, decide (b < j) = bd := ⟨_, rfl⟩
    rw [hb4, hbd]
    obtain ⟨Q, hQ⟩ : ∃ Q, mnM z j ke b = Q := ⟨_, rfl⟩
    have HSJ := Lib.hid (sj_new z j ke b hk1)
    have hQk : Q.k = j := by rw [← hQ]; rfl
    have hQkp : Q.kp = ke := by rw [← hQ]; rfl
    have hQb : Q.b = b := by rw [← hQ]; rfl
    have hQr : Q.r = rcN (List.range j) (List.replicate j 0) (ke : Int) 1 201 99 := by rw [← hQ]; rfl
    rw [hQ] at hok HSJ
    have HOK := Lib.hid hok
    have HQK := Lib.hid hQk
    have HQKP := Lib.hid hQkp
    have HBD : Hid (decide (Q.b < Q.k) = bd) := by show _ = _; rw [hQb, hQk]; exact hbd
    have HQR := Lib.hid hQr
    clear hQ hb1 hb2 hb3 hb4 hok hQk hQkp hQb hbd hQr
    obtain ⟨A', c', hv, hsl⟩ := HH.out.form
    injection hv with e5 e2 e4
    subst e5 e4
    clear e2
    obtain ⟨X0, hX0, bX0⟩ : ∃ X0 : World, wr.drew = X0 ∧ Below wr.heap.size wr X0 := ⟨_, rfl, (Below.refl _ wr).drew⟩
    have hH0 := HH.out.below bX0
    have g1 := hH0.mb.cells.2.1
    obtain ⟨x0, x1, x2, x3, x4', x5⟩ := hH0.six.cells
    have HM1 : Hid (Calls Try.prog 23 #[ptr d.R, .agg #[.slice A j c, .slice (some ⟨p, 0, none⟩) j j, .int .i64 (ke : Int), .int .i64 1, .int .i64 201, .int .i64 99]] X0 fun e w' => e = .returned (.tuple #[.int .i64 1, .bool true]) ∧ HM v1 (.slice A j c) (.slice none 0 0) p q (ke : Int) d j 0 0 h0 o0 (s1 3 j (fM z j) Q.r 1 false) w') := by
      rw [HQR.out]
      exact hH0.nx fun FW hW => nxW_rmake (r := rcN (List.range j) (List.replicate j 0) (ke : Int) 1 201 99) hW (hsl.below bX0) (sl_zers (W := X0) hH0.zer) (Int.natCast_nonneg _) (by show 0 < d.m; rw [HDM.out]; omega) (by rw [HDM.out]; omega) (by omega)
    have hC : X0.cell? ⟨d.W, 1, none⟩ = some (ptr d.R) ∧ X0.cell? ⟨q, 0, none⟩ = some (.slice A j c) ∧ X0.cell? ⟨q, 1, none⟩ = some (.slice (some ⟨p, 0, none⟩) j j) ∧ X0.cell? ⟨q, 2, none⟩ = some (.int .i64 (ke : Int)) ∧ X0.cell? ⟨q, 3, none⟩ = some (.int .i64 1) ∧ X0.cell? ⟨q, 4, none⟩ = some (.int .i64 201) ∧ X0.cell? ⟨q, 5, none⟩ = some (.int .i64 99) := ⟨g1, x0, x1, x2, x3, x4', x5⟩
    have HCX : Hid (∀ u1, HM v1 (.slice A j c) (.slice none 0 0) p q (ke : Int) d j 0 0 h0 o0 (s1 3 j (fM z j) Q.r 1 false) u1 → u1.cell? ⟨d.W, 1, none⟩ = some (ptr d.R) ∧ u1.cell? ⟨q, 0, none⟩ = some (.slice A j c) ∧ u1.cell? ⟨q, 1, none⟩ = some (.slice (some ⟨p, 0, none⟩) j j) ∧ u1.cell? ⟨q, 2, none⟩ = some (.int .i64 (ke : Int)) ∧ u1.cell? ⟨q, 3, none⟩ = some (.int .i64 1) ∧ u1.cell? ⟨q, 4, none⟩ = some (.int .i64 201) ∧ u1.cell? ⟨q, 5, none⟩ = some (.int .i64 99)) := fun u1 h => ⟨h.mb.cells.2.1, h.six.cells⟩
    clear HH hsl bX0 hH0 g1 x0 x1 x2 x3 x4' x5
    go_upto_region 16 with fail
    go_cut [17] (fun v wx => v = .int .i64 1 ∧ Hid (HM v1 (.slice A j c) (.slice none 0 0) p q (ke : Int) d j 0 0 h0 o0 (s1 3 j (fM z j) Q.r 1 false) wx))
    case first =>
      refine region_T (fun _ => false) (fun u1 => u1.cell? ⟨d.W, 1, none⟩ = some (ptr d.R) ∧ u1.cell? ⟨q, 0, none⟩ = some (.slice A j c) ∧ u1.cell? ⟨q, 1, none⟩ = some (.slice (some ⟨p, 0, none⟩) j j) ∧ u1.cell? ⟨q, 2, none⟩ = some (.int .i64 (ke : Int)) ∧ u1.cell? ⟨q, 3, none⟩ = some (.int .i64 1) ∧ u1.cell? ⟨q, 4, none⟩ = some (.int .i64 201) ∧ u1.cell? ⟨q, 5, none⟩ = some (.int .i64 99)) (by kernel_rfl) ?_
      rw [hX0]
      clear hX0
      refine takeX 0 76 (v := ?_) rfl rfl (by kernel_rfl) (by kernel_rfl) (by kernel_rfl) (by kernel_rfl) (by kernel_rfl) (fun _ _ _ _ h => h) hC (by rfl) ?_ ?_
      rotate_left
      · intro w hSw; (try dsimp only at hSw); go_simp; try (with_reducible rfl)
      simp only [List.setIfInBounds_toArray, List.set_cons_zero, List.set_cons_succ]
      refine takeX 1 77 (v := ?_) rfl rfl (by kernel_rfl) (by kernel_rfl) (by kernel_rfl) (by kernel_rfl) (by kernel_rfl) (fun _ _ _ _ h => h) hC (by rfl) ?_ ?_
      rotate_left
      · intro w hSw; (try dsimp only at hSw); go_simp; try (with_reducible rfl)
      simp only [List.setIfInBounds_toArray, List.set_cons_zero, List.set_cons_succ]
      refine takeX 2 78 (v := ?_) rfl rfl (by kernel_rfl) (by kernel_rfl) (by kernel_rfl) (by kernel_rfl) (by kernel_rfl) (fun _ _ _ _ h => h) hC (by rfl) ?_ ?_
      rotate_left
      · intro w hSw; (try dsimp only at hSw); go_simp; try (with_reducible rfl)
      simp only [List.setIfInBounds_toArray, List.set_cons_zero, List.set_cons_succ]
      refine takeX 3 79 (v := ?_) rfl rfl (by kernel_rfl) (by kernel_rfl) (by kernel_rfl) (by kernel_rfl) (by kernel_rfl) (fun _ _ _ _ h => h) hC (by rfl) ?_ ?_
      rotate_left
      · intro w hSw; (try dsimp only at hSw); go_simp; try (with_reducible rfl)
      simp only [List.setIfInBounds_toArray, List.set_cons_zero, List.set_cons_succ]
      refine takeX 4 80 (v := ?_) rfl rfl (by kernel_rfl) (by kernel_rfl) (by kernel_rfl) (by kernel_rfl) (by kernel_rfl) (fun _ _ _ _ h => h) hC (by rfl) ?_ ?_
      rotate_left
      · intro w hSw; (try dsimp only at hSw); go_simp; try (with_reducible rfl)
      simp only [List.setIfInBounds_toArray, List.set_cons_zero, List.set_cons_succ]
      refine oneT (i := 5) (by kernel_rfl) rfl (by rfl) (fun K hK => ?_)
      go_simp
      refine HM1.out.mono ?_
      rintro e u1 ⟨rfl, hu1⟩
      have HU := Lib.hid hu1
      have hC2 := HCX.out u1 hu1
      clear hu1 hC
      have hC := hC2
      clear hC2
      refine hK.out _ _ (fun _ => hC) ?_
      clear hK K HM1 HCX
      try simp only [Act.put, List.setIfInBounds_toArray, List.set_cons_zero, List.set_cons_succ]
      refine takeX 6 75 (v := ?_) rfl rfl (by kernel_rfl) (by kernel_rfl) (by kernel_rfl) (by kernel_rfl) (by kernel_rfl) (fun _ _ _ _ h => h) hC (by rfl) ?_ ?_
      rotate_left
      · intro w hSw; (try dsimp only at hSw); go_simp; try (with_reducible rfl)
      simp only [List.setIfInBounds_toArray, List.set_cons_zero, List.set_cons_succ]
      refine takeX 7 82 (v := ?_) rfl rfl (by kernel_rfl) (by kernel_rfl) (by kernel_rfl) (by kernel_rfl) (by kernel_rfl) (fun _ _ _ _ h => h) hC (by rfl) ?_ ?_
      rotate_left
      · intro w hSw; (try dsimp only at hSw); go_simp; try (with_reducible rfl)
      simp only [List.setIfInBounds_toArray, List.set_cons_zero, List.set_cons_succ]
      refine takeX 8 83 (v := ?_) rfl rfl (by kernel_rfl) (by kernel_rfl) (by kernel_rfl) (by kernel_rfl) (by kernel_rfl) (fun _ _ _ _ h => h) hC (by rfl) ?_ ?_
      rotate_left
      · intro w hSw; (try dsimp only at hSw); go_simp; try (with_reducible rfl)
      simp only [List.setIfInBounds_toArray, List.set_cons_zero, List.set_cons_succ]
      refine takeX 9 17 (v := ?_) rfl rfl (by kernel_rfl) (by kernel_rfl) (by kernel_rfl) (by kernel_rfl) (by kernel_rfl) (fun _ _ _ _ h => h) hC (by rfl) ?_ ?_
      rotate_left
      · intro w hSw; (try dsimp only at hSw); go_simp; try (with_reducible rfl)
      simp only [List.setIfInBounds_toArray, List.set_cons_zero, List.set_cons_succ]
      refine takeX 10 18 (v := ?_) rfl rfl (by kernel_rfl) (by kernel_rfl) (by kernel_rfl) (by kernel_rfl) (by kernel_rfl) (fun _ _ _ _ h => h) hC (by rfl) ?_ ?_
      rotate_left
      · intro w hSw; (try dsimp only at hSw); go_simp; try (with_reducible rfl)
      simp only [List.setIfInBounds_toArray, List.set_cons_zero, List.set_cons_succ]
      refine doneT (by kernel_rfl) ?_
      clear hC
      go_wp2
      go_meet
      case rel => exact ⟨rfl, HU.out⟩
    case rest =>
      obtain ⟨rfl, HU⟩ := hcut
      clear HM1 HCX hC hX0
      have HJ2 : Hid (∃ (hs : Nat → Hp) (os : Nat → Ts), HM v1 (.slice A j c) (.slice none 0 0) p q (ke : Int) d j 0 0 hs os (s1 3 j (fM z j) Q.r 1 false) wc ∧ HsOk Q 0 hs ∧ ∀ i, i < 0 → os i = .run (tHelp Q.r 1)) := ⟨h0, o0, HU.out, ⟨fun i hi => absurd hi (by omega)⟩, fun i hi => absurd hi (by omega)⟩
      clear HU
      go_wp2_with fail
      clear a3 d3 e3 w3
      go_loopg [88, 19] N (fun gk iv tv wr => ∃ (i : Nat) (T : Option Addr) (tc : Nat), i + gk = N ∧ iv = .int .i64 (i : Int) ∧ tv = .slice T i tc ∧ Hid (∃ (hs : Nat → Hp) (os : Nat → Ts), HM v1 (.slice A j c) (.slice T i tc) p q (ke : Int) d j i 0 hs os (s1 3 j (fM z j) Q.r 1 false) wr ∧ HsOk Q i hs ∧ ∀ t, t < i → os t = .run (tHelp Q.r 1)))
      case atStart => exact ⟨0, none, 0, by omega, rfl, rfl, HJ2.out⟩
      case round =>
        clear HJ2
        obtain ⟨i, T, tc, hi, rfl, rfl, HH⟩ := hrel
        by_cases hlt : i < N
        case pos =>
          have i2 : (i : Int) < (N : Int) := by omega
          have hkw : IntKind.i64.wrap ((i : Int) + 1) = (i : Int) + 1 := IntWalk.i64_in _ (by omega)
          obtain ⟨hs, os, hA, hB, hC⟩ := HH.out
          have HA := Lib.hid hA
          have HB := Lib.hid hB
          have HC := Lib.hid hC
          have HS := Lib.hid (helper_walk (me := i) (z := 1) (r := Q.r) hA.mb.me (good_mn HOK.out (by rw [HQK.out]; omega)))
          clear hA hB hC HH
          go_wp2_with fail
          refine HS.out.mono ?_
          rintro e u1 ⟨a, rfl, hME, hb⟩
          obtain ⟨T', tc', Z, happ, hP⟩ := HA.out.push (x := ⟨a, i, 1, Q.r⟩) ⟨hME, HA.out.mb.bel.trans (hb.mono HA.out.mb.bel.size)⟩ (HA.out.mb.kb hb) (by omega)
          have HN : Hid (∃ (hs : Nat → Hp) (os : Nat → Ts), HM v1 (.slice A j c) (.slice T' (i + 1) tc') p q (ke : Int) d j (i + 1) 0 hs os (s1 3 j (fM z j) Q.r 1 false) Z ∧ HsOk Q (i + 1) hs ∧ ∀ t, t < i + 1 → os t = .run (tHelp Q.r 1)) := by
            refine ⟨_, _, hP, ⟨fun t ht => ?_⟩, fun t ht => ?_⟩
            · by_cases e : t = i
              · subst e; rw [upd_at]; exact ⟨rfl, rfl⟩
              · rw [upd_ne _ _ e]; exact HB.out.h t (by omega)
            · by_cases e : t = i
              · subst e; rw [upd_at]
              · rw [upd_ne _ _ e]; exact HC.out t (by omega)
          clear HS HA HB HC hME hb hP
          go_wp2_with (at_builtin; refine Lib.wpList_append_run _ rfl _ _ _ _ rfl _ _ rfl rfl _ _ happ ?_)
          go_roundg (gk - 1)
          case measure => omega
          case rel => exact ⟨i + 1, T', tc', by omega, by go_num, by go_num, HN.out⟩
        have i2 : ¬ ((i : Int) < (N : Int)) := by omega
        obtain rfl : i = N := by omega
        have HJ3 : Hid (∃ hs, HsOk Q i hs ∧ JMs v1 (.slice A j c) (.slice T i tc) p q ke d Q i 0 hs 1 wr) := by
          obtain ⟨hs, os, hA, hB, hC⟩ := HH.out
          refine ⟨hs, hB, 0, fM z j, false, os, ?_, HSJ.out, fun t ht => ?_⟩
          · rw [HQK.out]; exact hA
          · rw [hC t ht]; exact pt_new Q HOK.out _ _ _ _
        clear HH HSJ
        obtain ⟨hs, hHS, hJ⟩ := HJ3.out
        have HHS := Lib.hid hHS
        have HJ := Lib.hid hJ
        clear HJ3 hHS hJ hi hlt i2
        go_wp2_with fail
        go_loopg [101, 21] n0 (fun gk iv sv wr => ∃ (t : Nat) (st : Int), t + gk = n0 ∧ iv = .int .i64 (t : Int) ∧ sv = .int .u8 st ∧ Hid (JMs v1 (.slice A j c) (.slice T i tc) p q ke d Q i t hs st wr))
        case atStart => exact ⟨0, 1, by omega, rfl, rfl, HJ.out⟩
        case round =>
          clear HJ
          obtain ⟨t, st, ht, rfl, rfl, HH⟩ := hrel
          by_cases hlt : t < n0
          case pos =>
            have i3 : (t : Int) < (n0 : Int) := by omega
            have i0 : (0 : Int) ≤ (t : Int) := by omega
            have hkw : IntKind.i64.wrap ((t : Int) + 1) = (t : Int) + 1 := IntWalk.i64_in _ (by omega)
            obtain ⟨hlst, hbel⟩ := HH.out.list
            obtain ⟨b0, off, zz, rfl, hzz, z1, z2, hc⟩ := HSK.out.in_ (HB1.out.trans (hbel.mono HB1.out.size)) hlt
            obtain ⟨zn, rfl⟩ := Int.eq_ofNat_of_zero_le z1
            obtain ⟨ii, hii, hiL⟩ : ∃ ii : Nat, zn % i = ii ∧ ii < i := ⟨_, rfl, Nat.mod_lt _ (by omega)⟩
            have a1 : IntKind.i64.wrap (zn : Int) = (zn : Int) := IntWalk.i64_in _ (by omega)
            have d1 : (zn : Int).tmod (i : Int) = (ii : Int) := by rw [← hii, Int.tmod_eq_emod_of_nonneg (by omega)]; rfl
            have n00 : ¬ (i : Int) = 0 := by omega
            have w2 : IntKind.i64.wrap (ii : Int) = (ii : Int) := IntWalk.i64_in _ (by omega)
            have j0 : (0 : Int) ≤ (ii : Int) := by omega
            have j1 : (ii : Int) < (i : Int) := by omega
            obtain ⟨g, rfl, -, hcg⟩ := row_cell hlst (ptrs_at hiL) hiL
            have HS := Lib.hid (HH.out.step HHS.out HOK.out hiL (by omega) (by rw [HQK.out]; omega))
            clear hlst hbel hii hzz HH
            go_wp2_with fail
            refine HS.out.mono ?_
            rintro e u1 ⟨⟨bb, rfl⟩, st', hJ2, hst⟩
            have HJ2 := Lib.hid hJ2
            obtain ⟨g1, hS⟩ := hJ2.state
            have HSt := Lib.hid hS
            have HX : Hid (st' = 1 ∨ (st' = 2 ∧ bd = false) ∨ (st' = 0 ∧ bd = true)) := by
              obtain ⟨mm, f, al, os, h1, h2, h3⟩ := hJ2
              show _ ∨ _
              rcases h2.st with e | ⟨e, e2⟩ | ⟨e, e2⟩
              · exact .inl e
              · refine .inr (.inl ⟨e, ?_⟩)
                rw [← HBD.out]
                have h5 := h2.ha e2
                have h6 := h2.mb
                exact decide_eq_false (by omega)
              · refine .inr (.inr ⟨e, ?_⟩)
                rw [← HBD.out]
                exact decide_eq_true e2
            have HST := Lib.hid hst
            clear HS hJ2 hS hst hcg hc
            go_wp2_with fail
            refine HSt.out.mono ?_
            rintro e u2 ⟨rfl, rfl⟩
            clear HSt g1
            have HEND : Hid (∃ (t' : Nat) (st2 : Int), t' + (gk - 1) = n0 ∧ Value.int .i64 ((t : Int) + 1) = .int .i64 (t' : Int) ∧ Value.int .u8 st' = .int .u8 st2 ∧ Hid (JMs v1 (.slice A j c) (.slice (some ⟨g, 0, none⟩) i tc) p q ke d Q i t' hs st2 u1)) := ⟨t + 1, st', by omega, by go_num, rfl, HJ2.out⟩
            clear HJ2
            by_cases hs1 : st = 1
            · subst hs1
              clear HST
              rcases HX.out with rfl | ⟨rfl, rfl⟩ | ⟨rfl, rfl⟩
              · clear HX
                cases bd with
                | true =>
                  go_wp2
                  go_roundg (gk - 1)
                  case measure => omega
                  case rel => exact HEND.out
                | false =>
                  go_wp2
                  go_roundg (gk - 1)
                  case measure => omega
                  case rel => exact HEND.out
              · clear HX
                go_wp2
                go_roundg (gk - 1)
                case measure => omega
                case rel => exact HEND.out
              · clear HX
                go_wp2
                go_roundg (gk - 1)
                case measure => omega
                case rel => exact HEND.out
            · obtain rfl : st' = st := HST.out hs1
              clear HST
              rcases HX.out with rfl | ⟨rfl, rfl⟩ | ⟨rfl, rfl⟩
              · exact absurd rfl hs1
              · clear HX
                go_wp2
                go_roundg (gk - 1)
                case measure => omega
                case rel => exact HEND.out
              · clear HX
                go_wp2
                go_roundg (gk - 1)
                case measure => omega
                case rel => exact HEND.out
          have i3 : ¬ ((t : Int) < (n0 : Int)) := by omega
          obtain rfl : t = n0 := by omega
          have HMX : Hid (Calls Try.prog 33 #[.slice T i tc, .slice none 0 0] wr fun e w' => e = .returned (.bool true) ∧ Hid (∃ (tt : Nat) (f : Nat → Ns) (os : Nat → Ts), JME v1 (.slice A j c) (.slice T i tc) p q ke d Q i tt hs bd f os w')) := by
            obtain ⟨mm, f, al, os, h1, h2, h3⟩ := HH.out
            refine (mixed_walk (L := 3) (I := IM Q 3 i) (B := none) (k := 0) (e := 0) (l := []) h1.mb ⟨mm, f, st, al, rfl, h2, h3⟩ (IM.inl HOK.out (by omega) (by rw [HQK.out]; omega) HHS.out.h) h1.lst (fun b e => .inr (.inl ⟨e, h1.oT b e⟩)) ⟨rfl, Nat.zero_le _, fun z hz => (by cases hz), .inl rfl⟩ (by omega) hN1).mono ?_
            rintro e w' ⟨rfl, hX⟩
            obtain ⟨f', os', hE⟩ := JME.of h1 hX HOK.out hN1
            rw [HBD.out] at hE
            exact ⟨rfl, _, f', os', hE⟩
          clear HH ht hlt
          go_wp2_with fail
          refine HMX.out.mono ?_
          rintro e u1 ⟨rfl, HE⟩
          obtain ⟨tt, f, os, hE⟩ := HE.out
          have HE := Lib.hid hE
          clear HMX hE
          have HYS : Hid (∀ t, t < i → ∀ w', JME v1 (.slice A j c) (.slice T i tc) p q ke d Q i tt hs bd f os w' → Calls Try.prog 27 #[ptr (hs t).a] w' fun e w2 => e = .returned (.bool (!bd)) ∧ Hid (JME v1 (.slice A j c) (.slice T i tc) p q ke d Q i tt hs bd f os w2)) := by
            intro t ht w' h
            refine (h.hm.mb.me.yes ht (h.os t ht)).mono ?_
            rintro e w2 ⟨rfl, hM, hb⟩
            exact ⟨rfl, h.hm.kp ⟨hM, h.hm.mb.bel.trans (hb.mono h.hm.mb.bel.size)⟩ (h.hm.mb.kb hb), h.os, h.w1, h.w0, h.mks, h.i64⟩
          clear HBD HHS HSK
          cases bd with
          | true =>
            have HYS : Hid (∀ t, t < i → ∀ w', JME v1 (.slice A j c) (.slice T i tc) p q ke d Q i tt hs true f os w' → Calls Try.prog 27 #[ptr (hs t).a] w' fun e w2 => e = .returned (.bool false) ∧ Hid (JME v1 (.slice A j c) (.slice T i tc) p q ke d Q i tt hs true f os w2)) := HYS.out
            go_wp2_with fail
            go_loopg [149] i (fun gk iv wr => ∃ t : Nat, t + gk = i ∧ iv = .int .i64 (t : Int) ∧ Hid (JME v1 (.slice A j c) (.slice T i tc) p q ke d Q i tt hs true f os wr))
            case atStart => exact ⟨0, by omega, rfl, HE.out⟩
            case round =>
              clear HE
              obtain ⟨t, ht, rfl, HH⟩ := hrel
              by_cases hlt : t < i
              case pos =>
                have i3 : (t : Int) < (i : Int) := by omega
                have i0 : (0 : Int) ≤ (t : Int) := by omega
                have hkw : IntKind.i64.wrap ((t : Int) + 1) = (t : Int) + 1 := IntWalk.i64_in _ (by omega)
                obtain ⟨g, rfl, -, hcg⟩ := row_cell HH.out.hm.lst (ptrs_at hlt) hlt
                have HS := Lib.hid (HYS.out t hlt _ HH.out)
                clear HH
                go_wp2_with fail
                refine HS.out.mono ?_
                rintro e u2 ⟨rfl, HN⟩
                clear HS hcg
                go_wp2
                go_roundg (gk - 1)
                case measure => omega
                case rel => exact ⟨t + 1, by omega, by go_num, HN.out⟩
              have i3 : ¬ ((t : Int) < (i : Int)) := by omega
              clear HYS ht hlt
              have HQK2 := HQK.out
              have HRD : Hid (∀ t, t < j → ∀ b cc, (Value.slice A j c) = .slice (some ⟨b, 0, none⟩) j cc → wr.cell? ⟨b, t, none⟩ = some (.int .i64 (rfN t)) → Calls Try.prog 31 #[ptr d.A, .int .i64 (rfN t)] wr fun e w' => e = .returned (.bool (false && decide (ke ≤ t))) ∧ wr = w') := by
                intro t ht b cc _ _
                obtain ⟨FW, hW⟩ := HH.out.hm.mb.ws
                have hI : Inv 3 0 (s1 3 Q.k f Q.r 0 false) := inv_sN (by rw [HQK.out]; omega) (by omega) (by omega) HH.out.i64 (by simp)
                have hW' : WS d FW wr (s1 3 Q.k f Q.r 0 false) := hW
                have := nxW_markR hW' hI.fit.ok (arN_hit (f := f) (k := Q.k) (i := t) (by rw [HQK.out]; exact ht) (by rw [HQK.out]; omega))
                have hm : (f t).mark = (false && decide (ke ≤ t)) := by rw [← HQKP.out]; exact HH.out.mks t (by rw [HQK.out]; exact ht)
                rw [← hm]
                exact this
              have g0 := HH.out.hm.mb.cells.1
              have x2 := HH.out.hm.six.cells.2.2.1
              have HAT : Hid (∀ t, t < j → ∃ b cc, (Value.slice A j c) = .slice (some ⟨b, 0, none⟩) j cc ∧ wr.cell? ⟨b, t, none⟩ = some (.int .i64 (rfN t))) := fun t ht => by
                obtain ⟨b, cc, h1, h2⟩ := HH.out.hm.at_ (i := t) (by rw [HQK.out]; exact ht)
                rw [HQK.out] at h1
                exact ⟨b, cc, h1, h2⟩
              clear HQK2
              go_wp2_with fail
              go_loopg [161] j (fun gk iv w5 => ∃ t : Nat, t + gk = j ∧ iv = .int .i64 (t : Int) ∧ wr = w5)
              case atStart => exact ⟨0, by omega, rfl, rfl⟩
              case round =>
                obtain ⟨t2, ht2, rfl, rfl⟩ := hrel
                by_cases hlt2 : t2 < j
                case pos =>
                  have i4 : (t2 : Int) < (j : Int) := by omega
                  have i0 : (0 : Int) ≤ (t2 : Int) := by omega
                  have hkw : IntKind.i64.wrap ((t2 : Int) + 1) = (t2 : Int) + 1 := IntWalk.i64_in _ (by omega)
                  obtain ⟨b, cc, hv, hc⟩ := HAT.out t2 hlt2
                  have HR := Lib.hid (HRD.out t2 hlt2 b cc hv hc)
                  injection hv with e5 e2 e4
                  subst e5 e4
                  clear HRD HAT e2
                  generalize rfN t2 = rt at *
                  by_cases hke : ke ≤ t2
                  · have hk5 : (ke : Int) ≤ (t2 : Int) := by omega
                    rw [decide_eq_true hke] at HR
                    go_wp2_with fail
                    refine HR.out.mono ?_
                    rintro e u2 ⟨rfl, rfl⟩
                    clear HR
                    go_wp2
                    go_roundg (gk - 1)
                    case measure => omega
                    case rel => exact ⟨t2 + 1, by omega, by go_num, rfl⟩
                  · have hk5 : ¬ (ke : Int) ≤ (t2 : Int) := by omega
                    rw [decide_eq_false hke] at HR
                    go_wp2_with fail
                    refine HR.out.mono ?_
                    rintro e u2 ⟨rfl, rfl⟩
                    clear HR
                    go_wp2
                    go_roundg (gk - 1)
                    case measure => omega
                    case rel => exact ⟨t2 + 1, by omega, by go_num, rfl⟩
                have i4 : ¬ ((t2 : Int) < (j : Int)) := by omega
                obtain ⟨b, cc, hv, hc⟩ := HAT.out 0 hk1
                injection hv with e5 e2 e4
                subst e5 e4
                have g1 := HH.out.hm.mb.cells.2.1
                have m0 : (0 : Int) < (j : Int) := by omega
                have hI : Inv 3 0 (s1 3 Q.k f Q.r 0 false) := inv_sN (by rw [HQK.out]; omega) (by omega) (by omega) HH.out.i64 (by simp)
                have hm : HM v1 (.slice (some ⟨b, 0, none⟩) j c) (.slice T i tc) p q (ke : Int) d Q.k i tt hs os (s1 3 Q.k f Q.r 0 false) wr := HH.out.hm
                obtain ⟨fW, hf1, hf0, HRW⟩ : ∃ fW : Int → Int, fW 1 = 201 ∧ fW 0 = 200 ∧ Hid (∀ k : Int, Reads 13 #[ptr d.A, .int .i64 (rfN 0), .int .i64 k] wr (.int .i64 (fW k))) :=
                  ⟨wayAt (nodePa 0 (f 0)), HH.out.w1, HH.out.w0, fun k => hm.mb.reads fun w FW h => nxW_way (k := k) h hI.fit.ok (arN_hit (by rw [HQK.out]; exact hk1) (by rw [HQK.out]; omega))⟩
                have R2 : Hid (Reads 28 #[ptr d.R, .int .i64 1] wr (.int .u8 0)) := hm.mb.reads fun w FW h => nxW_stateR h (by simp [s1, sN]) (show rcAt [_] 1 = some (0, _) from rfl)
                have R3 : Hid (Reads 29 #[ptr d.R, .int .i64 1] wr (.bool false)) := hm.mb.reads fun w FW h => nxW_allR h (by simp [s1, sN]) (show rcAt [_] 1 = some (0, _) from rfl)
                have HEND : Hid (∀ t, Below w.heap.size w (wr.drewN t)) := fun t => by
                  have hb := (hm.mb.drewN t).bel
                  exact HB1.out.trans (hb.mono HB1.out.size)
                clear HRD HAT e2 hm hI HH HQK HQKP HOK HQR x2
                generalize rfN 0 = r0 at *
                go_wp2_with fail
                go_quiet (first
                  | (go_at_call 13; exact HRW.out _ _)
                  | (go_at_call 28; exact R2.out _)
                  | (go_at_call 29; exact R3.out _))
                go_wp2
                go_ret
                exact ⟨rfl, HEND.out _⟩
          | false =>
            have HYS : Hid (∀ t, t < i → ∀ w', JME v1 (.slice A j c) (.slice T i tc) p q ke d Q i tt hs false f os w' → Calls Try.prog 27 #[ptr (hs t).a] w' fun e w2 => e = .returned (.bool true) ∧ Hid (JME v1 (.slice A j c) (.slice T i tc) p q ke d Q i tt hs false f os w2)) := HYS.out
            go_wp2_with fail
            go_loopg [149] i (fun gk iv wr => ∃ t : Nat, t + gk = i ∧ iv = .int .i64 (t : Int) ∧ Hid (JME v1 (.slice A j c) (.slice T i tc) p q ke d Q i tt hs false f os wr))
            case atStart => exact ⟨0, by omega, rfl, HE.out⟩
            case round =>
              clear HE
              obtain ⟨t, ht, rfl, HH⟩ := hrel
              by_cases hlt : t < i
              case pos =>
                have i3 : (t : Int) < (i : Int) := by omega
                have i0 : (0 : Int) ≤ (t : Int) := by omega
                have hkw : IntKind.i64.wrap ((t : Int) + 1) = (t : Int) + 1 := IntWalk.i64_in _ (by omega)
                obtain ⟨g, rfl, -, hcg⟩ := row_cell HH.out.hm.lst (ptrs_at hlt) hlt
                have HS := Lib.hid (HYS.out t hlt _ HH.out)
                clear HH
                go_wp2_with fail
                refine HS.out.mono ?_
                rintro e u2 ⟨rfl, HN⟩
                clear HS hcg
                go_wp2
                go_roundg (gk - 1)
                case measure => omega
                case rel => exact ⟨t + 1, by omega, by go_num, HN.out⟩
              have i3 : ¬ ((t : Int) < (i : Int)) := by omega
              clear HYS ht hlt
              have HQK2 := HQK.out
              have HRD : Hid (∀ t, t < j → ∀ b cc, (Value.slice A j c) = .slice (some ⟨b, 0, none⟩) j cc → wr.cell? ⟨b, t, none⟩ = some (.int .i64 (rfN t)) → Calls Try.prog 31 #[ptr d.A, .int .i64 (rfN t)] wr fun e w' => e = .returned (.bool (true && decide (ke ≤ t))) ∧ wr = w') := by
                intro t ht b cc _ _
                obtain ⟨FW, hW⟩ := HH.out.hm.mb.ws
                have hI : Inv 3 0 (s1 3 Q.k f Q.r 2 true) := inv_sN (by rw [HQK.out]; omega) (by omega) (by omega) HH.out.i64 (by simp)
                have hW' : WS d FW wr (s1 3 Q.k f Q.r 2 true) := hW
                have := nxW_markR hW' hI.fit.ok (arN_hit (f := f) (k := Q.k) (i := t) (by rw [HQK.out]; exact ht) (by rw [HQK.out]; omega))
                have hm : (f t).mark = (true && decide (ke ≤ t)) := by rw [← HQKP.out]; exact HH.out.mks t (by rw [HQK.out]; exact ht)
                rw [← hm]
                exact this
              have g0 := HH.out.hm.mb.cells.1
              have x2 := HH.out.hm.six.cells.2.2.1
              have HAT : Hid (∀ t, t < j → ∃ b cc, (Value.slice A j c) = .slice (some ⟨b, 0, none⟩) j cc ∧ wr.cell? ⟨b, t, none⟩ = some (.int .i64 (rfN t))) := fun t ht => by
                obtain ⟨b, cc, h1, h2⟩ := HH.out.hm.at_ (i := t) (by rw [HQK.out]; exact ht)
                rw [HQK.out] at h1
                exact ⟨b, cc, h1, h2⟩
              clear HQK2
              go_wp2_with fail
              go_loopg [161] j (fun gk iv w5 => ∃ t : Nat, t + gk = j ∧ iv = .int .i64 (t : Int) ∧ wr = w5)
              case atStart => exact ⟨0, by omega, rfl, rfl⟩
              case round =>
                obtain ⟨t2, ht2, rfl, rfl⟩ := hrel
                by_cases hlt2 : t2 < j
                case pos =>
                  have i4 : (t2 : Int) < (j : Int) := by omega
                  have i0 : (0 : Int) ≤ (t2 : Int) := by omega
                  have hkw : IntKind.i64.wrap ((t2 : Int) + 1) = (t2 : Int) + 1 := IntWalk.i64_in _ (by omega)
                  obtain ⟨b, cc, hv, hc⟩ := HAT.out t2 hlt2
                  have HR := Lib.hid (HRD.out t2 hlt2 b cc hv hc)
                  injection hv with e5 e2 e4
                  subst e5 e4
                  clear HRD HAT e2
                  generalize rfN t2 = rt at *
                  by_cases hke : ke ≤ t2
                  · have hk5 : (ke : Int) ≤ (t2 : Int) := by omega
                    rw [decide_eq_true hke] at HR
                    go_wp2_with fail
                    refine HR.out.mono ?_
                    rintro e u2 ⟨rfl, rfl⟩
                    clear HR
                    go_wp2
                    go_roundg (gk - 1)
                    case measure => omega
                    case rel => exact ⟨t2 + 1, by omega, by go_num, rfl⟩
                  · have hk5 : ¬ (ke : Int) ≤ (t2 : Int) := by omega
                    rw [decide_eq_false hke] at HR
                    go_wp2_with fail
                    refine HR.out.mono ?_
                    rintro e u2 ⟨rfl, rfl⟩
                    clear HR
                    go_wp2
                    go_roundg (gk - 1)
                    case measure => omega
                    case rel => exact ⟨t2 + 1, by omega, by go_num, rfl⟩
                have i4 : ¬ ((t2 : Int) < (j : Int)) := by omega
                obtain ⟨b, cc, hv, hc⟩ := HAT.out 0 hk1
                injection hv with e5 e2 e4
                subst e5 e4
                have g1 := HH.out.hm.mb.cells.2.1
                have m0 : (0 : Int) < (j : Int) := by omega
                have hI : Inv 3 0 (s1 3 Q.k f Q.r 2 true) := inv_sN (by rw [HQK.out]; omega) (by omega) (by omega) HH.out.i64 (by simp)
                have hm : HM v1 (.slice (some ⟨b, 0, none⟩) j c) (.slice T i tc) p q (ke : Int) d Q.k i tt hs os (s1 3 Q.k f Q.r 2 true) wr := HH.out.hm
                obtain ⟨fW, hf1, hf0, HRW⟩ : ∃ fW : Int → Int, fW 1 = 99 ∧ fW 0 = 200 ∧ Hid (∀ k : Int, Reads 13 #[ptr d.A, .int .i64 (rfN 0), .int .i64 k] wr (.int .i64 (fW k))) :=
                  ⟨wayAt (nodePa 0 (f 0)), HH.out.w1, HH.out.w0, fun k => hm.mb.reads fun w FW h => nxW_way (k := k) h hI.fit.ok (arN_hit (by rw [HQK.out]; exact hk1) (by rw [HQK.out]; omega))⟩
                have R2 : Hid (Reads 28 #[ptr d.R, .int .i64 1] wr (.int .u8 2)) := hm.mb.reads fun w FW h => nxW_stateR h (by simp [s1, sN]) (show rcAt [_] 1 = some (0, _) from rfl)
                have R3 : Hid (Reads 29 #[ptr d.R, .int .i64 1] wr (.bool true)) := hm.mb.reads fun w FW h => nxW_allR h (by simp [s1, sN]) (show rcAt [_] 1 = some (0, _) from rfl)
                have HEND : Hid (∀ t, Below w.heap.size w (wr.drewN t)) := fun t => by
                  have hb := (hm.mb.drewN t).bel
                  exact HB1.out.trans (hb.mono HB1.out.size)
                clear HRD HAT e2 hm hI HH HQK HQKP HOK HQR x2
                generalize rfN 0 = r0 at *
                go_wp2_with fail
                go_quiet (first
                  | (go_at_call 13; exact HRW.out _ _)
                  | (go_at_call 28; exact R2.out _)
                  | (go_at_call 29; exact R3.out _))
                go_wp2
                go_ret
                exact ⟨rfl, HEND.out _⟩
end Go.Proofs.Ytfloblofdkemlaa
