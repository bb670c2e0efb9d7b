/-
  What the law's own Cut returns: the ways from one on up to another one, with the keys between.
-/
import Derived.Test.YtpbbkfpapmomhaaLaw2
import Derived.Deep.DeepCutAuto
namespace Go.Proofs.Ytpbbkfpapmomhaa
open Go.ChangeShapes Go.WideShapes Go.ChangeAt Go.RowKit
set_option linter.unusedVariables false
set_option linter.unusedSimpArgs false

theorem drop_snoc {l : List Int} {p i : Nat} (hp : p ≤ i) (hi : i < l.length) : (l.drop p).take (i + 1 - p) = (l.drop p).take (i - p) ++ [l[i]] := by
  rw [show i + 1 - p = (i - p) + 1 from by omega, take_snoc (l.drop p) (i - p) (by rw [List.length_drop]; omega)]
  congr 2
  rw [List.getElem_drop]
  congr 1
  omega

/-- The world behind a box, a variable for the result, and one to build in. -/
theorem boxedO (w : World) (x y : Value) : ∃ (W : World) (R O : Nat) (X : World), ((w.alloc (.cells #[x, y] 26)).alloc (.cells #[.slice none 0 0, .slice none 0 0] 26)).alloc (.cells #[.slice none 0 0, .slice none 0 0] 26) = X ∧ w.heap.size + 1 = R ∧ w.heap.size + 1 + 1 = O ∧ Below w.heap.size w W ∧ R < W.heap.size ∧
    Box W w.heap.size x y ∧ Var W R ∧ w.heap.size < R ∧ w.heap.size < O ∧ R < O ∧ St W O (.slice none 0 0) (.slice none 0 0) (.slice none 0 0) (.slice none 0 0) [] [] X :=
  ⟨_, _, _, _, rfl, rfl, rfl, ((Below.refl _ w).alloc (Nat.le_refl _) _).alloc (by simp) _, by simp, (Box.new w rfl x y _).below (below_new _ _), Var.new _ (by simp) _, by omega, by omega, by omega, St.new (Row.nil _ _ _) (Row.nil _ _ _) (Below.refl _ _) (by simp)⟩

set_option maxHeartbeats 4000000 in
theorem cut_walk (A B : Option Addr) (n c m d : Nat) (ks ws : List Int) (p q : Nat) (w : World) (hk : Sl w A n c ks) (hw : Sl w B m d ws) (hnm : n + 1 = m) (hm : m ≤ 1000) (hpq : p ≤ q) (hq : q ≤ m) :
    Calls Try.prog 27 #[inn A n c B m d, .int .i64 (p : Int), .int .i64 (q : Int)] w (MadeI w ((ks.drop p).take (q - 1 - p)) ((ws.drop p).take (q - p))) := by
  go_enter Try.func27, Try.ntmps27
  go_wp2
  obtain ⟨W, R, O, X, hX, hR, hO, hb00, hs00, HN0, HV0, hR0, hO0, hRO, st0⟩ := boxedO w (.slice A n c) (.slice B m d)
  rw [hX, hO, hR]
  clear hX hR hO
  have Hk := hk.below hb00
  have Hw := hw.below hb00
  clear hk hw
  have l1 : w.heap.size ≠ O := by omega
  have l2 : O ≠ w.heap.size := by omega
  have l3 : R ≠ O := by omega
  have l4 : O ≠ R := by omega
  go_loopw [8] (fun s wr => ∃ i : Nat, p ≤ i ∧ i ≤ q ∧ s = .int .i64 (i : Int) ∧ ∃ F1 N1 f1 F2 N2 f2, Hid (St W O (.slice F1 N1 f1) (.slice F2 N2 f2) (.slice F1 N1 f1) (.slice F2 N2 f2) ((ks.drop p).take (min i (q - 1) - p)) ((ws.drop p).take (i - p)) wr)) (fun s _ => q - (intOf s).toNat)
  case atStart => exact ⟨p, Nat.le_refl _, hpq, rfl, none, 0, 0, none, 0, 0, show St _ _ _ _ _ _ _ _ _ by rw [show min p (q - 1) - p = 0 from by omega, Nat.sub_self]; exact st0⟩
  case round =>
    clear st0
    obtain ⟨i, hpi, hiq, rfl, F1, N1, f1, F2, N2, f2, hst⟩ := hrel
    by_cases hlt : i < q
    · have st := hst.out
      clear hst
      have hwl : i < ws.length := by rw [← Hw.len]; omega
      obtain ⟨g, off, rfl, hbl, d0⟩ := Hw.at_ hwl
      have HS : Hid ((ws.drop p).take (i + 1 - p) = (ws.drop p).take (i - p) ++ [ws[i]]) := drop_snoc hpi hwl
      have z1 : ((ws.drop p).take (i - p)).length + [ws[i]].length ≤ 100000 := by simp; omega
      have d1 := (st.below.cell (p := ⟨g, off + i, none⟩) hbl).trans d0
      obtain ⟨k0, k1⟩ := HN0.below st.below
      have j0 := st.cell0
      have j1 := st.cell1
      have j3 := st.free 1
      have q0 : w.heap.size < wr.heap.size := World.block_lt_of_cell? wr _ k0
      have q1 : O < wr.heap.size := st.lt
      have q2 : g < wr.heap.size := Nat.lt_of_lt_of_le hbl st.size
      have i0 : (0 : Int) ≤ (i : Int) := by omega
      have i1 : (i : Int) < (m : Int) := by omega
      have i2 : (i : Int) < (q : Int) := by omega
      generalize (ws.drop p).take (i - p) = wl at *
      generalize ws[i] = z at *
      clear d0
      go_upto_region 5 with fail
      go_cut [] (fun wx => ∃ F3 N3 f3, Hid (St W O (.slice F1 N1 f1) (.slice F3 N3 f3) (.slice F1 N1 f1) (.slice F3 N3 f3) ((ks.drop p).take (min i (q - 1) - p)) (wl ++ [z]) wx))
      case first =>
        go_region_law (first
          | (refine step_pushAll rowR (base := W.heap.size) rfl (.tmp 16) (.tmp 22) rfl _ wl rfl ?_ (some ⟨wr.heap.size, 0, none⟩) 1 1 [z] rfl ?_ z1 ?_ ?_
             (· exact (st.alloc _).drew.ways)
             (· exact sl_one (by simp))
             (· exact (st.alloc _).drew.size)
             intro u4 w4 hr4 hg4
             obtain ⟨F4, N4, f4, rfl⟩ := hr4.shape
             have st4 := (st.alloc _).drew.pushR hr4 hg4
             have j0 := st4.cell0
             have j1 := st4.cell1
             have j3 := st4.free 1
             clear hr4 hg4))
        all_goals go_wp2
        all_goals go_meet
        all_goals exact ⟨F4, N4, f4, st4.set1 _⟩
      case rest =>
        obtain ⟨F3, N3, f3, hst3⟩ := hcut
        clear st j0 j1 j3 d1 k0 k1 q0 q1 q2 i0 i1 hbl
        by_cases hn1 : i + 1 < q
        · have st := hst3.out
          have hkl : i < ks.length := by rw [← Hk.len]; omega
          obtain ⟨g', off', rfl, hbl, d0⟩ := Hk.at_ hkl
          have HK : Hid ((ks.drop p).take (min (i + 1) (q - 1) - p) = (ks.drop p).take (min i (q - 1) - p) ++ [ks[i]]) := by
            show _ = _
            rw [show min (i + 1) (q - 1) - p = i + 1 - p from by omega, show min i (q - 1) - p = i - p from by omega]
            exact drop_snoc hpi hkl
          have z1 : ((ks.drop p).take (min i (q - 1) - p)).length + [ks[i]].length ≤ 100000 := by simp; omega
          have d1 := (st.below.cell (p := ⟨g', off' + i, none⟩) hbl).trans d0
          obtain ⟨k0, k1⟩ := HN0.below st.below
          have j0 := st.cell0
          have j1 := st.cell1
          have j3 := st.free 0
          have q0 : w.heap.size < wc.heap.size := World.block_lt_of_cell? wc _ k0
          have q1 : O < wc.heap.size := st.lt
          have q2 : g' < wc.heap.size := Nat.lt_of_lt_of_le hbl st.size
          have i0 : (0 : Int) ≤ (i : Int) := by omega
          have i1 : (i : Int) < (n : Int) := by omega
          have i3 : (i : Int) + 1 < (q : Int) := by omega
          generalize (ks.drop p).take (min i (q - 1) - p) = kl at *
          generalize ks[i] = y at *
          clear d0 hst3
          go_wp2
          go_region_law (first
            | (refine step_pushAll rowK (base := W.heap.size) rfl (.tmp 30) (.tmp 36) rfl _ kl rfl ?_ (some ⟨wc.heap.size, 0, none⟩) 1 1 [y] rfl ?_ z1 ?_ ?_
               (· exact (st.alloc _).drew.keys)
               (· exact sl_one (by simp))
               (· exact (st.alloc _).drew.size)
               intro u4 w4 hr4 hg4
               obtain ⟨F4, N4, f4, rfl⟩ := hr4.shape
               have st4 := (st.alloc _).drew.pushK hr4 hg4
               have j0 := st4.cell0
               have j1 := st4.cell1
               have j3 := st4.free 0
               clear hr4 hg4))
          all_goals go_wp2
          all_goals go_roundw
          all_goals first
            | exact ⟨i + 1, by omega, by omega, by go_num, F4, N4, f4, F3, N3, f3, show St _ _ _ _ _ _ _ _ _ by rw [HK.out, HS.out]; exact st4.set0 _⟩
            | (simp [intOf]; omega)
        · have HK : Hid ((ks.drop p).take (min (i + 1) (q - 1) - p) = (ks.drop p).take (min i (q - 1) - p)) := by
            show _ = _
            rw [show min (i + 1) (q - 1) - p = min i (q - 1) - p from by omega]
          have i3 : (q : Int) ≤ (i : Int) + 1 := by omega
          go_wp2
          go_roundw
          case rel => exact ⟨i + 1, by omega, by omega, by go_num, F1, N1, f1, F3, N3, f3, show St _ _ _ _ _ _ _ _ _ by rw [HK.out, HS.out]; exact hst3.out⟩
          case measure => simp [intOf]; omega
    · obtain rfl : i = q := by omega
      have HK : Hid ((ks.drop p).take (min i (i - 1) - p) = (ks.drop p).take (i - 1 - p)) := by show _ = _; rw [show min i (i - 1) - p = i - 1 - p from by omega]
      have st := hst.out
      rw [HK.out] at st
      have k0 := st.cell0
      have k1 := st.cell1
      obtain ⟨t0, t1, u0, u1⟩ := HV0.below st.below
      have HZ := Lib.hid (st.end_ hb00 hs00 (by omega))
      clear st hst HK
      go_wp2
      refine bodyPost_ret (results_stored rfl rfl t0 t1) rfl ?_
      exact HZ.out
end Go.Proofs.Ytpbbkfpapmomhaa
