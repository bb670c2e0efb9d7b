/-
  The law ThreadEnds.
-/
import Derived.Test.YtbjaojcffhkahaaTs6
namespace Go.Proofs.Ytbjaojcffhkahaa
open Go.ChangeShapes Go.WideShapes Go.ChangeAt Go.RowKit
set_option linter.unusedVariables false
set_option linter.unusedSimpArgs false
set_option maxRecDepth 20000

set_option maxHeartbeats 8000000 in
theorem threadEnds_walk (A : Option Addr) (n cp : Nat) (pr : List Tc) (mo : Nat) (w : World) (hpg : Pg w.heap.size w A n pr) (hmo : mo < 256) :
    Calls Try.prog 5 #[.slice A n cp, .int .u8 (mo : Int)] w fun e w' => e = .returned (.bool true) ∧ Below w.heap.size w w' := by
  have HPG := Lib.hid hpg
  clear hpg
  go_enter Try.func5, Try.ntmps5
  go_wp2_with fail
  refine (awake_walk w).mono ?_
  rintro e w1 ⟨rfl, b1⟩
  have HB := Lib.hid b1
  clear b1
  by_cases hn : n ≤ 20
  · have i1 : ¬ (20 : Int) < (n : Int) := by omega
    have hnew := TS.new (w0 := w) w1 0 HB.out.size (A := A) (n := n) (cp := cp)
    go_wp2_with fail
    refine hnew.mono ?_
    clear hnew
    rintro e w2 ⟨a, FF, FC, rfl, h2, b2, s2⟩
    have hw2 : Below w.heap.size w w2 := HB.out.trans (b2.mono HB.out.size)
    clear b2 s2 HB
    generalize w1.heap.size = c at *
    have H2 := Lib.hid h2
    have HW := Lib.hid hw2
    clear h2 hw2
    go_wp2
    go_loopw [25] (fun i wr => ∃ (k : Nat) (zs : List Int) (N : Int) (l : List Int) (fin : Bool) (FF FC : Nat → Prop), k ≤ n + 1 ∧ i = .int .i64 k ∧ TS w a c A n cp k zs N l fin FF FC wr ∧ Below w.heap.size w wr) (fun i _ => n + 1 - (intOf i).toNat)
    case atStart => exact ⟨0, [], 0, [], false, FF, FC, by omega, rfl, H2.out, HW.out⟩
    case round =>
      clear H2 HW FF FC
      obtain ⟨k, zs, N, l, fin, FF, FC, hk, rfl, hT, hb⟩ := hrel
      by_cases hlt : k < n + 1
      · have i2 : (k : Int) < (n : Int) + 1 := by omega
        have hst := hT.step (by omega) (HPG.out.only (G := fun b => w.heap.size ≤ b) (by exact ⟨hb.os, hb.tape, hb.output, hb.size, fun b e hn => hb.block b e⟩) (fun b e => e))
        have HT := Lib.hid hT
        have HBB := Lib.hid hb
        clear hT hb
        go_wp2_with fail
        refine hst.mono ?_
        rintro e w3 ⟨rfl, FF', FC', h3, o3, s3⟩
        have hb3 : Below w.heap.size w w3 := HBB.out.trans (o3.below (fun b e => HT.out.geF b e) HBB.out.size)
        clear hst HT HBB o3 s3
        go_wp2
        go_roundw
        case rel => exact ⟨k + 1, _, _, _, _, FF', FC', by omega, by go_num, h3, hb3⟩
        case measure => simp [intOf]; omega
      · have i2 : ¬ (k : Int) < (n : Int) + 1 := by omega
        have hf := hT.ends (by omega)
        subst hf
        have HT := Lib.hid hT
        have HBB := Lib.hid hb
        clear hT hb
        obtain ⟨L, hc⟩ := HT.out.ce
        obtain ⟨AL, nL, cL, rfl⟩ := hc.row.shape
        have hlL : nL = l.length := hc.row.sl.len
        have hlog := HT.out.log
        have hsh := HT.out.short
        have HC : Hid (∀ w', Below wr.heap.size wr w' → w'.cell? ⟨c, 1, none⟩ = some (.slice AL nL cL)) := fun w' h => below_read h hc.cells.2
        have HL := Lib.hid (show nL = 3 * zs.length by omega)
        have hnL : nL ≤ 63 := by omega
        clear hc hlL hlog
        go_wp2_with fail
        refine region_T (fun _ => false) (fun w' => w'.cell? ⟨c, 1, none⟩ = some (.slice AL nL cL)) (by kernel_rfl) ?_
        obtain ⟨X0, hX0, b0⟩ : ∃ X0 : World, wr.drew = X0 ∧ Below wr.heap.size wr X0 := ⟨_, rfl, (Below.refl _ wr).drew⟩
        rw [hX0]
        clear hX0
        have hC := HC.out X0 b0
        have h0 := HT.out.below b0
        refine takeT (i := 0) (v := ?_) rfl (by kernel_rfl) (by kernel_rfl) (by kernel_rfl) (by kernel_rfl) (fun _ _ _ h => h) hC (by rfl) ?_ ?_
        rotate_left
        · intro w hSw; (try dsimp only at hSw); go_simp; try (with_reducible rfl)
        try simp only [Act.put, List.setIfInBounds_toArray, List.set_cons_zero, List.set_cons_succ]
        refine takeT (i := 2) (v := ?_) rfl (by kernel_rfl) (by kernel_rfl) (by kernel_rfl) (by kernel_rfl) (fun _ _ _ h => h) hC (by rfl) ?_ ?_
        rotate_left
        · intro w hSw; (try dsimp only at hSw); go_simp; try (with_reducible rfl)
        try simp only [Act.put, List.setIfInBounds_toArray, List.set_cons_zero, List.set_cons_succ]
        refine takeT (i := 4) (v := ?_) rfl (by kernel_rfl) (by kernel_rfl) (by kernel_rfl) (by kernel_rfl) (fun _ _ _ h => h) hC (by rfl) ?_ ?_
        rotate_left
        · intro w hSw; (try dsimp only at hSw); go_simp; try (with_reducible rfl)
        try simp only [Act.put, List.setIfInBounds_toArray, List.set_cons_zero, List.set_cons_succ]
        refine takeT (i := 5) (v := ?_) rfl (by kernel_rfl) (by kernel_rfl) (by kernel_rfl) (by kernel_rfl) (fun _ _ _ h => h) hC (by rfl) ?_ ?_
        rotate_left
        · intro w hSw; (try dsimp only at hSw); go_simp; try (with_reducible rfl)
        try simp only [Act.put, List.setIfInBounds_toArray, List.set_cons_zero, List.set_cons_succ]
        refine takeT (i := 6) (v := ?_) rfl (by kernel_rfl) (by kernel_rfl) (by kernel_rfl) (by kernel_rfl) (fun _ _ _ h => h) hC (by rfl) ?_ ?_
        rotate_left
        · intro w hSw; (try dsimp only at hSw); go_simp; try (with_reducible rfl)
        try simp only [Act.put, List.setIfInBounds_toArray, List.set_cons_zero, List.set_cons_succ]
        refine takeT (i := 7) (v := ?_) rfl (by kernel_rfl) (by kernel_rfl) (by kernel_rfl) (by kernel_rfl) (fun _ _ _ h => h) hC (by rfl) ?_ ?_
        rotate_left
        · intro w hSw; (try dsimp only at hSw); go_simp; try (with_reducible rfl)
        try simp only [Act.put, List.setIfInBounds_toArray, List.set_cons_zero, List.set_cons_succ]
        refine takeT (i := 8) (v := ?_) rfl (by kernel_rfl) (by kernel_rfl) (by kernel_rfl) (by kernel_rfl) (fun _ _ _ h => h) hC (by rfl) ?_ ?_
        rotate_left
        · intro w hSw; (try dsimp only at hSw); go_simp; try (with_reducible rfl)
        try simp only [Act.put, List.setIfInBounds_toArray, List.set_cons_zero, List.set_cons_succ]
        refine oneT (i := 1) (by kernel_rfl) rfl (by rfl) (fun K hK => ?_)
        go_simp
        refine h0.mt.steps.mono ?_
        rintro e y ⟨rfl, rfl⟩
        refine hK.out _ _ (fun _ => hC) ?_
        clear hK K
        try simp only [Act.put, List.setIfInBounds_toArray, List.set_cons_zero, List.set_cons_succ]
        refine oneT (i := 3) (by kernel_rfl) rfl (by rfl) (fun K hK => ?_)
        go_simp
        refine (h0.mt.out (by omega)).mono ?_
        rintro e X1 ⟨v, rfl, hr1, b1⟩
        obtain ⟨A1, n1, d1, rfl⟩ := hr1.shape
        have hbX : Below wr.heap.size wr X1 := b0.trans (b1.mono b0.size)
        refine hK.out _ _ (fun _ => HC.out X1 hbX) ?_
        clear hK K hC
        have hC := HC.out X1 hbX
        try simp only [Act.put, List.setIfInBounds_toArray, List.set_cons_zero, List.set_cons_succ]
        refine takeT (i := 9) (v := ?_) rfl (by kernel_rfl) (by kernel_rfl) (by kernel_rfl) (by kernel_rfl) (fun _ _ _ h => h) hC (by rfl) ?_ ?_
        rotate_left
        · intro w hSw; (try dsimp only at hSw); go_simp; try (with_reducible rfl)
        try simp only [Act.put, List.setIfInBounds_toArray, List.set_cons_zero, List.set_cons_succ]
        refine takeT (i := 10) (v := ?_) rfl (by kernel_rfl) (by kernel_rfl) (by kernel_rfl) (by kernel_rfl) (fun _ _ _ h => h) hC (by rfl) ?_ ?_
        rotate_left
        · intro w hSw; (try dsimp only at hSw); go_simp; try (with_reducible rfl)
        try simp only [Act.put, List.setIfInBounds_toArray, List.set_cons_zero, List.set_cons_succ]
        refine takeT (i := 11) (v := ?_) rfl (by kernel_rfl) (by kernel_rfl) (by kernel_rfl) (by kernel_rfl) (fun _ _ _ h => h) hC (by rfl) ?_ ?_
        rotate_left
        · intro w hSw; (try dsimp only at hSw); go_simp; try (with_reducible rfl)
        try simp only [Act.put, List.setIfInBounds_toArray, List.set_cons_zero, List.set_cons_succ]
        refine doneT (by kernel_rfl) ?_
        have h1 := HT.out.below hbX
        have hb1 : Below w.heap.size w X1 := HBB.out.trans (hbX.mono HBB.out.size)
        have hs1 := hr1.sl
        have hrz : (if true = true then zs else []) = zs := rfl
        rw [hrz] at hs1
        have H1 := Lib.hid h1
        have HB1 := Lib.hid hb1
        have HS1 := Lib.hid hs1
        clear h1 hb1 hs1 hr1 b0 b1 hbX h0 HT HBB HC hC hrz
        have hmm : mo % 8 < 8 := Nat.mod_lt _ (by omega)
        go_wp2_with fail
        go_loopw [41] (fun i wr => ∃ q : Nat, q ≤ mo % 8 ∧ i = .int .u8 q ∧ X1 = wr) (fun i _ => mo % 8 - (intOf i).toNat)
        case atStart => exact ⟨0, by omega, rfl, rfl⟩
        case round =>
          obtain ⟨q, hq, rfl, rfl⟩ := hrel
          by_cases hlt2 : q < mo % 8
          · have i3 : (q : Int) < (mo : Int) % 8 := by omega
            go_wp2_with fail
            refine H1.out.stay.mono ?_
            rintro e y ⟨rfl, rfl⟩
            go_wp2_with fail
            refine H1.out.mt.done.mono ?_
            rintro e y ⟨rfl, rfl⟩
            go_wp2
            go_roundw
            case rel => exact ⟨q + 1, by omega, by go_num, by first | rfl | trivial⟩
            case measure => simp [intOf]; omega
          · have i3 : ¬ (q : Int) < (mo : Int) % 8 := by omega
            have hout := H1.out.mt.out (by omega)
            go_wp2_with fail
            refine hout.mono ?_
            clear hout
            rintro e X2 ⟨v, rfl, hr2, b2⟩
            have hr2' : Row 2 X1.heap.size X2 v zs := hr2
            obtain ⟨A2, n2, d2, rfl⟩ := hr2'.shape
            have hl2 : n2 = zs.length := hr2'.sl.len
            have H2 := Lib.hid (H1.out.below b2)
            have HB2 : Hid (Below w.heap.size w X2) := HB1.out.trans (b2.mono HB1.out.size)
            have HS2 := Lib.hid (HS1.out.below b2)
            have HR2 : Hid (Row 2 X1.heap.size X2 (.slice A2 n2 d2) zs) := hr2'
            have HBX := Lib.hid b2
            have HL2 := Lib.hid hl2
            have hn2 : n2 ≤ 30 := by omega
            clear hr2 hr2' b2 hl2
            go_wp2
            go_loopw [56] (fun i wr => ∃ (q : Nat) (ys : List Int), q ≤ n2 ∧ i = .int .i64 q ∧ ys.length = zs.length ∧ Row 2 X1.heap.size wr (.slice A2 n2 d2) ys ∧ Below X1.heap.size X1 wr) (fun i _ => n2 - (intOf i).toNat)
            case atStart => exact ⟨0, zs, by omega, rfl, rfl, HR2.out, HBX.out⟩
            case round =>
              clear HR2
              obtain ⟨q2, ys, hq2, rfl, hys, hrow, hbel⟩ := hrel
              by_cases hlt3 : q2 < n2
              · obtain ⟨g, cc, u, e1, hg1, hg2, hcc, hcu, hfz, hput⟩ := hrow.put (k := q2) (by have := HL2.out; omega)
                injection e1 with e1 e2 e3
                subst e1
                obtain ⟨b', off', e4, _, hat⟩ := hrow.sl.at0 hlt3
                injection e4 with e4
                injection e4 with e4 e5
                subst e4 e5
                rw [Nat.zero_add] at hat
                obtain ⟨p1, p2⟩ := hput (wrap64 (ys.getD q2 0 - 1))
                have hb4 : Below X1.heap.size X1 (wr.setCell ⟨g, q2, none⟩ (.int .i64 (wrap64 (ys.getD q2 0 - 1)))) := hbel.grown p2 hbel.size (fun b e => by injection e with e; subst e; exact hg1)
                have i4 : (q2 : Int) < (n2 : Int) := by omega
                have i5 : (0 : Int) ≤ (q2 : Int) := by omega
                have HP : Hid (Row 2 X1.heap.size (wr.setCell ⟨g, q2, none⟩ (.int .i64 (wrap64 (ys.getD q2 0 - 1)))) (.slice (some ⟨g, 0, none⟩) n2 d2) (ys.set q2 (wrap64 (ys.getD q2 0 - 1)))) := p1
                have HB4 := Lib.hid hb4
                have HYS : Hid (ys.length = zs.length) := hys
                clear hrow hput p1 p2 hcu hbel hb4 e2 e3 hys hcc
                generalize ys.getD q2 0 = z at *
                go_wp2
                go_roundw
                case rel => exact ⟨q2 + 1, ys.set q2 (wrap64 (z - 1)), by omega, by go_num, by rw [List.length_set]; exact HYS.out, by first | exact HP.out | simpa using HP.out, by first | exact HB4.out | simpa using HB4.out⟩
                case measure => simp [intOf]; omega
              · have i4 : ¬ (q2 : Int) < (n2 : Int) := by omega
                have h3 := H1.out.below hbel
                have hs3 := HS1.out.below hbel
                have hw3 : Below w.heap.size w wr := HB1.out.trans (hbel.mono HB1.out.size)
                obtain ⟨L3, hc3⟩ := h3.ce
                obtain ⟨AL3, nL3, cL3, rfl⟩ := hc3.row.shape
                have hlL3 : nL3 = l.length := hc3.row.sl.len
                have hlog3 := h3.log
                obtain rfl : nL3 = nL := by have := HL.out; omega
                have q3 := hc3.cells.2
                have hdn := h3.mt.done
                have hst := h3.mt.steps
                have hou := h3.mt.out (by omega)
                have HS3 := Lib.hid hs3
                have HW3 := Lib.hid hw3
                have HL4 := Lib.hid HL.out
                have hlen := hs3.len
                clear h3 hs3 hw3 hc3 hlL3 hlog3 hrow hbel hys HL2 HL
                have hz3 : (3 : Int) * (zs.length : Int) = (nL3 : Int) := by have := HL4.out; omega
                have HZ3 := Lib.hid hz3
                clear hz3 hlen
                generalize hzl : zs.length = zl at *
                have HZL := Lib.hid hzl
                clear hzl
                go_wp2_with fail
                refine hdn.mono ?_
                rintro e y ⟨rfl, rfl⟩
                clear hdn
                go_wp2_with fail
                refine hst.mono ?_
                rintro e y ⟨rfl, rfl⟩
                clear hst
                go_wp2_with fail
                refine hou.mono ?_
                rintro e X5 ⟨v, rfl, hr5, b5⟩
                have hr5' : Row 2 wr.heap.size X5 v zs := hr5
                obtain ⟨A5, n5, d5, rfl⟩ := hr5'.shape
                have hsm := same_walk A5 A1 n5 d5 n1 d1 zs zs X5 hr5'.sl (HS3.out.below b5) (by have h1 := hr5'.sl.len; have := HZL.out; omega)
                have HW5 : Hid (Below w.heap.size w X5) := HW3.out.trans (b5.mono HW3.out.size)
                rw [show decide (zs = zs) = true from decide_eq_true rfl] at hsm
                clear hou hr5 hr5' b5 q3
                go_wp2_with fail
                refine hsm.mono ?_
                rintro e X6 ⟨rfl, b6⟩
                have HW6 : Hid (Below w.heap.size w X6) := HW5.out.trans (b6.mono HW5.out.size)
                clear hsm b6
                have hz4 := HZ3.out
                have w3 : wrap64 (3 * (zl : Int)) = (nL3 : Int) := by rw [hz4]; exact IntWalk.wrap64_in _ (by omega)
                go_wp2
                go_ret
                exact ⟨by first | rfl | simp, HW6.out⟩
  · have i1 : (20 : Int) < (n : Int) := by omega
    go_wp2
    go_ret
    exact ⟨rfl, HB.out⟩
end Go.Proofs.Ytbjaojcffhkahaa
