/-
  The law ThreadRuns.
-/
import Derived.Test.YtbjaojcffhkahaaDs6
namespace Go.Proofs.Ytbjaojcffhkahaa
open Go.ChangeShapes Go.WideShapes Go.ChangeAt Go.RowKit
set_option linter.unusedVariables false
set_option linter.unusedSimpArgs false
set_option maxRecDepth 20000

theorem pg_below {w w' : World} {A : Option Addr} {n : Nat} {pr : List Tc} (h : Pg w.heap.size w A n pr) (hb : Below w.heap.size w w') : Pg w.heap.size w' A n pr := h.only (G := fun b => w.heap.size ≤ b) ⟨hb.os, hb.tape, hb.output, hb.size, fun b e hn => hb.block b (by omega)⟩ (fun b e => e)

set_option maxHeartbeats 8000000 in
theorem threadRuns_walk (A : Option Addr) (n cp : Nat) (pr : List Tc) (z : Int) (w : World) (hpg : Pg w.heap.size w A n pr) (hwf : (Lit.int .i8 z).wf = true) :
    Calls Try.prog 3 #[.slice A n cp, .int .i8 z] w fun e w' => e = .returned (.bool true) ∧ Below w.heap.size w w' := by
  have HPG := Lib.hid hpg
  have hzb := bounds_i8 hwf
  have hwz : IntKind.i64.wrap z = z := IntWalk.i64_in _ (by omega)
  clear hpg hwf hzb
  go_enter Try.func3, Try.ntmps3
  go_wp2_with fail
  refine (awake_walk w).mono ?_
  rintro e w1 ⟨rfl, b1⟩
  have HB := Lib.hid b1
  clear b1
  by_cases hn : n ≤ 30
  · have i1 : ¬ (30 : Int) < (n : Int) := by omega
    have hnew := DS.new (w0 := w) w1 z HB.out.size (A := A) (n := n) (cp := cp)
    go_wp2_with fail
    refine hnew.mono ?_
    clear hnew
    rintro e w2 ⟨a, rfl, FF, FC, FR, FD, h2, b2⟩
    have hw2 : Below w.heap.size w w2 := HB.out.trans (b2.mono HB.out.size)
    have hw3 := hw2.alloc (hw2.size) (.cells #[.slice A n cp, .int .i64 0, .slice none 0 0] rnT)
    clear b2 hw2 HB
    generalize hW3 : w2.alloc (.cells #[.slice A n cp, .int .i64 0, .slice none 0 0] rnT) = w3 at *
    generalize hr : w2.heap.size = r at *
    generalize hcb : w1.heap.size + 1 = cb at *
    generalize hca : w1.heap.size = ca at *
    have H2 := Lib.hid h2
    have HW := Lib.hid hw3
    clear h2 hw3 hca
    go_wp2
    clear hW3 hr hcb
    go_loopw [33] (fun i wr => ∃ (k : Nat) (zs : List Int) (N : Int) (l : List Int) (FF FC FR FD : Nat → Prop), k ≤ n + 1 ∧ i = .int .i64 k ∧ DS w a ca r cb A n cp k zs N l false zs N l FF FC FR FD wr ∧ Below w.heap.size w wr) (fun i _ => n + 1 - (intOf i).toNat)
    case atStart => exact ⟨0, [], z, [], FF, FC, FR, FD, by omega, rfl, H2.out, HW.out⟩
    case round =>
      clear H2 HW FF FC FR FD
      obtain ⟨k, zs, N, l, FF, FC, FR, FD, hk, rfl, hT, hb⟩ := hrel
      by_cases hlt : k < n + 1
      · have i2 : (k : Int) < (n : Int) + 1 := by omega
        have hst := hT.step (by omega) (pg_below HPG.out hb)
        have HT := Lib.hid hT
        have HBB := Lib.hid hb
        clear hT hb
        go_wp2_with fail
        refine hst.mono ?_
        rintro e w4 ⟨rfl, FF', FC', h4, o4, s4⟩
        have hb4 : Below w.heap.size w w4 := HBB.out.trans (o4.below (fun b e => HT.out.ts.geF b e) HBB.out.size)
        have hsh := HT.out.ts.short
        have hlg := HT.out.ts.log
        have HLN := Lib.hid (And.intro hsh hlg)
        clear hst HT HBB o4 s4 hsh hlg
        obtain ⟨fv, hfv⟩ : ∃ fv, decide (n ≤ pos (nxt pr zs N l).1) = fv := ⟨_, rfl⟩
        rw [hfv] at h4 ⊢
        have HFV := Lib.hid hfv
        clear hfv
        have H4 := Lib.hid h4
        have HB4 := Lib.hid hb4
        clear h4 hb4
        go_wp2_with fail
        refine region_T (fun _ => false) (fun _ => True) (by kernel_rfl) ?_
        have hC : True := trivial
        obtain ⟨X0, hX0, b0⟩ : ∃ X0 : World, w4.drew = X0 ∧ Below w4.heap.size w4 X0 := ⟨_, rfl, (Below.refl _ w4).drew⟩
        rw [hX0]
        clear hX0
        have h0 := H4.out.below b0
        have hb0 : Below w.heap.size w X0 := HB4.out.trans (b0.mono HB4.out.size)
        clear H4 HB4 b0
        refine takeD 0 38 (v := ?_) rfl rfl (by kernel_rfl) (by kernel_rfl) (by kernel_rfl) (by kernel_rfl) (fun _ _ _ _ h => h) hC (by rfl) ?_ ?_
        rotate_left
        · intro w hSw; (try dsimp only at hSw); go_simp; try (with_reducible rfl)
        simp only [List.setIfInBounds_toArray, List.set_cons_zero, List.set_cons_succ]
        refine takeD 1 39 (v := ?_) rfl rfl (by kernel_rfl) (by kernel_rfl) (by kernel_rfl) (by kernel_rfl) (fun _ _ _ _ h => h) hC (by rfl) ?_ ?_
        rotate_left
        · intro w hSw; (try dsimp only at hSw); go_simp; try (with_reducible rfl)
        simp only [List.setIfInBounds_toArray, List.set_cons_zero, List.set_cons_succ]
        refine takeD 2 40 (v := ?_) rfl rfl (by kernel_rfl) (by kernel_rfl) (by kernel_rfl) (by kernel_rfl) (fun _ _ _ _ h => h) hC (by rfl) ?_ ?_
        rotate_left
        · intro w hSw; (try dsimp only at hSw); go_simp; try (with_reducible rfl)
        simp only [List.setIfInBounds_toArray, List.set_cons_zero, List.set_cons_succ]
        refine oneT (i := 3) (by kernel_rfl) rfl (by rfl) (fun K hK => ?_)
        go_simp
        refine (h0.next (by omega) HLN.out.1 (by have := HLN.out.1; have := HLN.out.2; omega) (pg_below HPG.out hb0)).mono ?_
        rintro e X1 ⟨rfl, FR', FD', h1, o1, s1⟩
        rw [HFV.out]
        refine hK.out _ _ (fun _ => hC) ?_
        clear hK K
        try simp only [Act.put, List.setIfInBounds_toArray, List.set_cons_zero, List.set_cons_succ]
        have hb1 : Below w.heap.size w X1 := hb0.trans (o1.below (fun b e => h0.ge b e) hb0.size)
        have hsh1 := h1.ts.short
        have hlg1 := h1.ts.log
        clear h0 hb0 o1 s1
        refine oneT (i := 4) (by kernel_rfl) rfl (by rfl) (fun K hK => ?_)
        go_simp
        refine hK.out _ _ (fun _ => hC) ?_
        clear hK K
        try simp only [Act.put, List.setIfInBounds_toArray, List.set_cons_zero, List.set_cons_succ]
        refine oneT (i := 5) (by kernel_rfl) rfl (by rfl) (fun K hK => ?_)
        go_simp
        refine hK.out _ _ (fun _ => hC) ?_
        clear hK K
        try simp only [Act.put, List.setIfInBounds_toArray, List.set_cons_zero, List.set_cons_succ]
        obtain ⟨zs', N', l', hnx⟩ : ∃ zs' N' l', nxt pr zs N l = (zs', N', l') := ⟨_, _, _, rfl⟩
        rw [hnx] at h1 hsh1 hlg1
        simp only at h1 hsh1 hlg1
        have HF2 : Hid (decide (n ≤ pos zs') = fv) := by
          show _ = _
          have := HFV.out
          rw [hnx] at this
          exact this
        clear hnx HFV
        refine takeD 6 44 (v := ?_) rfl rfl (by kernel_rfl) (by kernel_rfl) (by kernel_rfl) (by kernel_rfl) (fun _ _ _ _ h => h) hC (by rfl) ?_ ?_
        rotate_left
        · intro w hSw; (try dsimp only at hSw); go_simp; try (with_reducible rfl)
        simp only [List.setIfInBounds_toArray, List.set_cons_zero, List.set_cons_succ]
        refine takeD 7 45 (v := ?_) rfl rfl (by kernel_rfl) (by kernel_rfl) (by kernel_rfl) (by kernel_rfl) (fun _ _ _ _ h => h) hC (by rfl) ?_ ?_
        rotate_left
        · intro w hSw; (try dsimp only at hSw); go_simp; try (with_reducible rfl)
        simp only [List.setIfInBounds_toArray, List.set_cons_zero, List.set_cons_succ]
        refine oneT (i := 8) (by kernel_rfl) rfl (by rfl) (fun K hK => ?_)
        go_simp
        refine h1.ts.mt.done.mono ?_
        rintro e y ⟨rfl, rfl⟩
        refine hK.out _ _ (fun _ => hC) ?_
        clear hK K
        try simp only [Act.put, List.setIfInBounds_toArray, List.set_cons_zero, List.set_cons_succ]
        refine oneT (i := 9) (by kernel_rfl) rfl (by rfl) (fun K hK => ?_)
        go_simp
        refine hK.out _ _ (fun _ => hC) ?_
        clear hK K
        try simp only [Act.put, List.setIfInBounds_toArray, List.set_cons_zero, List.set_cons_succ]
        refine oneT (i := 10) (by kernel_rfl) rfl (by rfl) (fun K hK => ?_)
        go_simp
        refine hK.out _ _ (fun _ => hC) ?_
        clear hK K
        try simp only [Act.put, List.setIfInBounds_toArray, List.set_cons_zero, List.set_cons_succ]
        refine oneT (i := 11) (by kernel_rfl) rfl (by rfl) (fun K hK => ?_)
        go_simp
        refine hK.out _ _ (fun _ => hC) ?_
        clear hK K
        try simp only [Act.put, List.setIfInBounds_toArray, List.set_cons_zero, List.set_cons_succ]
        obtain ⟨L1, hc1⟩ := h1.ts.ce
        obtain ⟨AL1, nL1, cL1, rfl⟩ := hc1.row.shape
        obtain ⟨L2, hc2⟩ := h1.cb
        obtain ⟨AL2, nL2, cL2, rfl⟩ := hc2.row.shape
        obtain ⟨R2, hr2⟩ := h1.rn
        obtain ⟨AR, nR, cR, rfl⟩ := hr2.row.shape
        have hnR : nR = zs'.length := hr2.row.sl.len
        have HC : Hid (∀ w', Below X1.heap.size X1 w' → w'.cell? ⟨ca, 1, none⟩ = some (.slice AL1 nL1 cL1) ∧ w'.cell? ⟨cb, 1, none⟩ = some (.slice AL2 nL2 cL2) ∧ w'.cell? ⟨r, 2, none⟩ = some (.slice AR nR cR)) := fun w' h => ⟨below_read h hc1.cells.2, below_read h hc2.cells.2, below_read h hr2.cells.2.2⟩
        refine narrowT (C := fun w' => w'.cell? ⟨ca, 1, none⟩ = some (.slice AL1 nL1 cL1) ∧ w'.cell? ⟨cb, 1, none⟩ = some (.slice AL2 nL2 cL2) ∧ w'.cell? ⟨r, 2, none⟩ = some (.slice AR nR cR)) (fun _ _ => trivial) _ _ _ _ ?_
        clear hC
        have hC := HC.out X1 (Below.refl _ _)
        have A1 := Lib.hid h1
        have A2 := Lib.hid hb1
        have A3 := Lib.hid hc1
        have A4 := Lib.hid hc2
        have A5 := Lib.hid hr2
        have A6 := Lib.hid hnR
        have A7 := Lib.hid hsh1
        have A8 := Lib.hid hlg1
        clear h1 hb1 hc1 hc2 hr2 hnR hsh1 hlg1
        refine takeD 12 50 (v := ?_) rfl rfl (by kernel_rfl) (by kernel_rfl) (by kernel_rfl) (by kernel_rfl) (fun _ _ _ _ h => h) hC (by rfl) ?_ ?_
        rotate_left
        · intro w hSw; (try dsimp only at hSw); go_simp; try (with_reducible rfl)
        simp only [List.setIfInBounds_toArray, List.set_cons_zero, List.set_cons_succ]
        refine takeD 13 51 (v := ?_) rfl rfl (by kernel_rfl) (by kernel_rfl) (by kernel_rfl) (by kernel_rfl) (fun _ _ _ _ h => h) hC (by rfl) ?_ ?_
        rotate_left
        · intro w hSw; (try dsimp only at hSw); go_simp; try (with_reducible rfl)
        simp only [List.setIfInBounds_toArray, List.set_cons_zero, List.set_cons_succ]
        refine takeD 14 52 (v := ?_) rfl rfl (by kernel_rfl) (by kernel_rfl) (by kernel_rfl) (by kernel_rfl) (fun _ _ _ _ h => h) hC (by rfl) ?_ ?_
        rotate_left
        · intro w hSw; (try dsimp only at hSw); go_simp; try (with_reducible rfl)
        simp only [List.setIfInBounds_toArray, List.set_cons_zero, List.set_cons_succ]
        refine takeD 15 53 (v := ?_) rfl rfl (by kernel_rfl) (by kernel_rfl) (by kernel_rfl) (by kernel_rfl) (fun _ _ _ _ h => h) hC (by rfl) ?_ ?_
        rotate_left
        · intro w hSw; (try dsimp only at hSw); go_simp; try (with_reducible rfl)
        simp only [List.setIfInBounds_toArray, List.set_cons_zero, List.set_cons_succ]
        refine takeD 16 54 (v := ?_) rfl rfl (by kernel_rfl) (by kernel_rfl) (by kernel_rfl) (by kernel_rfl) (fun _ _ _ _ h => h) hC (by rfl) ?_ ?_
        rotate_left
        · intro w hSw; (try dsimp only at hSw); go_simp; try (with_reducible rfl)
        simp only [List.setIfInBounds_toArray, List.set_cons_zero, List.set_cons_succ]
        refine takeD 17 55 (v := ?_) rfl rfl (by kernel_rfl) (by kernel_rfl) (by kernel_rfl) (by kernel_rfl) (fun _ _ _ _ h => h) hC (by rfl) ?_ ?_
        rotate_left
        · intro w hSw; (try dsimp only at hSw); go_simp; try (with_reducible rfl)
        simp only [List.setIfInBounds_toArray, List.set_cons_zero, List.set_cons_succ]
        refine takeD 18 56 (v := ?_) rfl rfl (by kernel_rfl) (by kernel_rfl) (by kernel_rfl) (by kernel_rfl) (fun _ _ _ _ h => h) hC (by rfl) ?_ ?_
        rotate_left
        · intro w hSw; (try dsimp only at hSw); go_simp; try (with_reducible rfl)
        simp only [List.setIfInBounds_toArray, List.set_cons_zero, List.set_cons_succ]
        refine takeD 19 57 (v := ?_) rfl rfl (by kernel_rfl) (by kernel_rfl) (by kernel_rfl) (by kernel_rfl) (fun _ _ _ _ h => h) hC (by rfl) ?_ ?_
        rotate_left
        · intro w hSw; (try dsimp only at hSw); go_simp; try (with_reducible rfl)
        simp only [List.setIfInBounds_toArray, List.set_cons_zero, List.set_cons_succ]
        refine oneT (i := 20) (by kernel_rfl) rfl (by rfl) (fun K hK => ?_)
        go_simp
        refine (same_walk AL1 AL2 nL1 cL1 nL2 cL2 l' l' X1 A3.out.row.sl A4.out.row.sl (by have h1 := A3.out.row.sl.len; have h2 := A7.out; have h3 := A8.out; omega)).mono ?_
        rintro e X2 ⟨rfl, b2⟩
        rw [show decide (l' = l') = true from decide_eq_true rfl]
        refine hK.out _ _ (fun _ => HC.out X2 b2) ?_
        clear hK K hC
        have hC := HC.out X2 b2
        try simp only [Act.put, List.setIfInBounds_toArray, List.set_cons_zero, List.set_cons_succ]
        have H2 := Lib.hid (A1.out.below b2)
        have HB2 : Hid (Below w.heap.size w X2) := A2.out.trans (b2.mono A2.out.size)
        have HR3 := Lib.hid (A5.out.below b2)
        clear A1 A2 A3 A4 A5 b2 HC
        refine oneT (i := 21) (by kernel_rfl) rfl (by rfl) (fun K hK => ?_)
        go_simp
        refine hK.out _ _ (fun _ => hC) ?_
        clear hK K
        try simp only [Act.put, List.setIfInBounds_toArray, List.set_cons_zero, List.set_cons_succ]
        refine oneT (i := 22) (by kernel_rfl) rfl (by rfl) (fun K hK => ?_)
        go_simp
        refine hK.out _ _ (fun _ => hC) ?_
        clear hK K
        try simp only [Act.put, List.setIfInBounds_toArray, List.set_cons_zero, List.set_cons_succ]
        refine oneT (i := 23) (by kernel_rfl) rfl (by rfl) (fun K hK => ?_)
        go_simp
        refine hK.out _ _ (fun _ => hC) ?_
        clear hK K
        try simp only [Act.put, List.setIfInBounds_toArray, List.set_cons_zero, List.set_cons_succ]
        refine takeD 24 62 (v := ?_) rfl rfl (by kernel_rfl) (by kernel_rfl) (by kernel_rfl) (by kernel_rfl) (fun _ _ _ _ h => h) hC (by rfl) ?_ ?_
        rotate_left
        · intro w hSw; (try dsimp only at hSw); go_simp; try (with_reducible rfl)
        simp only [List.setIfInBounds_toArray, List.set_cons_zero, List.set_cons_succ]
        refine takeD 26 64 (v := ?_) rfl rfl (by kernel_rfl) (by kernel_rfl) (by kernel_rfl) (by kernel_rfl) (fun _ _ _ _ h => h) hC (by rfl) ?_ ?_
        rotate_left
        · intro w hSw; (try dsimp only at hSw); go_simp; try (with_reducible rfl)
        simp only [List.setIfInBounds_toArray, List.set_cons_zero, List.set_cons_succ]
        refine takeD 27 65 (v := ?_) rfl rfl (by kernel_rfl) (by kernel_rfl) (by kernel_rfl) (by kernel_rfl) (fun _ _ _ _ h => h) hC (by rfl) ?_ ?_
        rotate_left
        · intro w hSw; (try dsimp only at hSw); go_simp; try (with_reducible rfl)
        simp only [List.setIfInBounds_toArray, List.set_cons_zero, List.set_cons_succ]
        refine takeD 28 66 (v := ?_) rfl rfl (by kernel_rfl) (by kernel_rfl) (by kernel_rfl) (by kernel_rfl) (fun _ _ _ _ h => h) hC (by rfl) ?_ ?_
        rotate_left
        · intro w hSw; (try dsimp only at hSw); go_simp; try (with_reducible rfl)
        simp only [List.setIfInBounds_toArray, List.set_cons_zero, List.set_cons_succ]
        refine takeD 29 67 (v := ?_) rfl rfl (by kernel_rfl) (by kernel_rfl) (by kernel_rfl) (by kernel_rfl) (fun _ _ _ _ h => h) hC (by rfl) ?_ ?_
        rotate_left
        · intro w hSw; (try dsimp only at hSw); go_simp; try (with_reducible rfl)
        simp only [List.setIfInBounds_toArray, List.set_cons_zero, List.set_cons_succ]
        refine takeD 30 68 (v := ?_) rfl rfl (by kernel_rfl) (by kernel_rfl) (by kernel_rfl) (by kernel_rfl) (fun _ _ _ _ h => h) hC (by rfl) ?_ ?_
        rotate_left
        · intro w hSw; (try dsimp only at hSw); go_simp; try (with_reducible rfl)
        simp only [List.setIfInBounds_toArray, List.set_cons_zero, List.set_cons_succ]
        refine oneT (i := 25) (by kernel_rfl) rfl (by rfl) (fun K hK => ?_)
        go_simp
        refine H2.out.ts.mt.steps.mono ?_
        rintro e y ⟨rfl, rfl⟩
        rw [← A6.out]
        refine hK.out _ _ (fun _ => hC) ?_
        clear hK K
        try simp only [Act.put, List.setIfInBounds_toArray, List.set_cons_zero, List.set_cons_succ]
        refine oneT (i := 31) (by kernel_rfl) rfl (by rfl) (fun K hK => ?_)
        go_simp
        refine hK.out _ _ (fun _ => hC) ?_
        clear hK K
        try simp only [Act.put, List.setIfInBounds_toArray, List.set_cons_zero, List.set_cons_succ]
        refine oneT (i := 32) (by kernel_rfl) rfl (by rfl) (fun K hK => ?_)
        go_simp
        refine hK.out _ _ (fun _ => hC) ?_
        clear hK K
        try simp only [Act.put, List.setIfInBounds_toArray, List.set_cons_zero, List.set_cons_succ]
        refine doneT (by kernel_rfl) ?_
        clear hC
        cases fv with
        | true =>
          have HC2 : Hid (∀ w', Below X2.heap.size X2 w' → w'.cell? ⟨r, 2, none⟩ = some (.slice AR nR cR)) := fun w' h => below_read h HR3.out.cells.2.2
          go_wp2_with fail
          refine region_T (fun _ => false) (fun w' => w'.cell? ⟨r, 2, none⟩ = some (.slice AR nR cR)) (by kernel_rfl) ?_
          obtain ⟨X3, hX3, b3⟩ : ∃ X3 : World, X2.drew = X3 ∧ Below X2.heap.size X2 X3 := ⟨_, rfl, (Below.refl _ X2).drew⟩
          rw [hX3]
          clear hX3
          have hC := HC2.out X3 b3
          refine takeD 0 72 (v := ?_) rfl rfl (by kernel_rfl) (by kernel_rfl) (by kernel_rfl) (by kernel_rfl) (fun _ _ _ _ h => h) hC (by rfl) ?_ ?_
          rotate_left
          · intro w hSw; (try dsimp only at hSw); go_simp; try (with_reducible rfl)
          simp only [List.setIfInBounds_toArray, List.set_cons_zero, List.set_cons_succ]
          refine takeD 2 74 (v := ?_) rfl rfl (by kernel_rfl) (by kernel_rfl) (by kernel_rfl) (by kernel_rfl) (fun _ _ _ _ h => h) hC (by rfl) ?_ ?_
          rotate_left
          · intro w hSw; (try dsimp only at hSw); go_simp; try (with_reducible rfl)
          simp only [List.setIfInBounds_toArray, List.set_cons_zero, List.set_cons_succ]
          refine takeD 3 75 (v := ?_) rfl rfl (by kernel_rfl) (by kernel_rfl) (by kernel_rfl) (by kernel_rfl) (fun _ _ _ _ h => h) hC (by rfl) ?_ ?_
          rotate_left
          · intro w hSw; (try dsimp only at hSw); go_simp; try (with_reducible rfl)
          simp only [List.setIfInBounds_toArray, List.set_cons_zero, List.set_cons_succ]
          refine takeD 4 76 (v := ?_) rfl rfl (by kernel_rfl) (by kernel_rfl) (by kernel_rfl) (by kernel_rfl) (fun _ _ _ _ h => h) hC (by rfl) ?_ ?_
          rotate_left
          · intro w hSw; (try dsimp only at hSw); go_simp; try (with_reducible rfl)
          simp only [List.setIfInBounds_toArray, List.set_cons_zero, List.set_cons_succ]
          refine takeD 5 77 (v := ?_) rfl rfl (by kernel_rfl) (by kernel_rfl) (by kernel_rfl) (by kernel_rfl) (fun _ _ _ _ h => h) hC (by rfl) ?_ ?_
          rotate_left
          · intro w hSw; (try dsimp only at hSw); go_simp; try (with_reducible rfl)
          simp only [List.setIfInBounds_toArray, List.set_cons_zero, List.set_cons_succ]
          refine oneT (i := 1) (by kernel_rfl) rfl (by rfl) (fun K hK => ?_)
          go_simp
          refine ((H2.out.below b3).ts.mt.out (by have := A7.out; omega)).mono ?_
          rintro e X5 ⟨v, rfl, hr5, b5⟩
          have hr5' : Row 2 X3.heap.size X5 v zs' := hr5
          obtain ⟨A5, n5, d5, rfl⟩ := hr5'.shape
          have b35 : Below X2.heap.size X2 X5 := b3.trans (b5.mono b3.size)
          refine hK.out _ _ (fun _ => HC2.out X5 b35) ?_
          clear hK K hC hr5
          have hC := HC2.out X5 b35
          try simp only [Act.put, List.setIfInBounds_toArray, List.set_cons_zero, List.set_cons_succ]
          have HS5 := Lib.hid hr5'.sl
          have HS6 := Lib.hid (HR3.out.row.sl.below b35)
          have HB5 : Hid (Below w.heap.size w X5) := HB2.out.trans (b35.mono HB2.out.size)
          clear hr5' b5 b35 b3
          refine oneT (i := 6) (by kernel_rfl) rfl (by rfl) (fun K hK => ?_)
          go_simp
          refine (same_walk A5 AR n5 d5 nR cR zs' zs' X5 HS5.out HS6.out (by have h1 := HS5.out.len; have h2 := A7.out; omega)).mono ?_
          rintro e X6 ⟨rfl, b6⟩
          rw [show decide (zs' = zs') = true from decide_eq_true rfl]
          refine hK.out _ _ (fun _ => below_read b6 hC) ?_
          clear hK K
          replace hC := below_read b6 hC
          have HB6 : Hid (Below w.heap.size w X6) := HB5.out.trans (b6.mono HB5.out.size)
          clear b6
          try simp only [Act.put, List.setIfInBounds_toArray, List.set_cons_zero, List.set_cons_succ]
          refine oneT (i := 7) (by kernel_rfl) rfl (by rfl) (fun K hK => ?_)
          go_simp
          refine hK.out _ _ (fun _ => hC) ?_
          clear hK K
          try simp only [Act.put, List.setIfInBounds_toArray, List.set_cons_zero, List.set_cons_succ]
          refine doneT (by kernel_rfl) ?_
          clear hC
          go_wp2
          go_ret
          exact ⟨rfl, HB6.out⟩
        | false =>
          have hcn := H2.out.ts.cnt rfl
          have hout := H2.out.ts.mt.out (by have := A7.out; omega)
          have HCN := Lib.hid hcn
          clear hcn
          go_wp2_with fail
          refine hout.mono ?_
          rintro e X5 ⟨v, rfl, hr5, b5⟩
          clear hout
          have hr5' : Row 2 X2.heap.size X5 v [] := hr5
          obtain ⟨A5, n5, d5, rfl⟩ := hr5'.shape
          obtain rfl : n5 = 0 := hr5'.sl.len
          have H5 := Lib.hid (H2.out.below b5)
          have HB5 : Hid (Below w.heap.size w X5) := HB2.out.trans (b5.mono HB2.out.size)
          clear hr5 hr5' b5
          go_wp2_with fail
          refine H5.out.ts.mt.steps.mono ?_
          rintro e y ⟨rfl, rfl⟩
          rw [HCN.out]
          go_wp2
          go_roundw
          case rel => exact ⟨k + 1, zs', N', l', FF', FC', FR', FD', by omega, by go_num, H5.out, HB5.out⟩
          case measure => simp [intOf]; omega
      · exfalso
        have := hT.ts.ends (by omega)
        cases this
  · have i1 : (30 : Int) < (n : Int) := by omega
    go_wp2
    go_ret
    exact ⟨rfl, HB.out⟩
end Go.Proofs.Ytbjaojcffhkahaa
