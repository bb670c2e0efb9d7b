/-
  The law ThreadOutside.
-/
import Derived.Test.YtbjaojcffhkahaaLawR
namespace Go.Proofs.Ytbjaojcffhkahaa
open Go.ChangeShapes Go.WideShapes Go.ChangeAt Go.RowKit
set_option linter.unusedVariables false
set_option linter.unusedSimpArgs false
set_option maxRecDepth 20000

section
variable {FF FC FR FD : Nat → Prop} {w0 w : World} {a ca r cb n cp k : Nat} {zs l zs2 l2 : List Int} {N N2 : Int} {A : Option Addr} {fin : Bool}
theorem DS.more (h : DS w0 a ca r cb A n cp k zs N l true zs2 N2 l2 FF FC FR FD w) (k' : Nat) : DS w0 a ca r cb A n cp k' zs N l true zs2 N2 l2 FF FC FR FD w := ⟨h.ts.more k', h.rn, h.cb, h.d1, h.d2, h.ge⟩
end

set_option maxHeartbeats 8000000 in
theorem threadOutside_walk (A : Option Addr) (n cp : Nat) (pr : List Tc) (w : World) (hpg : Pg w.heap.size w A n pr) :
    Calls Try.prog 7 #[.slice A n cp] w fun e w' => e = .returned (.bool true) ∧ Below w.heap.size w w' := by
  have hmf := mk_fn
  have HPG := Lib.hid hpg
  clear hpg
  go_enter Try.func7, Try.ntmps7
  go_wp2_with fail
  refine (awake_walk w).mono ?_
  rintro e w1 ⟨rfl, b1⟩
  have HB := Lib.hid b1
  clear b1
  by_cases hn : n ≤ 20
  · have i1 : ¬ (20 : Int) < (n : Int) := by omega
    have hnew := DS.new (w0 := w) w1 0 HB.out.size (A := A) (n := n) (cp := cp)
    go_wp2_with fail
    refine hnew.mono ?_
    clear hnew
    rintro e w2 ⟨a, rfl, FF, FC, FR, FD, h2, b2⟩
    have hw2 : Below w.heap.size w w2 := HB.out.trans (b2.mono HB.out.size)
    have hw3 := hw2.alloc (hw2.size) (.cells #[.slice A n cp, .int .i64 0, .slice none 0 0] rnT)
    clear b2 hw2 HB
    obtain ⟨w3, hW3⟩ : ∃ w3, w2.alloc (.cells #[.slice A n cp, .int .i64 0, .slice none 0 0] rnT) = w3 := ⟨_, rfl⟩
    rw [hW3] at h2 hw3
    have z3 : w3.heap.size = w2.heap.size + 1 := by rw [← hW3]; simp
    obtain ⟨w4, hW4, b4, c4⟩ : ∃ w4, w3.alloc (.cells #[.int .i64 0] 3) = w4 ∧ Below w3.heap.size w3 w4 ∧ w4.cell? ⟨w3.heap.size, 0, none⟩ = some (.int .i64 0) := ⟨_, rfl, below_new _ _, c_new rfl rfl⟩
    have h4 := h2.below b4
    have hw4 : Below w.heap.size w w4 := hw3.trans (b4.mono hw3.size)
    have hBn : ∀ b, (FF b ∨ FC b) ∨ (FR b ∨ FD b) → ¬ b = w3.heap.size := fun b e e2 => by have := h2.lt b e; omega
    have HW4 : Hid (w4 = (w2.alloc (.cells #[.slice A n cp, .int .i64 0, .slice none 0 0] rnT)).alloc (.cells #[.int .i64 0] 3)) := by show _ = _; rw [hW3, hW4]
    have HZ := Lib.hid z3
    have H4 := Lib.hid h4
    have HW := Lib.hid hw4
    have HC4 := Lib.hid c4
    have HBN := Lib.hid hBn
    have HLW := Lib.hid hw3.size
    clear h2 hw3 h4 hw4 b4 c4 hBn hW3 hW4 z3
    generalize hcb : w1.heap.size + 1 = cb at *
    generalize hca : w1.heap.size = ca at *
    have HCB := Lib.hid hcb
    clear hca hcb
    go_wp2
    rw [← HW4.out]
    rw [← HZ.out]
    clear HZ HW4 HCB
    generalize w3.heap.size = Bn at *
    generalize w2.heap.size = r at *
    go_loopw [26] (fun i wr => ∃ (k : Nat) (zs : List Int) (N : Int) (l : List Int) (fin : Bool) (FF FC FR FD : Nat → Prop), k ≤ n + 2 ∧ i = .int .i64 k ∧ DS w a ca r cb A n cp k zs N l fin zs N l FF FC FR FD wr ∧ Below w.heap.size w wr ∧ wr.cell? ⟨Bn, 0, none⟩ = some (.int .i64 0) ∧ ∀ b, (FF b ∨ FC b) ∨ (FR b ∨ FD b) → ¬ b = Bn) (fun i _ => n + 2 - (intOf i).toNat)
    case atStart => exact ⟨0, [], 0, [], false, FF, FC, FR, FD, by omega, rfl, H4.out, HW.out, HC4.out, HBN.out⟩
    case round =>
      clear H4 HW HC4 HBN FF FC FR FD
      obtain ⟨k, zs, N, l, fin, FF, FC, FR, FD, hk, rfl, hT, hb, hcn, hbn⟩ := hrel
      by_cases hlt : k < n + 2
      · have i2 : (k : Int) < (n : Int) + 2 := by omega
        have HT := Lib.hid hT
        have HBB := Lib.hid hb
        have HCN := Lib.hid hcn
        have HBN := Lib.hid hbn
        clear hT hb hbn hcn
        go_wp2_with fail
        refine (HT.out.ts.mt.doOut _ _ _).mono ?_
        rintro e y ⟨rfl, rfl⟩
        go_wp2_with fail
        refine (HT.out.ts.mt.askOut _ _ _).mono ?_
        rintro e w5 ⟨rfl, b5⟩
        have H5 := Lib.hid (HT.out.below b5)
        have hc5 := below_read b5 HCN.out
        have HB5 : Hid (Below w.heap.size w w5) := HBB.out.trans (b5.mono HBB.out.size)
        clear HT HBB HCN b5
        go_wp2_with fail
        refine H5.out.ts.mt.done.mono ?_
        rintro e y ⟨rfl, rfl⟩
        cases fin with
        | true =>
          have HC5 := Lib.hid hc5
          clear hc5
          go_wp2
          go_roundw
          case rel => exact ⟨k + 1, zs, N, l, true, FF, FC, FR, FD, by omega, by go_num, H5.out.more (k + 1), HB5.out, HC5.out, HBN.out⟩
          case measure => simp [intOf]; omega
        | false =>
          have hst := H5.out.step (by omega) (pg_below HPG.out HB5.out)
          have HC5 := Lib.hid hc5
          clear hc5
          go_wp2_with fail
          refine hst.mono ?_
          rintro e w6 ⟨rfl, FF', FC', h6, o6, s6⟩
          have HLN := Lib.hid (And.intro H5.out.ts.short H5.out.ts.log)
          have hb6 : Below w.heap.size w w6 := HB5.out.trans (o6.below (fun b e => H5.out.ts.geF b e) HB5.out.size)
          have hc6 := only_read o6 (fun e => HBN.out Bn (.inl e) rfl) HC5.out
          have hlB : Bn < w5.heap.size := World.block_lt_of_cell? w5 _ HC5.out
          have hnx := h6.next (by omega) HLN.out.1 (by have := HLN.out.1; have := HLN.out.2; omega) (pg_below HPG.out hb6)
          have HG : Hid (∀ b, FR b ∨ FD b → w.heap.size ≤ b) := h6.ge
          have HS6 := Lib.hid s6
          have HLT := Lib.hid (show w5.heap.size ≤ w6.heap.size from o6.size)
          have HC6 := Lib.hid hc6
          have HB6 := Lib.hid hb6
          obtain ⟨fv, hfv⟩ : ∃ fv, decide (n ≤ pos (nxt pr zs N l).1) = fv := ⟨_, rfl⟩
          rw [hfv] at hnx ⊢
          clear hst o6 s6 hb6 h6 hc6 HC5 HB5 H5 hfv
          go_wp2_with fail
          refine hnx.mono ?_
          clear hnx
          rintro e w7 ⟨rfl, FR', FD', h7, o7, s7⟩
          have H7 := Lib.hid h7
          have HB7 : Hid (Below w.heap.size w w7) := HB6.out.trans (o7.below (fun b e => HG.out b e) HB6.out.size)
          have HC7 : Hid (w7.cell? ⟨Bn, 0, none⟩ = some (.int .i64 0)) := only_read o7 (fun e => HBN.out Bn (.inr e) rfl) HC6.out
          have HBN7 : Hid (∀ b, (FF' b ∨ FC' b) ∨ (FR' b ∨ FD' b) → ¬ b = Bn) := fun b e e2 => by
            subst e2
            rcases e with e | e
            · rcases HS6.out _ e with e3 | e3
              · exact HBN.out _ (.inl e3) rfl
              · omega
            · rcases s7 _ e with e3 | e3
              · exact HBN.out _ (.inr e3) rfl
              · have := HLT.out; omega
          clear h7 o7 s7
          go_wp2
          go_roundw
          case rel => exact ⟨k + 1, _, _, _, fv, FF', FC', FR', FD', by omega, by go_num, H7.out, HB7.out, HC7.out, HBN7.out⟩
          case measure => simp [intOf]; omega
      · have i2 : ¬ (k : Int) < (n : Int) + 2 := by omega
        have hf := hT.ts.ends (by omega)
        subst hf
        obtain ⟨L1, hc1⟩ := hT.ts.ce
        obtain ⟨AL1, nL1, cL1, rfl⟩ := hc1.row.shape
        obtain ⟨L2, hc2⟩ := hT.cb
        obtain ⟨AL2, nL2, cL2, rfl⟩ := hc2.row.shape
        obtain ⟨R2, hr2⟩ := hT.rn
        obtain ⟨AR, nR, cR, rfl⟩ := hr2.row.shape
        have hnR : nR = zs.length := hr2.row.sl.len
        have HC : Hid (∀ w', Below wr.heap.size wr w' → w'.cell? ⟨ca, 1, none⟩ = some (.slice AL1 nL1 cL1) ∧ w'.cell? ⟨cb, 1, none⟩ = some (.slice AL2 nL2 cL2) ∧ w'.cell? ⟨r, 2, none⟩ = some (.slice AR nR cR)) := fun w' h => ⟨below_read h hc1.cells.2, below_read h hc2.cells.2, below_read h hr2.cells.2.2⟩
        have A1 := Lib.hid hT
        have A2 := Lib.hid hb
        have A3 := Lib.hid hc1
        have A4 := Lib.hid hc2
        have A5 := Lib.hid hr2
        have A6 := Lib.hid hnR
        have A7 := Lib.hid hT.ts.short
        have A8 := Lib.hid hT.ts.log
        clear hT hb hc1 hc2 hr2 hnR hcn hbn
        go_wp2_with fail
        refine region_T (fun _ => false) (fun w' => w'.cell? ⟨ca, 1, none⟩ = some (.slice AL1 nL1 cL1) ∧ w'.cell? ⟨cb, 1, none⟩ = some (.slice AL2 nL2 cL2) ∧ w'.cell? ⟨r, 2, none⟩ = some (.slice AR nR cR)) (by kernel_rfl) ?_
        obtain ⟨X0, hX0, b0⟩ : ∃ X0 : World, wr.drew = X0 ∧ Below wr.heap.size wr X0 := ⟨_, rfl, (Below.refl _ wr).drew⟩
        rw [hX0]
        clear hX0
        have hC := HC.out X0 b0
        have B1 := Lib.hid (A1.out.below b0)
        have HXB := Lib.hid b0
        clear b0
        refine takeD 0 53 (v := ?_) rfl rfl (by kernel_rfl) (by kernel_rfl) (by kernel_rfl) (by kernel_rfl) (fun _ _ _ _ h => h) hC (by rfl) ?_ ?_
        rotate_left
        · intro w hSw; (try dsimp only at hSw); go_simp; try (with_reducible rfl)
        simp only [List.setIfInBounds_toArray, List.set_cons_zero, List.set_cons_succ]
        refine oneT (i := 1) (by kernel_rfl) rfl (by rfl) (fun K hK => ?_)
        go_simp
        refine B1.out.ts.mt.done.mono ?_
        rintro e y ⟨rfl, rfl⟩
        refine hK.out _ _ (fun _ => hC) ?_
        clear hK K
        try simp only [Act.put, List.setIfInBounds_toArray, List.set_cons_zero, List.set_cons_succ]
        refine oneT (i := 2) (by kernel_rfl) rfl (by rfl) (fun K hK => ?_)
        go_simp
        refine hK.out _ _ (fun _ => hC) ?_
        clear hK K
        try simp only [Act.put, List.setIfInBounds_toArray, List.set_cons_zero, List.set_cons_succ]
        refine takeD 3 56 (v := ?_) rfl rfl (by kernel_rfl) (by kernel_rfl) (by kernel_rfl) (by kernel_rfl) (fun _ _ _ _ h => h) hC (by rfl) ?_ ?_
        rotate_left
        · intro w hSw; (try dsimp only at hSw); go_simp; try (with_reducible rfl)
        simp only [List.setIfInBounds_toArray, List.set_cons_zero, List.set_cons_succ]
        refine takeD 5 58 (v := ?_) rfl rfl (by kernel_rfl) (by kernel_rfl) (by kernel_rfl) (by kernel_rfl) (fun _ _ _ _ h => h) hC (by rfl) ?_ ?_
        rotate_left
        · intro w hSw; (try dsimp only at hSw); go_simp; try (with_reducible rfl)
        simp only [List.setIfInBounds_toArray, List.set_cons_zero, List.set_cons_succ]
        refine takeD 6 59 (v := ?_) rfl rfl (by kernel_rfl) (by kernel_rfl) (by kernel_rfl) (by kernel_rfl) (fun _ _ _ _ h => h) hC (by rfl) ?_ ?_
        rotate_left
        · intro w hSw; (try dsimp only at hSw); go_simp; try (with_reducible rfl)
        simp only [List.setIfInBounds_toArray, List.set_cons_zero, List.set_cons_succ]
        refine takeD 7 60 (v := ?_) rfl rfl (by kernel_rfl) (by kernel_rfl) (by kernel_rfl) (by kernel_rfl) (fun _ _ _ _ h => h) hC (by rfl) ?_ ?_
        rotate_left
        · intro w hSw; (try dsimp only at hSw); go_simp; try (with_reducible rfl)
        simp only [List.setIfInBounds_toArray, List.set_cons_zero, List.set_cons_succ]
        refine takeD 8 61 (v := ?_) rfl rfl (by kernel_rfl) (by kernel_rfl) (by kernel_rfl) (by kernel_rfl) (fun _ _ _ _ h => h) hC (by rfl) ?_ ?_
        rotate_left
        · intro w hSw; (try dsimp only at hSw); go_simp; try (with_reducible rfl)
        simp only [List.setIfInBounds_toArray, List.set_cons_zero, List.set_cons_succ]
        refine takeD 9 62 (v := ?_) rfl rfl (by kernel_rfl) (by kernel_rfl) (by kernel_rfl) (by kernel_rfl) (fun _ _ _ _ h => h) hC (by rfl) ?_ ?_
        rotate_left
        · intro w hSw; (try dsimp only at hSw); go_simp; try (with_reducible rfl)
        simp only [List.setIfInBounds_toArray, List.set_cons_zero, List.set_cons_succ]
        refine oneT (i := 4) (by kernel_rfl) rfl (by rfl) (fun K hK => ?_)
        go_simp
        refine B1.out.ts.mt.steps.mono ?_
        rintro e y ⟨rfl, rfl⟩
        rw [← A6.out]
        refine hK.out _ _ (fun _ => hC) ?_
        clear hK K
        try simp only [Act.put, List.setIfInBounds_toArray, List.set_cons_zero, List.set_cons_succ]
        refine oneT (i := 10) (by kernel_rfl) rfl (by rfl) (fun K hK => ?_)
        go_simp
        refine hK.out _ _ (fun _ => hC) ?_
        clear hK K
        try simp only [Act.put, List.setIfInBounds_toArray, List.set_cons_zero, List.set_cons_succ]
        refine oneT (i := 11) (by kernel_rfl) rfl (by rfl) (fun K hK => ?_)
        go_simp
        refine hK.out _ _ (fun _ => hC) ?_
        clear hK K
        try simp only [Act.put, List.setIfInBounds_toArray, List.set_cons_zero, List.set_cons_succ]
        refine oneT (i := 12) (by kernel_rfl) rfl (by rfl) (fun K hK => ?_)
        go_simp
        refine hK.out _ _ (fun _ => hC) ?_
        clear hK K
        try simp only [Act.put, List.setIfInBounds_toArray, List.set_cons_zero, List.set_cons_succ]
        refine takeD 13 66 (v := ?_) rfl rfl (by kernel_rfl) (by kernel_rfl) (by kernel_rfl) (by kernel_rfl) (fun _ _ _ _ h => h) hC (by rfl) ?_ ?_
        rotate_left
        · intro w hSw; (try dsimp only at hSw); go_simp; try (with_reducible rfl)
        simp only [List.setIfInBounds_toArray, List.set_cons_zero, List.set_cons_succ]
        refine takeD 14 67 (v := ?_) rfl rfl (by kernel_rfl) (by kernel_rfl) (by kernel_rfl) (by kernel_rfl) (fun _ _ _ _ h => h) hC (by rfl) ?_ ?_
        rotate_left
        · intro w hSw; (try dsimp only at hSw); go_simp; try (with_reducible rfl)
        simp only [List.setIfInBounds_toArray, List.set_cons_zero, List.set_cons_succ]
        refine takeD 15 68 (v := ?_) rfl rfl (by kernel_rfl) (by kernel_rfl) (by kernel_rfl) (by kernel_rfl) (fun _ _ _ _ h => h) hC (by rfl) ?_ ?_
        rotate_left
        · intro w hSw; (try dsimp only at hSw); go_simp; try (with_reducible rfl)
        simp only [List.setIfInBounds_toArray, List.set_cons_zero, List.set_cons_succ]
        refine takeD 16 69 (v := ?_) rfl rfl (by kernel_rfl) (by kernel_rfl) (by kernel_rfl) (by kernel_rfl) (fun _ _ _ _ h => h) hC (by rfl) ?_ ?_
        rotate_left
        · intro w hSw; (try dsimp only at hSw); go_simp; try (with_reducible rfl)
        simp only [List.setIfInBounds_toArray, List.set_cons_zero, List.set_cons_succ]
        refine takeD 17 70 (v := ?_) rfl rfl (by kernel_rfl) (by kernel_rfl) (by kernel_rfl) (by kernel_rfl) (fun _ _ _ _ h => h) hC (by rfl) ?_ ?_
        rotate_left
        · intro w hSw; (try dsimp only at hSw); go_simp; try (with_reducible rfl)
        simp only [List.setIfInBounds_toArray, List.set_cons_zero, List.set_cons_succ]
        refine takeD 18 71 (v := ?_) rfl rfl (by kernel_rfl) (by kernel_rfl) (by kernel_rfl) (by kernel_rfl) (fun _ _ _ _ h => h) hC (by rfl) ?_ ?_
        rotate_left
        · intro w hSw; (try dsimp only at hSw); go_simp; try (with_reducible rfl)
        simp only [List.setIfInBounds_toArray, List.set_cons_zero, List.set_cons_succ]
        refine takeD 19 72 (v := ?_) rfl rfl (by kernel_rfl) (by kernel_rfl) (by kernel_rfl) (by kernel_rfl) (fun _ _ _ _ h => h) hC (by rfl) ?_ ?_
        rotate_left
        · intro w hSw; (try dsimp only at hSw); go_simp; try (with_reducible rfl)
        simp only [List.setIfInBounds_toArray, List.set_cons_zero, List.set_cons_succ]
        refine takeD 20 73 (v := ?_) rfl rfl (by kernel_rfl) (by kernel_rfl) (by kernel_rfl) (by kernel_rfl) (fun _ _ _ _ h => h) hC (by rfl) ?_ ?_
        rotate_left
        · intro w hSw; (try dsimp only at hSw); go_simp; try (with_reducible rfl)
        simp only [List.setIfInBounds_toArray, List.set_cons_zero, List.set_cons_succ]
        refine oneT (i := 21) (by kernel_rfl) rfl (by rfl) (fun K hK => ?_)
        go_simp
        refine (same_walk AL1 AL2 nL1 cL1 nL2 cL2 l l X0 (A3.out.below HXB.out).row.sl (A4.out.below HXB.out).row.sl (by have h1 := A3.out.row.sl.len; have h2 := A7.out; have h3 := A8.out; omega)).mono ?_
        rintro e X2 ⟨rfl, b2⟩
        rw [show decide (l = l) = true from decide_eq_true rfl]
        have b02 : Below wr.heap.size wr X2 := HXB.out.trans (b2.mono HXB.out.size)
        refine hK.out _ _ (fun _ => HC.out X2 b02) ?_
        clear hK K hC
        have hC := HC.out X2 b02
        try simp only [Act.put, List.setIfInBounds_toArray, List.set_cons_zero, List.set_cons_succ]
        have B2 := Lib.hid (B1.out.below b2)
        have HX2 := Lib.hid b02
        clear B1 HXB b2 b02
        refine oneT (i := 22) (by kernel_rfl) rfl (by rfl) (fun K hK => ?_)
        go_simp
        refine hK.out _ _ (fun _ => hC) ?_
        clear hK K
        try simp only [Act.put, List.setIfInBounds_toArray, List.set_cons_zero, List.set_cons_succ]
        refine oneT (i := 23) (by kernel_rfl) rfl (by rfl) (fun K hK => ?_)
        go_simp
        refine hK.out _ _ (fun _ => hC) ?_
        clear hK K
        try simp only [Act.put, List.setIfInBounds_toArray, List.set_cons_zero, List.set_cons_succ]
        refine takeD 24 77 (v := ?_) rfl rfl (by kernel_rfl) (by kernel_rfl) (by kernel_rfl) (by kernel_rfl) (fun _ _ _ _ h => h) hC (by rfl) ?_ ?_
        rotate_left
        · intro w hSw; (try dsimp only at hSw); go_simp; try (with_reducible rfl)
        simp only [List.setIfInBounds_toArray, List.set_cons_zero, List.set_cons_succ]
        refine takeD 26 79 (v := ?_) rfl rfl (by kernel_rfl) (by kernel_rfl) (by kernel_rfl) (by kernel_rfl) (fun _ _ _ _ h => h) hC (by rfl) ?_ ?_
        rotate_left
        · intro w hSw; (try dsimp only at hSw); go_simp; try (with_reducible rfl)
        simp only [List.setIfInBounds_toArray, List.set_cons_zero, List.set_cons_succ]
        refine takeD 27 80 (v := ?_) rfl rfl (by kernel_rfl) (by kernel_rfl) (by kernel_rfl) (by kernel_rfl) (fun _ _ _ _ h => h) hC (by rfl) ?_ ?_
        rotate_left
        · intro w hSw; (try dsimp only at hSw); go_simp; try (with_reducible rfl)
        simp only [List.setIfInBounds_toArray, List.set_cons_zero, List.set_cons_succ]
        refine takeD 28 81 (v := ?_) rfl rfl (by kernel_rfl) (by kernel_rfl) (by kernel_rfl) (by kernel_rfl) (fun _ _ _ _ h => h) hC (by rfl) ?_ ?_
        rotate_left
        · intro w hSw; (try dsimp only at hSw); go_simp; try (with_reducible rfl)
        simp only [List.setIfInBounds_toArray, List.set_cons_zero, List.set_cons_succ]
        refine takeD 29 82 (v := ?_) rfl rfl (by kernel_rfl) (by kernel_rfl) (by kernel_rfl) (by kernel_rfl) (fun _ _ _ _ h => h) hC (by rfl) ?_ ?_
        rotate_left
        · intro w hSw; (try dsimp only at hSw); go_simp; try (with_reducible rfl)
        simp only [List.setIfInBounds_toArray, List.set_cons_zero, List.set_cons_succ]
        refine oneT (i := 25) (by kernel_rfl) rfl (by rfl) (fun K hK => ?_)
        go_simp
        refine (B2.out.ts.mt.out (by have := A7.out; omega)).mono ?_
        rintro e X5 ⟨v, rfl, hr5, b5⟩
        have hr5' : Row 2 X2.heap.size X5 v zs := hr5
        obtain ⟨Q5, n5, d5, rfl⟩ := hr5'.shape
        have b35 : Below wr.heap.size wr X5 := HX2.out.trans (b5.mono HX2.out.size)
        refine hK.out _ _ (fun _ => HC.out X5 b35) ?_
        clear hK K hC hr5
        have hC := HC.out X5 b35
        try simp only [Act.put, List.setIfInBounds_toArray, List.set_cons_zero, List.set_cons_succ]
        have HS5 := Lib.hid hr5'.sl
        have HS6 := Lib.hid (A5.out.below b35).row.sl
        have HB5 : Hid (Below w.heap.size w X5) := A2.out.trans (b35.mono A2.out.size)
        have HX5 := Lib.hid b35
        clear hr5' b5 b35
        refine oneT (i := 30) (by kernel_rfl) rfl (by rfl) (fun K hK => ?_)
        go_simp
        refine (same_walk Q5 AR n5 d5 nR cR zs zs X5 HS5.out HS6.out (by have h1 := HS5.out.len; have h2 := A7.out; omega)).mono ?_
        rintro e X6 ⟨rfl, b6⟩
        rw [show decide (zs = zs) = true from decide_eq_true rfl]
        have b56 := HX5.out.trans (b6.mono HX5.out.size)
        refine hK.out _ _ (fun _ => HC.out X6 b56) ?_
        clear hK K hC
        have hC := HC.out X6 b56
        have HB6 : Hid (Below w.heap.size w X6) := HB5.out.trans (b6.mono HB5.out.size)
        clear b6 b56
        try simp only [Act.put, List.setIfInBounds_toArray, List.set_cons_zero, List.set_cons_succ]
        refine oneT (i := 31) (by kernel_rfl) rfl (by rfl) (fun K hK => ?_)
        go_simp
        refine hK.out _ _ (fun _ => hC) ?_
        clear hK K
        try simp only [Act.put, List.setIfInBounds_toArray, List.set_cons_zero, List.set_cons_succ]
        refine oneT (i := 32) (by kernel_rfl) rfl (by rfl) (fun K hK => ?_)
        go_simp
        refine hK.out _ _ (fun _ => hC) ?_
        clear hK K
        try simp only [Act.put, List.setIfInBounds_toArray, List.set_cons_zero, List.set_cons_succ]
        refine doneT (by kernel_rfl) ?_
        clear hC HC A1 A2 A3 A4 A5 A6 A7 A8
        go_wp2
        go_ret
        exact ⟨rfl, HB6.out⟩
  · have i1 : (20 : Int) < (n : Int) := by omega
    go_wp2
    go_ret
    exact ⟨rfl, HB.out⟩
end Go.Proofs.Ytbjaojcffhkahaa
