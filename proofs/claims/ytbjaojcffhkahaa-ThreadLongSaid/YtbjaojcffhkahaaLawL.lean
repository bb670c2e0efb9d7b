/-
  The law ThreadLong.
-/
import Derived.Test.YtbjaojcffhkahaaLong6
namespace Go.Proofs.Ytbjaojcffhkahaa
open Go.ChangeShapes Go.WideShapes Go.ChangeAt Go.RowKit
set_option linter.unusedVariables false
set_option linter.unusedSimpArgs false
set_option maxRecDepth 20000

set_option maxHeartbeats 8000000 in
theorem threadLong_walk (A : Option Addr) (n cp : Nat) (l : List Bool) (mo : Nat) (w : World) (hbl : Bl w.heap.size w A n l) (hmo : mo < 256) :
    Calls Try.prog 9 #[.slice A n cp, .int .u8 (mo : Int)] w fun e w' => e = .returned (.bool true) ∧ Below w.heap.size w w' := by
  have hmf := mk_fn
  have HBL := Lib.hid hbl
  clear hbl
  go_enter Try.func9, Try.ntmps9
  go_wp2_with fail
  refine (awake_walk w).mono ?_
  rintro e w1 ⟨rfl, b1⟩
  have HB := Lib.hid b1
  clear b1
  by_cases hn : n ≤ 60
  · have i1 : ¬ (60 : Int) < (n : Int) := by omega
    obtain ⟨wt, hwt, hwt0, hwt1⟩ : ∃ wt : Int, (mo : Int) % 20 = wt ∧ 0 ≤ wt ∧ wt < 20 := ⟨_, rfl, by omega, by omega⟩
    have hww : IntKind.i64.wrap wt = wt := IntWalk.i64_in _ (by omega)
    have z1 : (w1.alloc (.cells #[.int .i64 0] 2)).heap.size = w1.heap.size + 1 := by simp
    have z2 : ((w1.alloc (.cells #[.int .i64 0] 2)).alloc (.cells #[.int .i64 wt] 2)).heap.size = w1.heap.size + 2 := by simp
    have hnew : Calls Try.prog 18 #[.func (.func 28) #[] #[ptr w1.heap.size, ptr (w1.heap.size + 1)]] ((w1.alloc (.cells #[.int .i64 0] 2)).alloc (.cells #[.int .i64 wt] 2)) fun e w' => ∃ a, e = .returned (ptr a) ∧ LT w a w1.heap.size (w1.heap.size + 1) [] 0 wt (fun b => b = a) w' ∧ Below w.heap.size w w' := by
      refine (new_func _ _ _ _).mono ?_
      rintro e w2 ⟨rfl, h2, b2⟩
      have v1 : Vr ((w1.alloc (.cells #[.int .i64 0] 2)).alloc (.cells #[.int .i64 wt] 2)) w1.heap.size 0 := h_old (h_new rfl)
      have v2 : Vr ((w1.alloc (.cells #[.int .i64 0] 2)).alloc (.cells #[.int .i64 wt] 2)) (w1.heap.size + 1) wt := h_new z1
      have hs := HB.out.size
      refine ⟨_, rfl, ⟨⟨_, _, h2⟩, fun z hz => (by cases hz), v1.only (Only.of_below (fun _ => False) b2) (fun e => e), v2.only (Only.of_below (fun _ => False) b2) (fun e => e), by omega, by omega, by omega, fun b e => by omega⟩, ?_⟩
      have bb : Below w.heap.size w ((w1.alloc (.cells #[.int .i64 0] 2)).alloc (.cells #[.int .i64 wt] 2)) := (HB.out.alloc hs _).alloc (by omega) _
      exact bb.trans (b2.mono bb.size)
    clear z1 z2
    have HWT := Lib.hid (And.intro hwt0 hwt1)
    go_wp2_with fail
    refine hnew.mono ?_
    clear hnew hwt hww hwt0 hwt1
    rintro e w2 ⟨a, rfl, h2, b2⟩
    generalize w1.heap.size + 1 = Bw at *
    generalize w1.heap.size = Bn at *
    have H2 := Lib.hid h2
    have HB2 := Lib.hid b2
    clear h2 b2 HB
    go_wp2
    go_loopw [8, 24] (fun x i wr => ∃ (k vn : Nat) (zs : List Int) (F : Nat → Prop), k ≤ n ∧ i = .int .i64 k ∧ x = .int .i64 (zs.length : Nat) ∧ vn ≤ k ∧ zs.length ≤ k ∧ LT w a Bn Bw zs (vn : Int) wt F wr ∧ Below w.heap.size w wr) (fun _ i _ => n - (intOf i).toNat)
    case atStart => exact ⟨0, 0, [], fun b => b = a, by omega, rfl, rfl, by omega, by simp, H2.out, HB2.out⟩
    case round =>
      clear H2 HB2
      obtain ⟨k, vn, zs, F, hk, rfl, rfl, hvk, hzk, hT, hb⟩ := hrel
      by_cases hlt : k < n
      · have i2 : (k : Int) < (n : Int) := by omega
        have i3 : (0 : Int) ≤ (k : Int) := by omega
        obtain ⟨b, off, rfl, hbB, x, hx, hcx⟩ := (bl_below HBL.out hb).at_ hlt
        cases x with
        | false =>
          have q1 := hT.vn.cell
          have q2 := hT.vn.free
          have HT := Lib.hid (hT.set ((vn : Int) + 1))
          have HB3 : Hid (Below w.heap.size w (wr.setCell ⟨Bn, 0, none⟩ (.int .i64 ((vn : Int) + 1)))) := hb.trans ((only_set wr Bn 0 _).below (fun b e => by rw [e]; exact hT.ge Bn (.inr (.inl rfl))) hb.size)
          clear hT hb hx
          go_wp2
          go_roundw
          case rel => exact ⟨k + 1, vn + 1, zs, F, by omega, by go_num, rfl, by omega, by omega, HT.out, HB3.out⟩
          case measure => simp [intOf]; omega
        | true =>
          have HT := Lib.hid hT
          have HBB := Lib.hid hb
          have HV : Hid (∀ w', Only F wr w' → w'.cell? ⟨Bn, 0, none⟩ = some (.int .i64 (vn : Int)) ∧ w'.cell? ⟨Bw, 0, none⟩ = some (.int .i64 wt)) := fun w' h => ⟨(hT.vn.only h hT.nn).cell, (hT.vw.only h hT.nw).cell⟩
          have hcx2 := hcx
          clear hT hb hx
          go_wp2_with fail
          refine region_T (fun _ => false) (fun w' => w'.cell? ⟨Bn, 0, none⟩ = some (.int .i64 (vn : Int)) ∧ w'.cell? ⟨Bw, 0, none⟩ = some (.int .i64 wt)) (by kernel_rfl) ?_
          obtain ⟨X0, hX0, b0⟩ : ∃ X0 : World, wr.drew = X0 ∧ Below wr.heap.size wr X0 := ⟨_, rfl, (Below.refl _ wr).drew⟩
          rw [hX0]
          clear hX0 hcx hcx2
          have hC := HV.out X0 (Only.of_below F b0)
          have hs0 := step_long (HT.out.below b0) (by omega) (by have h1 := HBB.out.size; have h2 := b0.size; omega)
          have HS0 := Lib.hid hs0
          have HB0 := Lib.hid b0
          have HGE := Lib.hid HT.out.ge
          clear hs0 b0 HT
          by_cases hge : wt ≤ (vn : Int)
          · skip
            refine takeD 0 32 (v := ?_) rfl rfl (by kernel_rfl) (by kernel_rfl) (by kernel_rfl) (by kernel_rfl) (fun _ _ _ _ h => h) hC (by rfl) ?_ ?_
            rotate_left
            · intro w hSw; (try dsimp only at hSw); go_simp; try (with_reducible rfl)
            simp only [List.setIfInBounds_toArray, List.set_cons_zero, List.set_cons_succ]
            refine takeD 2 34 (v := ?_) rfl rfl (by kernel_rfl) (by kernel_rfl) (by kernel_rfl) (by kernel_rfl) (fun _ _ _ _ h => h) hC (by rfl) ?_ ?_
            rotate_left
            · intro w hSw; (try dsimp only at hSw); go_simp; try (with_reducible rfl)
            simp only [List.setIfInBounds_toArray, List.set_cons_zero, List.set_cons_succ]
            refine takeD 3 35 (v := ?_) rfl rfl (by kernel_rfl) (by kernel_rfl) (by kernel_rfl) (by kernel_rfl) (fun _ _ _ _ h => h) hC (by rfl) ?_ ?_
            rotate_left
            · intro w hSw; (try dsimp only at hSw); go_simp; try (with_reducible rfl)
            simp only [List.setIfInBounds_toArray, List.set_cons_zero, List.set_cons_succ]
            refine takeD 4 36 (v := ?_) rfl rfl (by kernel_rfl) (by kernel_rfl) (by kernel_rfl) (by kernel_rfl) (fun _ _ _ _ h => h) hC (by rfl) ?_ ?_
            rotate_left
            · intro w hSw; (try dsimp only at hSw); go_simp; try (with_reducible rfl)
            simp only [List.setIfInBounds_toArray, List.set_cons_zero, List.set_cons_succ]
            refine oneT (i := 1) (by kernel_rfl) rfl (by rfl) (fun K hK => ?_)
            go_simp
            refine HS0.out.mono ?_
            clear HS0
            rintro e X1 ⟨o1, ⟨_, rfl, F1, O1, k1, h1⟩ | ⟨hv, _⟩⟩
            · refine hK.out _ _ (fun _ => HV.out X1 ((Only.of_below F HB0.out).then o1)) ?_
              clear hK K hC
              have hC := HV.out X1 ((Only.of_below F HB0.out).then o1)
              try simp only [Act.put, List.setIfInBounds_toArray, List.set_cons_zero, List.set_cons_succ]
              refine oneT (i := 5) (by kernel_rfl) rfl (by rfl) (fun K hK => ?_)
              go_simp
              refine hK.out _ _ (fun _ => hC) ?_
              clear hK K
              try simp only [Act.put, List.setIfInBounds_toArray, List.set_cons_zero, List.set_cons_succ]
              refine doneT (by kernel_rfl) ?_
              have hB1 : Below w.heap.size w X1 := (HBB.out.trans (HB0.out.mono HBB.out.size)).trans (o1.below (fun b e => HGE.out b (.inl e)) (Nat.le_trans HBB.out.size HB0.out.size))
              have H1 := Lib.hid h1
              have HB1 := Lib.hid hB1
              obtain ⟨q1, q2⟩ := hC
              have hout := out_walk h1 (by simp)
              have HQ := Lib.hid (And.intro q1 q2)
              clear h1 hB1 o1 HV q1 q2
              go_wp2_with fail
              refine (done_yes H1.out).mono ?_
              rintro e y ⟨rfl, rfl⟩
              go_wp2_with fail
              refine hout.mono ?_
              rintro e X2 ⟨v, rfl, hr, b2⟩
              obtain ⟨A2, n2, d2, rfl⟩ := hr.shape
              obtain rfl : n2 = 1 := hr.sl.len
              obtain ⟨b', off', rfl, _, hc'⟩ := hr.sl.at0 (k := 0) (by omega)
              have hc2 : X2.cell? ⟨b', off', none⟩ = some (.int .i64 (zs.length : Int)) := by simpa using hc'
              obtain ⟨q1, q2⟩ := HQ.out
              have q3 := below_read b2 q1
              have q4 := below_read b2 q2
              have HB2 : Hid (Below w.heap.size w X2) := HB1.out.trans (b2.mono HB1.out.size)
              clear hr hc' b2 q1 q2 hout
              generalize zs.length = zl at *
              go_wp2
              go_ret
              exact ⟨by first | rfl | simp [hge], HB2.out⟩
            · omega
          · have hlt3 : (vn : Int) < wt := by omega
            refine takeD 0 32 (v := ?_) rfl rfl (by kernel_rfl) (by kernel_rfl) (by kernel_rfl) (by kernel_rfl) (fun _ _ _ _ h => h) hC (by rfl) ?_ ?_
            rotate_left
            · intro w hSw; (try dsimp only at hSw); go_simp; try (with_reducible rfl)
            simp only [List.setIfInBounds_toArray, List.set_cons_zero, List.set_cons_succ]
            refine takeD 2 34 (v := ?_) rfl rfl (by kernel_rfl) (by kernel_rfl) (by kernel_rfl) (by kernel_rfl) (fun _ _ _ _ h => h) hC (by rfl) ?_ ?_
            rotate_left
            · intro w hSw; (try dsimp only at hSw); go_simp; try (with_reducible rfl)
            simp only [List.setIfInBounds_toArray, List.set_cons_zero, List.set_cons_succ]
            refine takeD 3 35 (v := ?_) rfl rfl (by kernel_rfl) (by kernel_rfl) (by kernel_rfl) (by kernel_rfl) (fun _ _ _ _ h => h) hC (by rfl) ?_ ?_
            rotate_left
            · intro w hSw; (try dsimp only at hSw); go_simp; try (with_reducible rfl)
            simp only [List.setIfInBounds_toArray, List.set_cons_zero, List.set_cons_succ]
            refine takeD 4 36 (v := ?_) rfl rfl (by kernel_rfl) (by kernel_rfl) (by kernel_rfl) (by kernel_rfl) (fun _ _ _ _ h => h) hC (by rfl) ?_ ?_
            rotate_left
            · intro w hSw; (try dsimp only at hSw); go_simp; try (with_reducible rfl)
            simp only [List.setIfInBounds_toArray, List.set_cons_zero, List.set_cons_succ]
            refine oneT (i := 1) (by kernel_rfl) rfl (by rfl) (fun K hK => ?_)
            go_simp
            refine HS0.out.mono ?_
            clear HS0
            rintro e X1 ⟨o1, ⟨hv, _⟩ | ⟨_, rfl, F1, h1, s1⟩⟩
            · omega
            · refine hK.out _ _ (fun _ => HV.out X1 ((Only.of_below F HB0.out).then o1)) ?_
              clear hK K hC
              have hC := HV.out X1 ((Only.of_below F HB0.out).then o1)
              try simp only [Act.put, List.setIfInBounds_toArray, List.set_cons_zero, List.set_cons_succ]
              refine oneT (i := 5) (by kernel_rfl) rfl (by rfl) (fun K hK => ?_)
              go_simp
              refine hK.out _ _ (fun _ => hC) ?_
              clear hK K
              try simp only [Act.put, List.setIfInBounds_toArray, List.set_cons_zero, List.set_cons_succ]
              refine doneT (by kernel_rfl) ?_
              have hB1 : Below w.heap.size w X1 := (HBB.out.trans (HB0.out.mono HBB.out.size)).trans (o1.below (fun b e => HGE.out b (.inl e)) (Nat.le_trans HBB.out.size HB0.out.size))
              have H1 := Lib.hid h1
              have HB1 := Lib.hid hB1
              obtain ⟨T1, k1, hT1⟩ := h1.th
              have hdn := done_no hT1
              clear h1 hB1 o1 s1 HV hC hT1
              go_wp2_with fail
              refine hdn.mono ?_
              rintro e y ⟨rfl, rfl⟩
              clear hdn
              go_wp2
              go_roundw
              case rel => exact ⟨k + 1, vn, zs ++ [(vn : Int)], F1, by omega, by go_num, by simp, by omega, by simp; omega, H1.out, HB1.out⟩
              case measure => simp [intOf]; omega
      · have i2 : ¬ (k : Int) < (n : Int) := by omega
        obtain ⟨T1, k1, hT1⟩ := hT.th
        have hdn := done_no hT1
        have hst := steps_walk hT1
        have HBB := Lib.hid hb
        clear hT hT1 hb
        generalize zs.length = zl at *
        go_wp2_with fail
        refine hdn.mono ?_
        rintro e y ⟨rfl, rfl⟩
        clear hdn
        go_wp2_with fail
        refine hst.mono ?_
        rintro e y ⟨rfl, rfl⟩
        clear hst
        go_wp2
        go_ret
        exact ⟨by first | rfl | simp, HBB.out⟩
  · have i1 : (60 : Int) < (n : Int) := by omega
    go_wp2
    go_ret
    exact ⟨rfl, HB.out⟩
end Go.Proofs.Ytbjaojcffhkahaa
