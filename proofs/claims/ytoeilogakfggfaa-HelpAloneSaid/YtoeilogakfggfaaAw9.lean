/-
  The laws' fixed fact of layer 9.
-/
import Derived.Test.YtoeilogakfggfaaHk10
import Derived.BigQuiet
namespace Go.Proofs.Ytoeilogakfggfaa
open Go.ChangeShapes Go.WideShapes Go.ChangeAt Go.RowKit
set_option linter.unusedVariables false
set_option linter.unusedSimpArgs false
set_option maxRecDepth 20000

def rA : Rc := ⟨[mk 1 1], [0], 1, 0, mk 0 1, 77⟩
def enA (i w : Int) : Pa := ⟨true, 1, entryNd, [w], i, false⟩
def sA9 (i w : Int) (st : Int) (al : Bool) : Sig := ⟨⟨9, [rootPa, enA i w], [], 0⟩, 0, [(-1, [])], [⟨rA, st, al⟩]⟩
theorem sA9_new : { newSig 9 1 with rs := (newSig 9 1).rs ++ [⟨rA, 1, false⟩] } = sA9 0 (mk 0 1) 1 false := rfl
theorem enA_hit (i w st : Int) (al : Bool) : (sA9 i w st al).ar.hit (mk 1 1) = some (1, enA i w) := by
  have p1 : (pl (mk 1 1)).toNat = 1 := by rw [pl_mk]; rfl
  have p2 : (sA9 i w st al).ar.pls[1]? = some (enA i w) := rfl
  unfold As.hit
  rw [p1, p2]
  simp only
  rw [if_pos ⟨rfl, rfl⟩]
theorem evA : ev (tHelp rA 1) (sA9 0 (mk 0 1) 1 false) = (true, sA9 1 77 2 true, 4) := by
  have t1 : gSwapInfo (mk 1 1) 0 1 (sA9 0 (mk 0 1) 1 false) = (1, sA9 1 (mk 0 1) 1 false) := by
    unfold gSwapInfo As.with
    rw [enA_hit]
    rfl
  have t2 : gSetAll 1 (sA9 1 (mk 0 1) 1 false) = (0, sA9 1 (mk 0 1) 1 true) := rfl
  have t3 : gSwapWay (mk 1 1) 0 (mk 0 1) 77 (sA9 1 (mk 0 1) 1 true) = (1, sA9 1 77 1 true) := by
    unfold gSwapWay As.with
    rw [enA_hit]
    simp only
    rw [if_pos ⟨by unfold hasB; simp [enA], rfl⟩]
    rfl
  have t4 : gSet 1 2 (sA9 1 77 1 true) = (0, sA9 1 77 2 true) := rfl
  have e0 : tHelp rA 1 = (tTake (mk 1 1) 0 1).bind fun b => if b = true then ((tFinish rA 1).bind fun _ => .ret true) else tSettle 1 := rfl
  have e1 : ev (tTake (mk 1 1) 0 1) (sA9 0 (mk 0 1) 1 false) = (true, sA9 1 (mk 0 1) 1 false, 1) := by
    unfold tTake
    simp only [ev, t1]
    rfl
  have e2 : tFinish rA 1 = .tch (gSetAll 1) fun _ => .tch (gSwapWay (mk 1 1) 0 (mk 0 1) 77) fun _ => .tch (gSet 1 2) fun _ => .ret () := rfl
  rw [e0, ev_bind, e1]
  simp only [if_true]
  rw [ev_bind, e2]
  simp only [ev, t2, t3, t4]
theorem inv_sA9 (i w st : Int) (al : Bool) (B : Nat) (hB : B ≤ 900) (hi : in64 i) : Inv 1 B (sA9 i w st al) := by
  refine ⟨rfl, by omega, by simp only [sA9, List.length_cons, List.length_nil]; omega, ?_, by simp only [sA9]; omega, by simp only [sA9, List.length_nil]; omega, fun i hi => (by cases hi), by simp only [sA9]; omega, ?_, ?_, by simp [sA9], ?_⟩
  · intro p hp
    simp only [sA9, List.mem_cons, List.not_mem_nil, or_false] at hp
    rcases hp with rfl | rfl
    · simp only [rootPa]; omega
    · simp only [enA]; omega
  · intro x hx
    simp only [sA9, List.mem_cons, List.not_mem_nil, or_false] at hx
    subst hx; exact in01.2.2
  · intro x hx
    simp only [sA9, List.mem_cons, List.not_mem_nil, or_false] at hx
    subst hx
    exact ⟨by simp only [List.length_nil]; omega, fun p hp => by cases hp⟩
  · intro p hp
    simp only [sA9, List.mem_cons, List.not_mem_nil, or_false] at hp
    rcases hp with rfl | rfl
    · exact in01.1
    · exact hi
theorem evA1 : ev (tHlp 1) (sA9 0 (mk 0 1) 1 false) = ([1], sA9 1 77 2 true, 4) := by
  rw [ev_hlp]
  have : ev (tHelp (rcOf (sA9 0 (mk 0 1) 1 false).rs 1) 1) (sA9 0 (mk 0 1) 1 false) = _ := evA
  rw [this]
  rfl
theorem goodA : GoodR rA := ⟨by decide, rfl, by decide⟩
theorem stt_sA9 : Stt [] 9 (sA9 0 (mk 0 1) 1 false) := by
  refine ⟨fun x hx => (by cases hx), fun x hx => ?_, by simp [sA9], fun p hp z hz => ?_, by simp [sA9], fun p hp => ?_⟩
  · simp only [sA9, List.mem_cons, List.not_mem_nil, or_false] at hx
    subst hx
    exact ⟨goodA, by show in64 77; unfold in64; omega⟩
  · simp only [sA9, List.mem_cons, List.not_mem_nil, or_false] at hp
    rcases hp with rfl | rfl
    · cases hz
    · simp only [enA, List.mem_cons, List.not_mem_nil, or_false] at hz
      subst hz
      have := mk_range 0 1
      unfold in64; omega
  · simp only [sA9, List.mem_cons, List.not_mem_nil, or_false] at hp
    rcases hp with rfl | rfl
    · simp only [rootPa]; omega
    · simp only [enA]; omega
set_option maxHeartbeats 4000000 in
theorem awake9_walk (w : World) : Calls Try.prog 5 #[] w fun e w' => e = .returned (.bool true) ∧ Below w.heap.size w w' := by
  have HN := Lib.hid (new_ok (a := 2) (b := 3) (t := 1) (n := 9) (r := 9) w (by omega) (by omega) (by omega) (by omega) (by omega))
  go_enter Try.func5, Try.ntmps5
  go_wp2_with fail
  refine HN.out.mono ?_
  intro e v1 hP
  have hP : NewW w 2 3 9 1 9 e v1 := hP
  obtain ⟨d, rfl, -, -, hen, hm, hO⟩ := Ow.new (Below.refl w.heap.size w) hP
  have HO := Lib.hid hO
  obtain ⟨g0, g1, g2, g3, g4, g5⟩ := hO.cells
  have HEN := Lib.hid hen
  rw [hen] at g5
  have HM := Lib.hid hm
  clear HN hP hO hm hen
  generalize hm11 : mk 1 1 = e11 at g5
  have HE11 := Lib.hid hm11
  have HMK : Hid (∀ V, Below v1.heap.size v1 V → ∀ g8 g9, V.cell? ⟨g8, 0, none⟩ = some (.int .i64 e11) → V.cell? ⟨g9, 0, none⟩ = some (.int .i64 0) → Calls Try.prog 8 #[ptr d.R, .agg #[.slice (some ⟨g8, 0, none⟩) 1 1, .slice (some ⟨g9, 0, none⟩) 1 1, .int .i64 1, .int .i64 0, .int .i64 (mk 0 1), .int .i64 77]] V fun e w' => e = .returned (.tuple #[.int .i64 1, .bool true]) ∧ Hid (MB w (fun _ => False) d 0 0 h0 o0 (sA9 0 (mk 0 1) 1 false) w')) := by
    intro V hb g8 g9 h8 h9
    have hOV := HO.out.bel hb
    have hMB : MB w (fun _ => False) d 0 0 h0 o0 (newSig 9 1) V := ⟨ME.none_ (hOV.idle.mono fun b e => e.elim id fun e => e.elim), hOV.below⟩
    rw [← HE11.out] at h8
    exact hMB.nx fun FW hW => nxW_rmake (r := rA) hW (sl_one9 h8) (sl_one9 h9) (by decide) (by show 0 < d.m; rw [HM.out]; omega) (by rw [HM.out]; omega) (by omega)
  have HC : Hid (∀ V, Below v1.heap.size v1 V → V.cell? ⟨d.W, 1, none⟩ = some (ptr d.R) ∧ V.cell? ⟨d.W, 5, none⟩ = some (.int .i64 e11)) := fun V hb => ⟨below_read hb g1, below_read hb g5⟩
  have HCX : Hid (∀ V, Hid (MB w (fun _ => False) d 0 0 h0 o0 (sA9 0 (mk 0 1) 1 false) V) → V.cell? ⟨d.W, 1, none⟩ = some (ptr d.R) ∧ V.cell? ⟨d.W, 5, none⟩ = some (.int .i64 e11)) := fun V h => ⟨h.out.cells.2.1, by rw [← HE11.out, ← HEN.out]; exact h.out.cells.2.2.2.2.2⟩
  clear g0 g1 g2 g3 g4 g5 hm11
  go_upto_region 4 with fail
  go_cut [3] (fun v wx => v = .int .i64 1 ∧ Hid (MB w (fun _ => False) d 0 0 h0 o0 (sA9 0 (mk 0 1) 1 false) wx))
  case first =>
    refine region_T (fun _ => false) (fun w' => w'.cell? ⟨d.W, 1, none⟩ = some (ptr d.R) ∧ w'.cell? ⟨d.W, 5, none⟩ = some (.int .i64 e11)) (by kernel_rfl) ?_
    obtain ⟨V0, hV0, hb0⟩ : ∃ V0 : World, v1.drew = V0 ∧ Below v1.heap.size v1 V0 := ⟨_, rfl, (Below.refl _ v1).drew⟩
    rw [hV0]
    have hC := HC.out V0 hb0
    clear hV0
    refine takeX 0 19 (v := ?_) rfl rfl (by kernel_rfl) (by kernel_rfl) (by kernel_rfl) (by kernel_rfl) (by kernel_rfl) (fun _ _ _ _ h => h) hC (by rfl) ?_ ?_
    rotate_left
    · intro w hSw; (try dsimp only at hSw); go_simp; try (with_reducible rfl)
    simp only [List.setIfInBounds_toArray, List.set_cons_zero, List.set_cons_succ]
    refine takeX 1 20 (v := ?_) rfl rfl (by kernel_rfl) (by kernel_rfl) (by kernel_rfl) (by kernel_rfl) (by kernel_rfl) (fun _ _ _ _ h => h) hC (by rfl) ?_ ?_
    rotate_left
    · intro w hSw; (try dsimp only at hSw); go_simp; try (with_reducible rfl)
    simp only [List.setIfInBounds_toArray, List.set_cons_zero, List.set_cons_succ]
    refine takeX 2 21 (v := ?_) rfl rfl (by kernel_rfl) (by kernel_rfl) (by kernel_rfl) (by kernel_rfl) (by kernel_rfl) (fun _ _ _ _ h => h) hC (by rfl) ?_ ?_
    rotate_left
    · intro w hSw; (try dsimp only at hSw); go_simp; try (with_reducible rfl)
    simp only [List.setIfInBounds_toArray, List.set_cons_zero, List.set_cons_succ]
    refine takeX 3 22 (v := ?_) rfl rfl (by kernel_rfl) (by kernel_rfl) (by kernel_rfl) (by kernel_rfl) (by kernel_rfl) (fun _ _ _ _ h => h) hC (by rfl) ?_ ?_
    rotate_left
    · intro w hSw; (try dsimp only at hSw); go_simp; try (with_reducible rfl)
    simp only [List.setIfInBounds_toArray, List.set_cons_zero, List.set_cons_succ]
    refine takeX 4 23 (v := ?_) rfl rfl (by kernel_rfl) (by kernel_rfl) (by kernel_rfl) (by kernel_rfl) (by kernel_rfl) (fun _ _ _ _ h => h) hC (by rfl) ?_ ?_
    rotate_left
    · intro w hSw; (try dsimp only at hSw); go_simp; try (with_reducible rfl)
    simp only [List.setIfInBounds_toArray, List.set_cons_zero, List.set_cons_succ]
    refine takeX 5 24 (v := ?_) rfl rfl (by kernel_rfl) (by kernel_rfl) (by kernel_rfl) (by kernel_rfl) (by kernel_rfl) (fun _ _ _ _ h => h) hC (by rfl) ?_ ?_
    rotate_left
    · intro w hSw; (try dsimp only at hSw); go_simp; try (with_reducible rfl)
    simp only [List.setIfInBounds_toArray, List.set_cons_zero, List.set_cons_succ]
    refine takeX 6 25 (v := ?_) rfl rfl (by kernel_rfl) (by kernel_rfl) (by kernel_rfl) (by kernel_rfl) (by kernel_rfl) (fun _ _ _ _ h => h) hC (by rfl) ?_ ?_
    rotate_left
    · intro w hSw; (try dsimp only at hSw); go_simp; try (with_reducible rfl)
    simp only [List.setIfInBounds_toArray, List.set_cons_zero, List.set_cons_succ]
    refine takeX 7 26 (v := ?_) rfl rfl (by kernel_rfl) (by kernel_rfl) (by kernel_rfl) (by kernel_rfl) (by kernel_rfl) (fun _ _ _ _ h => h) hC (by rfl) ?_ ?_
    rotate_left
    · intro w hSw; (try dsimp only at hSw); go_simp; try (with_reducible rfl)
    simp only [List.setIfInBounds_toArray, List.set_cons_zero, List.set_cons_succ]
    clear hC
    refine threeT (i := 8) (j := 9) (l := 10) (by kernel_rfl) rfl rfl rfl (by rfl) (by rfl) (by rfl) (fun K hK => ?_) (fun K hK => ?_) (fun K hK => ?_)
    · go_simp
      obtain ⟨V1, g8, hX, hg, hbn, h8⟩ : ∃ (X : World) (g : Nat), V0.alloc (.cells #[.int .i64 e11] 34) = X ∧ V0.heap.size = g ∧ Below V0.heap.size V0 X ∧ X.cell? ⟨g, 0, none⟩ = some (.int .i64 e11) := ⟨_, _, rfl, rfl, below_new _ _, c_new rfl rfl⟩
      have hb1 : Below v1.heap.size v1 V1 := hb0.trans (hbn.mono hb0.size)
      (try rw [hX]); (try rw [hg])
      refine hK.out _ _ (fun _ => HC.out V1 hb1) ?_
      clear hK K hbn hX hg
      try simp only [Act.put, List.setIfInBounds_toArray, List.set_cons_zero, List.set_cons_succ]
      refine twoT (i := 9) (j := 10) (by kernel_rfl) rfl rfl (by rfl) (by rfl) (fun K hK => ?_) (fun K hK => ?_)
      · go_simp
        obtain ⟨V2, g9, hX, hg, hbn, h9⟩ : ∃ (X : World) (g : Nat), V1.alloc (.cells #[.int .i64 0] 2) = X ∧ V1.heap.size = g ∧ Below V1.heap.size V1 X ∧ X.cell? ⟨g, 0, none⟩ = some (.int .i64 0) := ⟨_, _, rfl, rfl, below_new _ _, c_new rfl rfl⟩
        have hb2 : Below v1.heap.size v1 V2 := hb1.trans (hbn.mono hb1.size)
        have h8 := below_read hbn h8
        (try rw [hX]); (try rw [hg])
        refine hK.out _ _ (fun _ => HC.out V2 hb2) ?_
        clear hK K hbn hX hg
        try simp only [Act.put, List.setIfInBounds_toArray, List.set_cons_zero, List.set_cons_succ]
        refine oneT (i := 10) (by kernel_rfl) rfl (by rfl) (fun K hK => ?_)
        go_simp
        refine (of_walk 0 1 (by omega) V2).mono ?_
        rintro e V3 ⟨rfl, hbn⟩
        have hb3 : Below v1.heap.size v1 V3 := hbn ▸ hb2
        have h8 := hbn ▸ h8
        have h9 := hbn ▸ h9
        refine hK.out _ _ (fun _ => HC.out V3 hb3) ?_
        clear hK K hbn
        try simp only [Act.put, List.setIfInBounds_toArray, List.set_cons_zero, List.set_cons_succ]
        refine oneT (i := 11) (by kernel_rfl) rfl (by rfl) (fun K hK => ?_)
        go_simp
        refine hK.out _ _ (fun _ => HC.out V3 hb3) ?_
        clear hK K
        try simp only [Act.put, List.setIfInBounds_toArray, List.set_cons_zero, List.set_cons_succ]
        refine oneT (i := 12) (by kernel_rfl) rfl (by rfl) (fun K hK => ?_)
        go_simp
        refine (HMK.out V3 hb3 g8 g9 h8 h9).mono ?_
        rintro e X ⟨rfl, hX⟩
        have hC := HCX.out X hX
        refine hK.out _ _ (fun _ => hC) ?_
        clear hK K
        try simp only [Act.put, List.setIfInBounds_toArray, List.set_cons_zero, List.set_cons_succ]
        refine takeX 13 18 (v := ?_) rfl rfl (by kernel_rfl) (by kernel_rfl) (by kernel_rfl) (by kernel_rfl) (by kernel_rfl) (fun _ _ _ _ h => h) hC (by rfl) ?_ ?_
        rotate_left
        · intro w hSw; (try dsimp only at hSw); go_simp; try (with_reducible rfl)
        simp only [List.setIfInBounds_toArray, List.set_cons_zero, List.set_cons_succ]
        refine takeX 14 32 (v := ?_) rfl rfl (by kernel_rfl) (by kernel_rfl) (by kernel_rfl) (by kernel_rfl) (by kernel_rfl) (fun _ _ _ _ h => h) hC (by rfl) ?_ ?_
        rotate_left
        · intro w hSw; (try dsimp only at hSw); go_simp; try (with_reducible rfl)
        simp only [List.setIfInBounds_toArray, List.set_cons_zero, List.set_cons_succ]
        refine takeX 15 33 (v := ?_) rfl rfl (by kernel_rfl) (by kernel_rfl) (by kernel_rfl) (by kernel_rfl) (by kernel_rfl) (fun _ _ _ _ h => h) hC (by rfl) ?_ ?_
        rotate_left
        · intro w hSw; (try dsimp only at hSw); go_simp; try (with_reducible rfl)
        simp only [List.setIfInBounds_toArray, List.set_cons_zero, List.set_cons_succ]
        refine takeX 16 3 (v := ?_) rfl rfl (by kernel_rfl) (by kernel_rfl) (by kernel_rfl) (by kernel_rfl) (by kernel_rfl) (fun _ _ _ _ h => h) hC (by rfl) ?_ ?_
        rotate_left
        · intro w hSw; (try dsimp only at hSw); go_simp; try (with_reducible rfl)
        simp only [List.setIfInBounds_toArray, List.set_cons_zero, List.set_cons_succ]
        refine takeX 17 4 (v := ?_) rfl rfl (by kernel_rfl) (by kernel_rfl) (by kernel_rfl) (by kernel_rfl) (by kernel_rfl) (fun _ _ _ _ h => h) hC (by rfl) ?_ ?_
        rotate_left
        · intro w hSw; (try dsimp only at hSw); go_simp; try (with_reducible rfl)
        simp only [List.setIfInBounds_toArray, List.set_cons_zero, List.set_cons_succ]
        refine doneT (by kernel_rfl) ?_
        go_wp2
        go_meet
        case rel => exact ⟨rfl, hX⟩
      · go_simp
        refine (of_walk 0 1 (by omega) V1).mono ?_
        rintro e V2 ⟨rfl, hbn⟩
        have hb2 : Below v1.heap.size v1 V2 := hbn ▸ hb1
        have h8 := hbn ▸ h8
        refine hK.out _ _ (fun _ => HC.out V2 hb2) ?_
        clear hK K hbn
        try simp only [Act.put, List.setIfInBounds_toArray, List.set_cons_zero, List.set_cons_succ]
        refine oneT (i := 9) (by kernel_rfl) rfl (by rfl) (fun K hK => ?_)
        go_simp
        obtain ⟨V3, g9, hX, hg, hbn, h9⟩ : ∃ (X : World) (g : Nat), V2.alloc (.cells #[.int .i64 0] 2) = X ∧ V2.heap.size = g ∧ Below V2.heap.size V2 X ∧ X.cell? ⟨g, 0, none⟩ = some (.int .i64 0) := ⟨_, _, rfl, rfl, below_new _ _, c_new rfl rfl⟩
        have hb3 : Below v1.heap.size v1 V3 := hb2.trans (hbn.mono hb2.size)
        have h8 := below_read hbn h8
        (try rw [hX]); (try rw [hg])
        refine hK.out _ _ (fun _ => HC.out V3 hb3) ?_
        clear hK K hbn hX hg
        try simp only [Act.put, List.setIfInBounds_toArray, List.set_cons_zero, List.set_cons_succ]
        refine oneT (i := 11) (by kernel_rfl) rfl (by rfl) (fun K hK => ?_)
        go_simp
        refine hK.out _ _ (fun _ => HC.out V3 hb3) ?_
        clear hK K
        try simp only [Act.put, List.setIfInBounds_toArray, List.set_cons_zero, List.set_cons_succ]
        refine oneT (i := 12) (by kernel_rfl) rfl (by rfl) (fun K hK => ?_)
        go_simp
        refine (HMK.out V3 hb3 g8 g9 h8 h9).mono ?_
        rintro e X ⟨rfl, hX⟩
        have hC := HCX.out X hX
        refine hK.out _ _ (fun _ => hC) ?_
        clear hK K
        try simp only [Act.put, List.setIfInBounds_toArray, List.set_cons_zero, List.set_cons_succ]
        refine takeX 13 18 (v := ?_) rfl rfl (by kernel_rfl) (by kernel_rfl) (by kernel_rfl) (by kernel_rfl) (by kernel_rfl) (fun _ _ _ _ h => h) hC (by rfl) ?_ ?_
        rotate_left
        · intro w hSw; (try dsimp only at hSw); go_simp; try (with_reducible rfl)
        simp only [List.setIfInBounds_toArray, List.set_cons_zero, List.set_cons_succ]
        refine takeX 14 32 (v := ?_) rfl rfl (by kernel_rfl) (by kernel_rfl) (by kernel_rfl) (by kernel_rfl) (by kernel_rfl) (fun _ _ _ _ h => h) hC (by rfl) ?_ ?_
        rotate_left
        · intro w hSw; (try dsimp only at hSw); go_simp; try (with_reducible rfl)
        simp only [List.setIfInBounds_toArray, List.set_cons_zero, List.set_cons_succ]
        refine takeX 15 33 (v := ?_) rfl rfl (by kernel_rfl) (by kernel_rfl) (by kernel_rfl) (by kernel_rfl) (by kernel_rfl) (fun _ _ _ _ h => h) hC (by rfl) ?_ ?_
        rotate_left
        · intro w hSw; (try dsimp only at hSw); go_simp; try (with_reducible rfl)
        simp only [List.setIfInBounds_toArray, List.set_cons_zero, List.set_cons_succ]
        refine takeX 16 3 (v := ?_) rfl rfl (by kernel_rfl) (by kernel_rfl) (by kernel_rfl) (by kernel_rfl) (by kernel_rfl) (fun _ _ _ _ h => h) hC (by rfl) ?_ ?_
        rotate_left
        · intro w hSw; (try dsimp only at hSw); go_simp; try (with_reducible rfl)
        simp only [List.setIfInBounds_toArray, List.set_cons_zero, List.set_cons_succ]
        refine takeX 17 4 (v := ?_) rfl rfl (by kernel_rfl) (by kernel_rfl) (by kernel_rfl) (by kernel_rfl) (by kernel_rfl) (fun _ _ _ _ h => h) hC (by rfl) ?_ ?_
        rotate_left
        · intro w hSw; (try dsimp only at hSw); go_simp; try (with_reducible rfl)
        simp only [List.setIfInBounds_toArray, List.set_cons_zero, List.set_cons_succ]
        refine doneT (by kernel_rfl) ?_
        go_wp2
        go_meet
        case rel => exact ⟨rfl, hX⟩
    · go_simp
      obtain ⟨V1, g9, hX, hg, hbn, h9⟩ : ∃ (X : World) (g : Nat), V0.alloc (.cells #[.int .i64 0] 2) = X ∧ V0.heap.size = g ∧ Below V0.heap.size V0 X ∧ X.cell? ⟨g, 0, none⟩ = some (.int .i64 0) := ⟨_, _, rfl, rfl, below_new _ _, c_new rfl rfl⟩
      have hb1 : Below v1.heap.size v1 V1 := hb0.trans (hbn.mono hb0.size)
      (try rw [hX]); (try rw [hg])
      refine hK.out _ _ (fun _ => HC.out V1 hb1) ?_
      clear hK K hbn hX hg
      try simp only [Act.put, List.setIfInBounds_toArray, List.set_cons_zero, List.set_cons_succ]
      refine twoT (i := 8) (j := 10) (by kernel_rfl) rfl rfl (by rfl) (by rfl) (fun K hK => ?_) (fun K hK => ?_)
      · go_simp
        obtain ⟨V2, g8, hX, hg, hbn, h8⟩ : ∃ (X : World) (g : Nat), V1.alloc (.cells #[.int .i64 e11] 34) = X ∧ V1.heap.size = g ∧ Below V1.heap.size V1 X ∧ X.cell? ⟨g, 0, none⟩ = some (.int .i64 e11) := ⟨_, _, rfl, rfl, below_new _ _, c_new rfl rfl⟩
        have hb2 : Below v1.heap.size v1 V2 := hb1.trans (hbn.mono hb1.size)
        have h9 := below_read hbn h9
        (try rw [hX]); (try rw [hg])
        refine hK.out _ _ (fun _ => HC.out V2 hb2) ?_
        clear hK K hbn hX hg
        try simp only [Act.put, List.setIfInBounds_toArray, List.set_cons_zero, List.set_cons_succ]
        refine oneT (i := 10) (by kernel_rfl) rfl (by rfl) (fun K hK => ?_)
        go_simp
        refine (of_walk 0 1 (by omega) V2).mono ?_
        rintro e V3 ⟨rfl, hbn⟩
        have hb3 : Below v1.heap.size v1 V3 := hbn ▸ hb2
        have h9 := hbn ▸ h9
        have h8 := hbn ▸ h8
        refine hK.out _ _ (fun _ => HC.out V3 hb3) ?_
        clear hK K hbn
        try simp only [Act.put, List.setIfInBounds_toArray, List.set_cons_zero, List.set_cons_succ]
        refine oneT (i := 11) (by kernel_rfl) rfl (by rfl) (fun K hK => ?_)
        go_simp
        refine hK.out _ _ (fun _ => HC.out V3 hb3) ?_
        clear hK K
        try simp only [Act.put, List.setIfInBounds_toArray, List.set_cons_zero, List.set_cons_succ]
        refine oneT (i := 12) (by kernel_rfl) rfl (by rfl) (fun K hK => ?_)
        go_simp
        refine (HMK.out V3 hb3 g8 g9 h8 h9).mono ?_
        rintro e X ⟨rfl, hX⟩
        have hC := HCX.out X hX
        refine hK.out _ _ (fun _ => hC) ?_
        clear hK K
        try simp only [Act.put, List.setIfInBounds_toArray, List.set_cons_zero, List.set_cons_succ]
        refine takeX 13 18 (v := ?_) rfl rfl (by kernel_rfl) (by kernel_rfl) (by kernel_rfl) (by kernel_rfl) (by kernel_rfl) (fun _ _ _ _ h => h) hC (by rfl) ?_ ?_
        rotate_left
        · intro w hSw; (try dsimp only at hSw); go_simp; try (with_reducible rfl)
        simp only [List.setIfInBounds_toArray, List.set_cons_zero, List.set_cons_succ]
        refine takeX 14 32 (v := ?_) rfl rfl (by kernel_rfl) (by kernel_rfl) (by kernel_rfl) (by kernel_rfl) (by kernel_rfl) (fun _ _ _ _ h => h) hC (by rfl) ?_ ?_
        rotate_left
        · intro w hSw; (try dsimp only at hSw); go_simp; try (with_reducible rfl)
        simp only [List.setIfInBounds_toArray, List.set_cons_zero, List.set_cons_succ]
        refine takeX 15 33 (v := ?_) rfl rfl (by kernel_rfl) (by kernel_rfl) (by kernel_rfl) (by kernel_rfl) (by kernel_rfl) (fun _ _ _ _ h => h) hC (by rfl) ?_ ?_
        rotate_left
        · intro w hSw; (try dsimp only at hSw); go_simp; try (with_reducible rfl)
        simp only [List.setIfInBounds_toArray, List.set_cons_zero, List.set_cons_succ]
        refine takeX 16 3 (v := ?_) rfl rfl (by kernel_rfl) (by kernel_rfl) (by kernel_rfl) (by kernel_rfl) (by kernel_rfl) (fun _ _ _ _ h => h) hC (by rfl) ?_ ?_
        rotate_left
        · intro w hSw; (try dsimp only at hSw); go_simp; try (with_reducible rfl)
        simp only [List.setIfInBounds_toArray, List.set_cons_zero, List.set_cons_succ]
        refine takeX 17 4 (v := ?_) rfl rfl (by kernel_rfl) (by kernel_rfl) (by kernel_rfl) (by kernel_rfl) (by kernel_rfl) (fun _ _ _ _ h => h) hC (by rfl) ?_ ?_
        rotate_left
        · intro w hSw; (try dsimp only at hSw); go_simp; try (with_reducible rfl)
        simp only [List.setIfInBounds_toArray, List.set_cons_zero, List.set_cons_succ]
        refine doneT (by kernel_rfl) ?_
        go_wp2
        go_meet
        case rel => exact ⟨rfl, hX⟩
      · go_simp
        refine (of_walk 0 1 (by omega) V1).mono ?_
        rintro e V2 ⟨rfl, hbn⟩
        have hb2 : Below v1.heap.size v1 V2 := hbn ▸ hb1
        have h9 := hbn ▸ h9
        refine hK.out _ _ (fun _ => HC.out V2 hb2) ?_
        clear hK K hbn
        try simp only [Act.put, List.setIfInBounds_toArray, List.set_cons_zero, List.set_cons_succ]
        refine oneT (i := 8) (by kernel_rfl) rfl (by rfl) (fun K hK => ?_)
        go_simp
        obtain ⟨V3, g8, hX, hg, hbn, h8⟩ : ∃ (X : World) (g : Nat), V2.alloc (.cells #[.int .i64 e11] 34) = X ∧ V2.heap.size = g ∧ Below V2.heap.size V2 X ∧ X.cell? ⟨g, 0, none⟩ = some (.int .i64 e11) := ⟨_, _, rfl, rfl, below_new _ _, c_new rfl rfl⟩
        have hb3 : Below v1.heap.size v1 V3 := hb2.trans (hbn.mono hb2.size)
        have h9 := below_read hbn h9
        (try rw [hX]); (try rw [hg])
        refine hK.out _ _ (fun _ => HC.out V3 hb3) ?_
        clear hK K hbn hX hg
        try simp only [Act.put, List.setIfInBounds_toArray, List.set_cons_zero, List.set_cons_succ]
        refine oneT (i := 11) (by kernel_rfl) rfl (by rfl) (fun K hK => ?_)
        go_simp
        refine hK.out _ _ (fun _ => HC.out V3 hb3) ?_
        clear hK K
        try simp only [Act.put, List.setIfInBounds_toArray, List.set_cons_zero, List.set_cons_succ]
        refine oneT (i := 12) (by kernel_rfl) rfl (by rfl) (fun K hK => ?_)
        go_simp
        refine (HMK.out V3 hb3 g8 g9 h8 h9).mono ?_
        rintro e X ⟨rfl, hX⟩
        have hC := HCX.out X hX
        refine hK.out _ _ (fun _ => hC) ?_
        clear hK K
        try simp only [Act.put, List.setIfInBounds_toArray, List.set_cons_zero, List.set_cons_succ]
        refine takeX 13 18 (v := ?_) rfl rfl (by kernel_rfl) (by kernel_rfl) (by kernel_rfl) (by kernel_rfl) (by kernel_rfl) (fun _ _ _ _ h => h) hC (by rfl) ?_ ?_
        rotate_left
        · intro w hSw; (try dsimp only at hSw); go_simp; try (with_reducible rfl)
        simp only [List.setIfInBounds_toArray, List.set_cons_zero, List.set_cons_succ]
        refine takeX 14 32 (v := ?_) rfl rfl (by kernel_rfl) (by kernel_rfl) (by kernel_rfl) (by kernel_rfl) (by kernel_rfl) (fun _ _ _ _ h => h) hC (by rfl) ?_ ?_
        rotate_left
        · intro w hSw; (try dsimp only at hSw); go_simp; try (with_reducible rfl)
        simp only [List.setIfInBounds_toArray, List.set_cons_zero, List.set_cons_succ]
        refine takeX 15 33 (v := ?_) rfl rfl (by kernel_rfl) (by kernel_rfl) (by kernel_rfl) (by kernel_rfl) (by kernel_rfl) (fun _ _ _ _ h => h) hC (by rfl) ?_ ?_
        rotate_left
        · intro w hSw; (try dsimp only at hSw); go_simp; try (with_reducible rfl)
        simp only [List.setIfInBounds_toArray, List.set_cons_zero, List.set_cons_succ]
        refine takeX 16 3 (v := ?_) rfl rfl (by kernel_rfl) (by kernel_rfl) (by kernel_rfl) (by kernel_rfl) (by kernel_rfl) (fun _ _ _ _ h => h) hC (by rfl) ?_ ?_
        rotate_left
        · intro w hSw; (try dsimp only at hSw); go_simp; try (with_reducible rfl)
        simp only [List.setIfInBounds_toArray, List.set_cons_zero, List.set_cons_succ]
        refine takeX 17 4 (v := ?_) rfl rfl (by kernel_rfl) (by kernel_rfl) (by kernel_rfl) (by kernel_rfl) (by kernel_rfl) (fun _ _ _ _ h => h) hC (by rfl) ?_ ?_
        rotate_left
        · intro w hSw; (try dsimp only at hSw); go_simp; try (with_reducible rfl)
        simp only [List.setIfInBounds_toArray, List.set_cons_zero, List.set_cons_succ]
        refine doneT (by kernel_rfl) ?_
        go_wp2
        go_meet
        case rel => exact ⟨rfl, hX⟩
    · go_simp
      refine (of_walk 0 1 (by omega) V0).mono ?_
      rintro e V1 ⟨rfl, hbn⟩
      have hb1 : Below v1.heap.size v1 V1 := hbn ▸ hb0
      refine hK.out _ _ (fun _ => HC.out V1 hb1) ?_
      clear hK K hbn
      try simp only [Act.put, List.setIfInBounds_toArray, List.set_cons_zero, List.set_cons_succ]
      refine twoT (i := 8) (j := 9) (by kernel_rfl) rfl rfl (by rfl) (by rfl) (fun K hK => ?_) (fun K hK => ?_)
      · go_simp
        obtain ⟨V2, g8, hX, hg, hbn, h8⟩ : ∃ (X : World) (g : Nat), V1.alloc (.cells #[.int .i64 e11] 34) = X ∧ V1.heap.size = g ∧ Below V1.heap.size V1 X ∧ X.cell? ⟨g, 0, none⟩ = some (.int .i64 e11) := ⟨_, _, rfl, rfl, below_new _ _, c_new rfl rfl⟩
        have hb2 : Below v1.heap.size v1 V2 := hb1.trans (hbn.mono hb1.size)
        (try rw [hX]); (try rw [hg])
        refine hK.out _ _ (fun _ => HC.out V2 hb2) ?_
        clear hK K hbn hX hg
        try simp only [Act.put, List.setIfInBounds_toArray, List.set_cons_zero, List.set_cons_succ]
        refine oneT (i := 9) (by kernel_rfl) rfl (by rfl) (fun K hK => ?_)
        go_simp
        obtain ⟨V3, g9, hX, hg, hbn, h9⟩ : ∃ (X : World) (g : Nat), V2.alloc (.cells #[.int .i64 0] 2) = X ∧ V2.heap.size = g ∧ Below V2.heap.size V2 X ∧ X.cell? ⟨g, 0, none⟩ = some (.int .i64 0) := ⟨_, _, rfl, rfl, below_new _ _, c_new rfl rfl⟩
        have hb3 : Below v1.heap.size v1 V3 := hb2.trans (hbn.mono hb2.size)
        have h8 := below_read hbn h8
        (try rw [hX]); (try rw [hg])
        refine hK.out _ _ (fun _ => HC.out V3 hb3) ?_
        clear hK K hbn hX hg
        try simp only [Act.put, List.setIfInBounds_toArray, List.set_cons_zero, List.set_cons_succ]
        refine oneT (i := 11) (by kernel_rfl) rfl (by rfl) (fun K hK => ?_)
        go_simp
        refine hK.out _ _ (fun _ => HC.out V3 hb3) ?_
        clear hK K
        try simp only [Act.put, List.setIfInBounds_toArray, List.set_cons_zero, List.set_cons_succ]
        refine oneT (i := 12) (by kernel_rfl) rfl (by rfl) (fun K hK => ?_)
        go_simp
        refine (HMK.out V3 hb3 g8 g9 h8 h9).mono ?_
        rintro e X ⟨rfl, hX⟩
        have hC := HCX.out X hX
        refine hK.out _ _ (fun _ => hC) ?_
        clear hK K
        try simp only [Act.put, List.setIfInBounds_toArray, List.set_cons_zero, List.set_cons_succ]
        refine takeX 13 18 (v := ?_) rfl rfl (by kernel_rfl) (by kernel_rfl) (by kernel_rfl) (by kernel_rfl) (by kernel_rfl) (fun _ _ _ _ h => h) hC (by rfl) ?_ ?_
        rotate_left
        · intro w hSw; (try dsimp only at hSw); go_simp; try (with_reducible rfl)
        simp only [List.setIfInBounds_toArray, List.set_cons_zero, List.set_cons_succ]
        refine takeX 14 32 (v := ?_) rfl rfl (by kernel_rfl) (by kernel_rfl) (by kernel_rfl) (by kernel_rfl) (by kernel_rfl) (fun _ _ _ _ h => h) hC (by rfl) ?_ ?_
        rotate_left
        · intro w hSw; (try dsimp only at hSw); go_simp; try (with_reducible rfl)
        simp only [List.setIfInBounds_toArray, List.set_cons_zero, List.set_cons_succ]
        refine takeX 15 33 (v := ?_) rfl rfl (by kernel_rfl) (by kernel_rfl) (by kernel_rfl) (by kernel_rfl) (by kernel_rfl) (fun _ _ _ _ h => h) hC (by rfl) ?_ ?_
        rotate_left
        · intro w hSw; (try dsimp only at hSw); go_simp; try (with_reducible rfl)
        simp only [List.setIfInBounds_toArray, List.set_cons_zero, List.set_cons_succ]
        refine takeX 16 3 (v := ?_) rfl rfl (by kernel_rfl) (by kernel_rfl) (by kernel_rfl) (by kernel_rfl) (by kernel_rfl) (fun _ _ _ _ h => h) hC (by rfl) ?_ ?_
        rotate_left
        · intro w hSw; (try dsimp only at hSw); go_simp; try (with_reducible rfl)
        simp only [List.setIfInBounds_toArray, List.set_cons_zero, List.set_cons_succ]
        refine takeX 17 4 (v := ?_) rfl rfl (by kernel_rfl) (by kernel_rfl) (by kernel_rfl) (by kernel_rfl) (by kernel_rfl) (fun _ _ _ _ h => h) hC (by rfl) ?_ ?_
        rotate_left
        · intro w hSw; (try dsimp only at hSw); go_simp; try (with_reducible rfl)
        simp only [List.setIfInBounds_toArray, List.set_cons_zero, List.set_cons_succ]
        refine doneT (by kernel_rfl) ?_
        go_wp2
        go_meet
        case rel => exact ⟨rfl, hX⟩
      · go_simp
        obtain ⟨V2, g9, hX, hg, hbn, h9⟩ : ∃ (X : World) (g : Nat), V1.alloc (.cells #[.int .i64 0] 2) = X ∧ V1.heap.size = g ∧ Below V1.heap.size V1 X ∧ X.cell? ⟨g, 0, none⟩ = some (.int .i64 0) := ⟨_, _, rfl, rfl, below_new _ _, c_new rfl rfl⟩
        have hb2 : Below v1.heap.size v1 V2 := hb1.trans (hbn.mono hb1.size)
        (try rw [hX]); (try rw [hg])
        refine hK.out _ _ (fun _ => HC.out V2 hb2) ?_
        clear hK K hbn hX hg
        try simp only [Act.put, List.setIfInBounds_toArray, List.set_cons_zero, List.set_cons_succ]
        refine oneT (i := 8) (by kernel_rfl) rfl (by rfl) (fun K hK => ?_)
        go_simp
        obtain ⟨V3, g8, hX, hg, hbn, h8⟩ : ∃ (X : World) (g : Nat), V2.alloc (.cells #[.int .i64 e11] 34) = X ∧ V2.heap.size = g ∧ Below V2.heap.size V2 X ∧ X.cell? ⟨g, 0, none⟩ = some (.int .i64 e11) := ⟨_, _, rfl, rfl, below_new _ _, c_new rfl rfl⟩
        have hb3 : Below v1.heap.size v1 V3 := hb2.trans (hbn.mono hb2.size)
        have h9 := below_read hbn h9
        (try rw [hX]); (try rw [hg])
        refine hK.out _ _ (fun _ => HC.out V3 hb3) ?_
        clear hK K hbn hX hg
        try simp only [Act.put, List.setIfInBounds_toArray, List.set_cons_zero, List.set_cons_succ]
        refine oneT (i := 11) (by kernel_rfl) rfl (by rfl) (fun K hK => ?_)
        go_simp
        refine hK.out _ _ (fun _ => HC.out V3 hb3) ?_
        clear hK K
        try simp only [Act.put, List.setIfInBounds_toArray, List.set_cons_zero, List.set_cons_succ]
        refine oneT (i := 12) (by kernel_rfl) rfl (by rfl) (fun K hK => ?_)
        go_simp
        refine (HMK.out V3 hb3 g8 g9 h8 h9).mono ?_
        rintro e X ⟨rfl, hX⟩
        have hC := HCX.out X hX
        refine hK.out _ _ (fun _ => hC) ?_
        clear hK K
        try simp only [Act.put, List.setIfInBounds_toArray, List.set_cons_zero, List.set_cons_succ]
        refine takeX 13 18 (v := ?_) rfl rfl (by kernel_rfl) (by kernel_rfl) (by kernel_rfl) (by kernel_rfl) (by kernel_rfl) (fun _ _ _ _ h => h) hC (by rfl) ?_ ?_
        rotate_left
        · intro w hSw; (try dsimp only at hSw); go_simp; try (with_reducible rfl)
        simp only [List.setIfInBounds_toArray, List.set_cons_zero, List.set_cons_succ]
        refine takeX 14 32 (v := ?_) rfl rfl (by kernel_rfl) (by kernel_rfl) (by kernel_rfl) (by kernel_rfl) (by kernel_rfl) (fun _ _ _ _ h => h) hC (by rfl) ?_ ?_
        rotate_left
        · intro w hSw; (try dsimp only at hSw); go_simp; try (with_reducible rfl)
        simp only [List.setIfInBounds_toArray, List.set_cons_zero, List.set_cons_succ]
        refine takeX 15 33 (v := ?_) rfl rfl (by kernel_rfl) (by kernel_rfl) (by kernel_rfl) (by kernel_rfl) (by kernel_rfl) (fun _ _ _ _ h => h) hC (by rfl) ?_ ?_
        rotate_left
        · intro w hSw; (try dsimp only at hSw); go_simp; try (with_reducible rfl)
        simp only [List.setIfInBounds_toArray, List.set_cons_zero, List.set_cons_succ]
        refine takeX 16 3 (v := ?_) rfl rfl (by kernel_rfl) (by kernel_rfl) (by kernel_rfl) (by kernel_rfl) (by kernel_rfl) (fun _ _ _ _ h => h) hC (by rfl) ?_ ?_
        rotate_left
        · intro w hSw; (try dsimp only at hSw); go_simp; try (with_reducible rfl)
        simp only [List.setIfInBounds_toArray, List.set_cons_zero, List.set_cons_succ]
        refine takeX 17 4 (v := ?_) rfl rfl (by kernel_rfl) (by kernel_rfl) (by kernel_rfl) (by kernel_rfl) (by kernel_rfl) (fun _ _ _ _ h => h) hC (by rfl) ?_ ?_
        rotate_left
        · intro w hSw; (try dsimp only at hSw); go_simp; try (with_reducible rfl)
        simp only [List.setIfInBounds_toArray, List.set_cons_zero, List.set_cons_succ]
        refine doneT (by kernel_rfl) ?_
        go_wp2
        go_meet
        case rel => exact ⟨rfl, hX⟩
  case rest =>
    obtain ⟨rfl, HX⟩ := hcut
    clear HMK HC HO HM
    have HS := Lib.hid (HX.out.helper (n := 1) (me := 0) (nds := []) (M := 9) (by unfold has; simp [sA9, rcAt]) (by omega))
    go_wp2_with fail
    refine HS.out.mono ?_
    rintro e u1 ⟨a, b, rfl, hM1, hb⟩
    have HA := Lib.hid (hM1.alone (i := 0) (M := 20) (L := 1) (nds := []) (Mx := 9) (by omega) (upd_at ..) (by rw [upd_at]) (inv_sA9 0 (mk 0 1) 1 false 21 (by omega) in01.1) stt_sA9 (tj_hlp in01.2.1) (kl_hlp _) (good_hlp (by unfold has; simp [sA9, rcAt])) evA1 (by omega) (by omega) (by simp) (kz := 4) (by decide))
    rw [upd_at] at HA
    clear HS hM1 hb HX
    go_wp2_with fail
    refine HA.out.mono ?_
    rintro e u2 ⟨A, q, c, rfl, hrow, hMB, hK⟩
    have hsl := hrow.sl
    obtain rfl : q = 1 := hsl.len
    obtain ⟨g, off, rfl, hg, hc⟩ := hsl.at_ (k := 0) (by simp)
    have hc : u2.cell? ⟨g, off, none⟩ = some (.int .i64 1) := hc
    have hI := inv_sA9 1 77 2 true 0 (by omega) in01.2.1
    have g1 := hMB.cells.2.1
    have g0 := hMB.cells.1
    have g5 : u2.cell? ⟨d.W, 5, none⟩ = some (.int .i64 e11) := by rw [← HE11.out, ← HEN.out]; exact hMB.cells.2.2.2.2.2
    have Q1 : Hid (Reads 17 #[ptr d.A, .int .i64 e11, .int .i64 0] u2 (.int .i64 77)) := by rw [← HE11.out]; exact hMB.reads fun w FW h => nxW_way (k := 0) h hI.fit.ok (enA_hit 1 77 2 true)
    have Q2 : Hid (Reads 15 #[ptr d.A, .int .i64 e11] u2 (.int .i64 1)) := by rw [← HE11.out]; exact hMB.reads fun w FW h => nxW_infoR h hI.fit.ok (enA_hit 1 77 2 true)
    have Q3 : Hid (Reads 13 #[ptr d.R, .int .i64 1] u2 (.int .u8 2)) := hMB.reads fun w FW h => nxW_stateR h (by simp [sA9]) (show rcAt (sA9 1 77 2 true).rs 1 = some (0, ⟨rA, 2, true⟩) from rfl)
    have HEND : Hid (∀ t, Below w.heap.size w (u2.drewN t)) := fun t => (hMB.drewN t).bel
    clear hMB hI hrow hK hsl hg HA HEN HE11
    go_wp2_with fail
    go_quiet (first
      | (go_at_call 17; exact Q1.out _)
      | (go_at_call 15; exact Q2.out _)
      | (go_at_call 13; exact Q3.out _))
    go_wp2
    go_ret
    exact ⟨rfl, HEND.out _⟩
end Go.Proofs.Ytoeilogakfggfaa
