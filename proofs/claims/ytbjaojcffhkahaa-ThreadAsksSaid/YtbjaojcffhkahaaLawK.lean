/-
  The law ThreadAsks.
-/
import Derived.Test.YtbjaojcffhkahaaAskW6
namespace Go.Proofs.Ytbjaojcffhkahaa
open Go.ChangeShapes Go.WideShapes Go.ChangeAt Go.RowKit
set_option linter.unusedVariables false
set_option linter.unusedSimpArgs false
set_option maxRecDepth 20000

section
variable {F G : Nat → Prop} {w0 w w' wr : World} {a Bk Bx Bo n cp no j : Nat} {l : List Bool} {A : Option Addr}
/-- What stays of ThreadAsks: its boxes. -/
structure KB (w0 : World) (Bk Bx Bo : Nat) (A : Option Addr) (n cp no : Nat) (F : Nat → Prop) (wr : World) : Prop where
  cx : wr.cell? ⟨Bx, 0, none⟩ = some (.slice A n cp)
  co : wr.cell? ⟨Bo, 0, none⟩ = some (.int .u8 (no : Int))
  f0 : ¬ F Bk
  f1 : ¬ F Bx
  f2 : ¬ F Bo
  n1 : ¬ Bx = Bk
  n2 : ¬ Bo = Bk
  ge : ∀ b, F b ∨ b = Bk → w0.heap.size ≤ b
  size : w0.heap.size ≤ wr.heap.size
/-- Its thread, behind j touches. -/
structure KL (w0 : World) (a Bk Bx Bo : Nat) (A : Option Addr) (n cp no : Nat) (l : List Bool) (j : Nat) (F : Nat → Prop) (wr : World) : Prop where
  th : ∃ T k, Th F wr a (.func (.func 26) #[] #[ptr Bx, ptr Bo, ptr Bk]) ((l.take j).map b2i) j (.slice none 0 0) [] 0 k T
  vi : Vi wr Bk (j : Int)
  kb : KB w0 Bk Bx Bo A n cp no F wr
/-- Its thread, at its end. -/
structure KD (w0 : World) (a Bk Bx Bo : Nat) (A : Option Addr) (n cp no : Nat) (l : List Bool) (F : Nat → Prop) (wr : World) : Prop where
  th : ∃ O k, Th F wr a .nilFunc [] n O (idx l n) 0 k (.slice none 0 0)
  vi : Vi wr Bk (n : Int)
  kb : KB w0 Bk Bx Bo A n cp no F wr
theorem KB.below (h : KB w0 Bk Bx Bo A n cp no F w) (hb : Below w.heap.size w w') : KB w0 Bk Bx Bo A n cp no F w' := ⟨below_read hb h.cx, below_read hb h.co, h.f0, h.f1, h.f2, h.n1, h.n2, h.ge, Nat.le_trans h.size hb.size⟩
theorem KL.below (h : KL w0 a Bk Bx Bo A n cp no l j F w) (hb : Below w.heap.size w w') : KL w0 a Bk Bx Bo A n cp no l j F w' := by
  obtain ⟨T, k, hT⟩ := h.th
  exact ⟨⟨T, k, hT.below hb⟩, h.vi.only (Only.of_below (fun _ => False) hb) (fun e => e), h.kb.below hb⟩
theorem KD.below (h : KD w0 a Bk Bx Bo A n cp no l F w) (hb : Below w.heap.size w w') : KD w0 a Bk Bx Bo A n cp no l F w' := by
  obtain ⟨T, k, hT⟩ := h.th
  exact ⟨⟨T, k, hT.below hb⟩, h.vi.only (Only.of_below (fun _ => False) hb) (fun e => e), h.kb.below hb⟩

theorem step_k (h : KL w0 a Bk Bx Bo A n cp no l j F w) (hj : j ≤ n) (hn : n ≤ 30) (hno : no < 256) (hbl : Bl w0.heap.size w A n l) :
    Calls Try.prog 12 #[ptr a] w fun e w' => Only (fun b => F b ∨ b = Bk) w w' ∧ ((n ≤ j + 1 ∧ e = .returned (.bool true) ∧ ∃ F', KD w0 a Bk Bx Bo A n cp no l F' w') ∨ (j + 1 < n ∧ e = .returned (.bool false) ∧ ∃ F', KL w0 a Bk Bx Bo A n cp no l (j + 1) F' w')) := by
  obtain ⟨T, k, hT⟩ := h.th
  have hfa := hT.fa
  have oA : ∀ {w1 w2 : World}, Only (· = a) w1 w2 → Only (fun b => F b ∨ b = Bk) w1 w2 := fun o => o.mono fun b e => .inl (by rw [e]; exact hfa)
  have hK := h.kb
  refine (step_walk (G := fun b => F b ∨ b = Bk) (args := #[ptr a, ptr Bx, ptr Bo, ptr Bk])
    (RP := fun F' ws zs' st' w2 => F' a ∧ Only (fun b => F b ∨ b = Bk) w w2 ∧ ws = idx l n ∧ st' = n ∧ n ≤ j + 1 ∧ Vi w2 Bk (n : Int) ∧ ∀ b, F' b → F b ∨ w.heap.size ≤ b)
    (WP := fun F' zs' st' w2 => F' a ∧ Only (fun b => F b ∨ b = Bk) w w2 ∧ j + 1 < n ∧ zs' = (l.take (j + 1)).map b2i ∧ st' = j + 1 ∧ Vi w2 Bk ((j : Int) + 1) ∧ ∀ b, F' b → F b ∨ w.heap.size ≤ b) rfl (fun W => rfl) hT (fun b e => e.elim (hT.lt b) (fun e => by rw [e]; exact h.vi.lt)) ?_).mono ?_
  · intro w1 hT1 hO
    have hO2 := oA hO
    refine (kwork hT1 rfl hj (by omega) (hbl.only hO2 hK.ge) (h.vi.only hO (fun e => hK.f0 (by rw [e]; exact hfa))) (only_read hO2 (fun e => e.elim hK.f1 hK.n1) hK.cx) (only_read hO2 (fun e => e.elim hK.f2 hK.n2) hK.co) hno hK.f0 hK.f1 hK.f2 hK.n1 hK.n2 hK.ge (Nat.le_trans hK.size hO.size)).mono ?_
    intro e w2 hw
    refine hw.mono (fun b e => e) ?_ ?_
    · intro F' ws zs' st' hf ho ⟨r1, r2, r3, r4, r5⟩
      exact ⟨hf, hO2.then ho, r1, r2, r3, r4, fun b e => (r5 b e).imp id (Nat.le_trans hO.size)⟩
    · intro F' zs' st' hf ho ⟨r1, r2, r3, r4, r5⟩
      exact ⟨hf, hO2.then ho, r1, r2, r3, r4, fun b e => (r5 b e).imp id (Nat.le_trans hO.size)⟩
  · have lB := h.vi.lt
    have lX : Bx < w.heap.size := World.block_lt_of_cell? w _ hK.cx
    have lO : Bo < w.heap.size := World.block_lt_of_cell? w _ hK.co
    have kb : ∀ (F2 : Nat → Prop) (w2 : World), (∀ b, F2 b → F b ∨ w.heap.size ≤ b) → Only (fun b => F b ∨ b = Bk) w w2 → KB w0 Bk Bx Bo A n cp no F2 w2 := fun F2 w2 hs ho =>
      ⟨only_read ho (fun e => e.elim hK.f1 hK.n1) hK.cx, only_read ho (fun e => e.elim hK.f2 hK.n2) hK.co, fun e => (hs _ e).elim hK.f0 (by omega), fun e => (hs _ e).elim hK.f1 (by omega), fun e => (hs _ e).elim hK.f2 (by omega), hK.n1, hK.n2, fun b e => by
        rcases e with e | e
        · exact (hs b e).elim (fun e => hK.ge b (.inl e)) (Nat.le_trans hK.size)
        · exact hK.ge b (.inr e), Nat.le_trans hK.size ho.size⟩
    rintro e w' (⟨x, F', ws, zs', st', k', F'', O', rfl, ⟨hf, o1, rfl, rfl, r3, r4, r5⟩, h2, o2, s2⟩ | ⟨x, F', T', zs', st', k', rfl, ⟨hf, o1, r1, rfl, rfl, r4, r5⟩, h2, o2⟩)
    · have hall : Only (fun b => F b ∨ b = Bk) w w' := o1.then (oA o2)
      have hna : ¬ Bk = a := fun e => hK.f0 (by rw [e]; exact hfa)
      exact ⟨hall, .inl ⟨r3, rfl, F'', ⟨⟨O', k', h2⟩, r4.only o2 hna, kb F'' w' (fun b e => by
        rcases s2 b e with e | e
        · exact r5 b e
        · right; have := o1.size; omega) hall⟩⟩⟩
    · have hall : Only (fun b => F b ∨ b = Bk) w w' := o1.then (oA o2)
      have hna : ¬ Bk = a := fun e => hK.f0 (by rw [e]; exact hfa)
      exact ⟨hall, .inr ⟨r1, rfl, F', ⟨⟨T', k', h2⟩, r4.only o2 hna, kb F' w' r5 hall⟩⟩⟩
end

set_option maxHeartbeats 8000000 in
theorem threadAsks_walk (A : Option Addr) (n cp : Nat) (l : List Bool) (no : Nat) (w : World) (hbl : Bl w.heap.size w A n l) (hno : no < 256) :
    Calls Try.prog 8 #[.slice A n cp, .int .u8 (no : Int)] w fun e w' => e = .returned (.bool true) ∧ Below w.heap.size w w' := by
  have hmf := mk_fn
  obtain ⟨W1, hW1, b1, c1⟩ : ∃ W1 : World, w.alloc (.cells #[.slice A n cp] 52) = W1 ∧ Below w.heap.size w W1 ∧ W1.cell? ⟨w.heap.size, 0, none⟩ = some (.slice A n cp) := ⟨_, rfl, below_new _ _, c_new rfl rfl⟩
  have z1 : W1.heap.size = w.heap.size + 1 := by rw [← hW1]; simp
  obtain ⟨W2, hW2, b2, c2⟩ : ∃ W2 : World, W1.alloc (.cells #[.int .u8 (no : Int)] 5) = W2 ∧ Below W1.heap.size W1 W2 ∧ W2.cell? ⟨w.heap.size + 1, 0, none⟩ = some (.int .u8 (no : Int)) := ⟨_, rfl, below_new _ _, c_new z1 rfl⟩
  have c1' := below_read b2 c1
  have HC := Lib.hid (And.intro c1' c2)
  have HB := Lib.hid (b1.trans (b2.mono b1.size))
  have HBL := Lib.hid hbl
  have HW : Hid ((w.alloc (.cells #[.slice A n cp] 52)).alloc (.cells #[.int .u8 (no : Int)] 5) = W2) := by show _ = _; rw [hW1, hW2]
  clear b1 b2 c1 c2 c1' hbl hW1 hW2 z1
  go_enter Try.func8, Try.ntmps8
  go_wp2_with fail
  rw [HW.out]
  refine (awake_walk W2).mono ?_
  rintro e w3 ⟨rfl, b3⟩
  obtain ⟨Bx, hBx⟩ : ∃ Bx, w.heap.size = Bx := ⟨_, rfl⟩
  have q1 := below_read b3 HC.out.1
  have q2 := below_read b3 HC.out.2
  have HB3 : Hid (Below w.heap.size w w3) := HB.out.trans (b3.mono HB.out.size)
  have HX := Lib.hid hBx
  clear b3 HC HB HW
  rw [hBx] at q1 q2 ⊢
  have lX := World.block_lt_of_cell? w3 _ q1
  have lO := World.block_lt_of_cell? w3 _ q2
  simp only at lX lO
  obtain ⟨Bo, hBo⟩ : ∃ Bo, Bx + 1 = Bo := ⟨_, rfl⟩
  have HO := Lib.hid hBo
  rw [hBo] at q2 lO ⊢
  clear hBx hBo
  by_cases hn : n ≤ 30
  · have i1 : ¬ (30 : Int) < (n : Int) := by omega
    have hnew : Calls Try.prog 18 #[.func (.func 26) #[] #[ptr Bx, ptr Bo, ptr w3.heap.size]] (w3.alloc (.cells #[.int .i64 0] 3)) fun e w' => ∃ a F, e = .returned (ptr a) ∧ KL w a w3.heap.size Bx Bo A n cp no l 0 F w' ∧ Below w.heap.size w w' := by
      refine (new_func _ _ _ _).mono ?_
      rintro e w4 ⟨rfl, h4, b4⟩
      have bb := below_new w3 (.cells #[.int .i64 0] 3)
      have v4 : Vi (w3.alloc (.cells #[.int .i64 0] 3)) w3.heap.size 0 := h_new rfl
      have zz : (w3.alloc (.cells #[.int .i64 0] 3)).heap.size = w3.heap.size + 1 := by simp
      have hs := HB3.out.size
      have hb4 : Below w3.heap.size w3 w4 := bb.trans (b4.mono bb.size)
      refine ⟨_, _, rfl, ⟨⟨_, _, by simpa using h4⟩, v4.only (Only.of_below (fun _ => False) b4) (fun e => e), ⟨below_read hb4 q1, below_read hb4 q2, by omega, by omega, by omega, by omega, by omega, fun b e => by omega, Nat.le_trans hs hb4.size⟩⟩, HB3.out.trans (hb4.mono hs)⟩
    have HNEW := Lib.hid hnew
    clear hnew
    go_wp2_with fail
    refine HNEW.out.mono ?_
    clear HNEW q2 q1
    rintro e w4 ⟨a, F, rfl, h4, b4⟩
    have q1 := h4.kb.cx
    generalize w3.heap.size = Bk at *
    have H4 := Lib.hid h4
    have HB4 := Lib.hid b4
    clear h4 b4 HB3 lX lO
    go_wp2
    clear q1
    go_loopw [20] (fun i wr => ∃ k : Nat, k ≤ n ∧ i = .int .i64 k ∧ Below w.heap.size w wr ∧ (((k < n ∨ n = 0) ∧ ∃ F, KL w a Bk Bx Bo A n cp no l k F wr) ∨ (k = n ∧ 0 < n ∧ ∃ F, KD w a Bk Bx Bo A n cp no l F wr))) (fun i _ => n - (intOf i).toNat)
    case atStart => exact ⟨0, by omega, rfl, HB4.out, .inl ⟨by omega, F, H4.out⟩⟩
    case round =>
      clear H4 HB4 F
      obtain ⟨k, hk, rfl, hb, hcase⟩ := hrel
      by_cases hlt : k < n
      · have i2 : (k : Int) < (n : Int) := by omega
        rcases hcase with ⟨_, F, hT⟩ | ⟨hkn, _⟩
        rotate_left
        · omega
        have HBB := Lib.hid hb
        have HT := Lib.hid hT
        clear hT hb
        go_wp2_with fail
        refine region_T (fun _ => false) (fun w' => w'.cell? ⟨Bx, 0, none⟩ = some (.slice A n cp)) (by kernel_rfl) ?_
        obtain ⟨X0, hX0, b0⟩ : ∃ X0 : World, wr.drew = X0 ∧ Below wr.heap.size wr X0 := ⟨_, rfl, (Below.refl _ wr).drew⟩
        rw [hX0]
        clear hX0
        have h0 := HT.out.below b0
        have hC := h0.kb.cx
        have HS0 := Lib.hid (step_k h0 (by omega) (by omega) hno (bl_below HBL.out (HBB.out.trans (b0.mono HBB.out.size))))
        have HB0 := Lib.hid b0
        have HGE := Lib.hid h0.kb.ge
        clear h0 b0 HT
        by_cases hkn : k + 1 = n
        · skip
          have i6 : ((k : Int) == IntKind.i64.wrap ((n : Int) - 1)) = true := by rw [IntWalk.i64_in _ (by omega), beq_iff_eq]; omega
          have i7 : IntKind.i64.wrap ((k : Int) + 1) = (k : Int) + 1 := IntWalk.i64_in _ (by omega)
          have HKN := Lib.hid hkn
          clear hkn
          refine takeD 0 23 (v := ?_) rfl rfl (by kernel_rfl) (by kernel_rfl) (by kernel_rfl) (by kernel_rfl) (fun _ _ _ _ h => h) hC (by rfl) ?_ ?_
          rotate_left
          · intro w hSw; (try dsimp only at hSw); go_simp; try (with_reducible rfl)
          simp only [List.setIfInBounds_toArray, List.set_cons_zero, List.set_cons_succ]
          refine takeD 2 25 (v := ?_) rfl rfl (by kernel_rfl) (by kernel_rfl) (by kernel_rfl) (by kernel_rfl) (fun _ _ _ _ h => h) hC (by rfl) ?_ ?_
          rotate_left
          · intro w hSw; (try dsimp only at hSw); go_simp; try (with_reducible rfl)
          simp only [List.setIfInBounds_toArray, List.set_cons_zero, List.set_cons_succ]
          refine takeD 3 26 (v := ?_) rfl rfl (by kernel_rfl) (by kernel_rfl) (by kernel_rfl) (by kernel_rfl) (fun _ _ _ _ h => h) hC (by rfl) ?_ ?_
          rotate_left
          · intro w hSw; (try dsimp only at hSw); go_simp; try (with_reducible rfl)
          simp only [List.setIfInBounds_toArray, List.set_cons_zero, List.set_cons_succ]
          refine takeD 4 27 (v := ?_) rfl rfl (by kernel_rfl) (by kernel_rfl) (by kernel_rfl) (by kernel_rfl) (fun _ _ _ _ h => h) hC (by rfl) ?_ ?_
          rotate_left
          · intro w hSw; (try dsimp only at hSw); go_simp; try (with_reducible rfl)
          simp only [List.setIfInBounds_toArray, List.set_cons_zero, List.set_cons_succ]
          refine takeD 5 28 (v := ?_) rfl rfl (by kernel_rfl) (by kernel_rfl) (by kernel_rfl) (by kernel_rfl) (fun _ _ _ _ h => h) hC (by rfl) ?_ ?_
          rotate_left
          · intro w hSw; (try dsimp only at hSw); go_simp; try (with_reducible rfl)
          simp only [List.setIfInBounds_toArray, List.set_cons_zero, List.set_cons_succ]
          refine takeD 6 29 (v := ?_) rfl rfl (by kernel_rfl) (by kernel_rfl) (by kernel_rfl) (by kernel_rfl) (fun _ _ _ _ h => h) hC (by rfl) ?_ ?_
          rotate_left
          · intro w hSw; (try dsimp only at hSw); go_simp; try (with_reducible rfl)
          simp only [List.setIfInBounds_toArray, List.set_cons_zero, List.set_cons_succ]
          refine oneT (i := 1) (by kernel_rfl) rfl (by rfl) (fun K hK => ?_)
          go_simp
          refine HS0.out.mono ?_
          clear HS0
          rintro e X1 ⟨o1, ⟨hge, rfl, F1, h1⟩ | ⟨hge, rfl, F1, h1⟩⟩
          · skip
            refine hK.out _ _ (fun _ => h1.kb.cx) ?_
            clear hK K hC
            have hC := h1.kb.cx
            try simp only [Act.put, List.setIfInBounds_toArray, List.set_cons_zero, List.set_cons_succ]
            have hB1 : Below w.heap.size w X1 := (HBB.out.trans (HB0.out.mono HBB.out.size)).trans (o1.below (fun b e => HGE.out b e) (Nat.le_trans HBB.out.size HB0.out.size))
            have H1 := Lib.hid h1
            have HB1 := Lib.hid hB1
            have v1 := h1.vi.cell
            clear h1 hB1 o1
            have v1 : X1.cell? ⟨Bk, 0, none⟩ = some (.int .i64 ((k : Int) + 1)) := by rw [v1, show ((n : Nat) : Int) = (k : Int) + 1 by have := HKN.out; omega]
            refine oneT (i := 7) (by kernel_rfl) rfl (by rfl) (fun K hK => ?_)
            go_simp
            refine hK.out _ _ (fun _ => hC) ?_
            clear hK K
            try simp only [Act.put, List.setIfInBounds_toArray, List.set_cons_zero, List.set_cons_succ]
            refine oneT (i := 8) (by kernel_rfl) rfl (by rfl) (fun K hK => ?_)
            go_simp
            refine hK.out _ _ (fun _ => hC) ?_
            clear hK K
            try simp only [Act.put, List.setIfInBounds_toArray, List.set_cons_zero, List.set_cons_succ]
            refine narrowT (C := fun w' => w'.cell? ⟨Bk, 0, none⟩ = some (.int .i64 ((k : Int) + 1)) ∧ w'.cell? ⟨Bx, 0, none⟩ = some (.slice A n cp)) (fun _ h => h.2) _ _ _ _ ?_
            have hC2 : X1.cell? ⟨Bk, 0, none⟩ = some (.int .i64 ((k : Int) + 1)) ∧ X1.cell? ⟨Bx, 0, none⟩ = some (.slice A n cp) := ⟨v1, hC⟩
            clear hC v1
            have hC := hC2
            clear hC2
            refine takeD 9 32 (v := ?_) rfl rfl (by kernel_rfl) (by kernel_rfl) (by kernel_rfl) (by kernel_rfl) (fun _ _ _ _ h => h) hC (by rfl) ?_ ?_
            rotate_left
            · intro w hSw; (try dsimp only at hSw); go_simp; try (with_reducible rfl)
            simp only [List.setIfInBounds_toArray, List.set_cons_zero, List.set_cons_succ]
            refine takeD 10 33 (v := ?_) rfl rfl (by kernel_rfl) (by kernel_rfl) (by kernel_rfl) (by kernel_rfl) (fun _ _ _ _ h => h) hC (by rfl) ?_ ?_
            rotate_left
            · intro w hSw; (try dsimp only at hSw); go_simp; try (with_reducible rfl)
            simp only [List.setIfInBounds_toArray, List.set_cons_zero, List.set_cons_succ]
            refine takeD 11 34 (v := ?_) rfl rfl (by kernel_rfl) (by kernel_rfl) (by kernel_rfl) (by kernel_rfl) (fun _ _ _ _ h => h) hC (by rfl) ?_ ?_
            rotate_left
            · intro w hSw; (try dsimp only at hSw); go_simp; try (with_reducible rfl)
            simp only [List.setIfInBounds_toArray, List.set_cons_zero, List.set_cons_succ]
            refine oneT (i := 12) (by kernel_rfl) rfl (by rfl) (fun K hK => ?_)
            go_simp
            refine hK.out _ _ (fun _ => hC) ?_
            clear hK K
            try simp only [Act.put, List.setIfInBounds_toArray, List.set_cons_zero, List.set_cons_succ]
            refine oneT (i := 13) (by kernel_rfl) rfl (by rfl) (fun K hK => ?_)
            go_simp
            refine hK.out _ _ (fun _ => hC) ?_
            clear hK K
            try simp only [Act.put, List.setIfInBounds_toArray, List.set_cons_zero, List.set_cons_succ]
            refine doneT (by kernel_rfl) ?_
            clear hC
            go_wp2
            go_roundw
            case rel => exact ⟨k + 1, by omega, by go_num, HB1.out, .inr ⟨HKN.out, by omega, F1, H1.out⟩⟩
            case measure => simp [intOf]; omega
          · have := HKN.out; omega
        · skip
          have i6 : ((k : Int) == IntKind.i64.wrap ((n : Int) - 1)) = false := by rw [IntWalk.i64_in _ (by omega), beq_eq_false_iff_ne]; omega
          have i7 : IntKind.i64.wrap ((k : Int) + 1) = (k : Int) + 1 := IntWalk.i64_in _ (by omega)
          have HKN := Lib.hid hkn
          clear hkn
          refine takeD 0 23 (v := ?_) rfl rfl (by kernel_rfl) (by kernel_rfl) (by kernel_rfl) (by kernel_rfl) (fun _ _ _ _ h => h) hC (by rfl) ?_ ?_
          rotate_left
          · intro w hSw; (try dsimp only at hSw); go_simp; try (with_reducible rfl)
          simp only [List.setIfInBounds_toArray, List.set_cons_zero, List.set_cons_succ]
          refine takeD 2 25 (v := ?_) rfl rfl (by kernel_rfl) (by kernel_rfl) (by kernel_rfl) (by kernel_rfl) (fun _ _ _ _ h => h) hC (by rfl) ?_ ?_
          rotate_left
          · intro w hSw; (try dsimp only at hSw); go_simp; try (with_reducible rfl)
          simp only [List.setIfInBounds_toArray, List.set_cons_zero, List.set_cons_succ]
          refine takeD 3 26 (v := ?_) rfl rfl (by kernel_rfl) (by kernel_rfl) (by kernel_rfl) (by kernel_rfl) (fun _ _ _ _ h => h) hC (by rfl) ?_ ?_
          rotate_left
          · intro w hSw; (try dsimp only at hSw); go_simp; try (with_reducible rfl)
          simp only [List.setIfInBounds_toArray, List.set_cons_zero, List.set_cons_succ]
          refine takeD 4 27 (v := ?_) rfl rfl (by kernel_rfl) (by kernel_rfl) (by kernel_rfl) (by kernel_rfl) (fun _ _ _ _ h => h) hC (by rfl) ?_ ?_
          rotate_left
          · intro w hSw; (try dsimp only at hSw); go_simp; try (with_reducible rfl)
          simp only [List.setIfInBounds_toArray, List.set_cons_zero, List.set_cons_succ]
          refine takeD 5 28 (v := ?_) rfl rfl (by kernel_rfl) (by kernel_rfl) (by kernel_rfl) (by kernel_rfl) (fun _ _ _ _ h => h) hC (by rfl) ?_ ?_
          rotate_left
          · intro w hSw; (try dsimp only at hSw); go_simp; try (with_reducible rfl)
          simp only [List.setIfInBounds_toArray, List.set_cons_zero, List.set_cons_succ]
          refine takeD 6 29 (v := ?_) rfl rfl (by kernel_rfl) (by kernel_rfl) (by kernel_rfl) (by kernel_rfl) (fun _ _ _ _ h => h) hC (by rfl) ?_ ?_
          rotate_left
          · intro w hSw; (try dsimp only at hSw); go_simp; try (with_reducible rfl)
          simp only [List.setIfInBounds_toArray, List.set_cons_zero, List.set_cons_succ]
          refine oneT (i := 1) (by kernel_rfl) rfl (by rfl) (fun K hK => ?_)
          go_simp
          refine HS0.out.mono ?_
          clear HS0
          rintro e X1 ⟨o1, ⟨hge, rfl, F1, h1⟩ | ⟨hge, rfl, F1, h1⟩⟩
          · have := HKN.out; omega
          · skip
            refine hK.out _ _ (fun _ => h1.kb.cx) ?_
            clear hK K hC
            have hC := h1.kb.cx
            try simp only [Act.put, List.setIfInBounds_toArray, List.set_cons_zero, List.set_cons_succ]
            have hB1 : Below w.heap.size w X1 := (HBB.out.trans (HB0.out.mono HBB.out.size)).trans (o1.below (fun b e => HGE.out b e) (Nat.le_trans HBB.out.size HB0.out.size))
            have H1 := Lib.hid h1
            have HB1 := Lib.hid hB1
            have v1 := h1.vi.cell
            clear h1 hB1 o1
            have v1 : X1.cell? ⟨Bk, 0, none⟩ = some (.int .i64 ((k : Int) + 1)) := v1
            refine oneT (i := 7) (by kernel_rfl) rfl (by rfl) (fun K hK => ?_)
            go_simp
            refine hK.out _ _ (fun _ => hC) ?_
            clear hK K
            try simp only [Act.put, List.setIfInBounds_toArray, List.set_cons_zero, List.set_cons_succ]
            refine oneT (i := 8) (by kernel_rfl) rfl (by rfl) (fun K hK => ?_)
            go_simp
            refine hK.out _ _ (fun _ => hC) ?_
            clear hK K
            try simp only [Act.put, List.setIfInBounds_toArray, List.set_cons_zero, List.set_cons_succ]
            refine narrowT (C := fun w' => w'.cell? ⟨Bk, 0, none⟩ = some (.int .i64 ((k : Int) + 1)) ∧ w'.cell? ⟨Bx, 0, none⟩ = some (.slice A n cp)) (fun _ h => h.2) _ _ _ _ ?_
            have hC2 : X1.cell? ⟨Bk, 0, none⟩ = some (.int .i64 ((k : Int) + 1)) ∧ X1.cell? ⟨Bx, 0, none⟩ = some (.slice A n cp) := ⟨v1, hC⟩
            clear hC v1
            have hC := hC2
            clear hC2
            refine takeD 9 32 (v := ?_) rfl rfl (by kernel_rfl) (by kernel_rfl) (by kernel_rfl) (by kernel_rfl) (fun _ _ _ _ h => h) hC (by rfl) ?_ ?_
            rotate_left
            · intro w hSw; (try dsimp only at hSw); go_simp; try (with_reducible rfl)
            simp only [List.setIfInBounds_toArray, List.set_cons_zero, List.set_cons_succ]
            refine takeD 10 33 (v := ?_) rfl rfl (by kernel_rfl) (by kernel_rfl) (by kernel_rfl) (by kernel_rfl) (fun _ _ _ _ h => h) hC (by rfl) ?_ ?_
            rotate_left
            · intro w hSw; (try dsimp only at hSw); go_simp; try (with_reducible rfl)
            simp only [List.setIfInBounds_toArray, List.set_cons_zero, List.set_cons_succ]
            refine takeD 11 34 (v := ?_) rfl rfl (by kernel_rfl) (by kernel_rfl) (by kernel_rfl) (by kernel_rfl) (fun _ _ _ _ h => h) hC (by rfl) ?_ ?_
            rotate_left
            · intro w hSw; (try dsimp only at hSw); go_simp; try (with_reducible rfl)
            simp only [List.setIfInBounds_toArray, List.set_cons_zero, List.set_cons_succ]
            refine oneT (i := 12) (by kernel_rfl) rfl (by rfl) (fun K hK => ?_)
            go_simp
            refine hK.out _ _ (fun _ => hC) ?_
            clear hK K
            try simp only [Act.put, List.setIfInBounds_toArray, List.set_cons_zero, List.set_cons_succ]
            refine oneT (i := 13) (by kernel_rfl) rfl (by rfl) (fun K hK => ?_)
            go_simp
            refine hK.out _ _ (fun _ => hC) ?_
            clear hK K
            try simp only [Act.put, List.setIfInBounds_toArray, List.set_cons_zero, List.set_cons_succ]
            refine doneT (by kernel_rfl) ?_
            clear hC
            go_wp2
            go_roundw
            case rel => exact ⟨k + 1, by omega, by go_num, HB1.out, .inl ⟨by have := HKN.out; omega, F1, H1.out⟩⟩
            case measure => simp [intOf]; omega
      · have hke : k = n := by omega
        subst hke
        have i2 : ¬ (k : Int) < (k : Int) := by omega
        have hfin : Calls Try.prog 12 #[ptr a] wr fun e w' => (∃ b, e = .returned (.bool b)) ∧ Below w.heap.size w w' ∧ ∃ F, KD w a Bk Bx Bo A k cp no l F w' := by
          rcases hcase with ⟨h0, F, hT⟩ | ⟨_, _, F, hT⟩
          · refine (step_k hT (by omega) (by omega) hno (bl_below HBL.out hb)).mono ?_
            rintro e w' ⟨o1, ⟨_, rfl, F1, h1⟩ | ⟨h1, _⟩⟩
            · exact ⟨⟨_, rfl⟩, hb.trans (o1.below (fun b e => hT.kb.ge b e) hb.size), F1, h1⟩
            · omega
          · obtain ⟨O, k', hTT⟩ := hT.th
            refine (step_done hTT).mono ?_
            rintro e w' ⟨rfl, rfl⟩
            exact ⟨⟨_, rfl⟩, hb, F, hT⟩
        have HFIN := Lib.hid hfin
        clear hfin hcase hb
        go_wp2_with fail
        refine HFIN.out.mono ?_
        clear HFIN
        rintro e w5 ⟨⟨bb, rfl⟩, hb5, F, h5⟩
        have q1 := h5.kb.cx
        have H5 := Lib.hid h5
        have HB5 := Lib.hid hb5
        clear h5 hb5
        go_wp2
        clear q1
        go_loopw [8, 42] (fun u i wr => ∃ q : Nat, q ≤ k ∧ i = .int .i64 q ∧ Row 2 w5.heap.size wr u (idx l q) ∧ Below w5.heap.size w5 wr) (fun _ i _ => k - (intOf i).toNat)
        case atStart => exact ⟨0, by omega, rfl, Row.nil _ _ _, Below.refl _ _⟩
        case round =>
          obtain ⟨q, hq, rfl, hrow, hbr⟩ := hrel
          obtain ⟨Au, nu, cu, rfl⟩ := hrow.shape
          by_cases hlt2 : q < k
          · have i4 : (q : Int) < (k : Int) := by omega
            have i5 : (0 : Int) ≤ (q : Int) := by omega
            obtain ⟨b, off, rfl, hbB, x, hxl, hcx⟩ := (bl_below HBL.out (HB5.out.trans (hbr.mono HB5.out.size))).at_ hlt2
            have HXG : Hid (l.getD q false = x) := by show _ = _; simp [List.getD, hxl]
            have HR := Lib.hid hrow
            have HBR := Lib.hid hbr
            clear hxl hrow hbr
            cases x with
            | false =>
              go_wp2
              go_roundw
              case rel => exact ⟨q + 1, by omega, by go_num, by rw [idx_succ, HXG.out]; exact HR.out, HBR.out⟩
              case measure => simp [intOf]; omega
            | true =>
              obtain ⟨W6, s, hW6, hs, b6, e6⟩ : ∃ (W6 : World) (s : Nat), wr.alloc (.cells #[.int .i64 (q : Int)] 2) = W6 ∧ wr.heap.size = s ∧ Below wr.heap.size wr W6 ∧ W6.cell? ⟨s, 0, none⟩ = some (.int .i64 (q : Int)) := ⟨_, _, rfl, rfl, below_new _ _, c_new rfl rfl⟩
              have hb6 : Below w5.heap.size w5 W6 := HBR.out.trans (b6.mono HBR.out.size)
              obtain ⟨v', W7, hrun, r7, g7⟩ := run_pushAll rowK 26 _ _ (HR.out.next b6) _ _ _ _ (sl_one e6) (by have := idx_len l q; simp; omega) hb6.size
              have HR7 := Lib.hid r7
              have HB7 : Hid (Below w5.heap.size w5 W7) := hb6.grown g7 hb6.size (fun b e => (World.ownsRow.lt (HR.out.next b6) b e).1)
              obtain ⟨Av, nv, cv, rfl⟩ := r7.shape
              clear r7 g7 b6 e6 hb6
              go_wp2_with (at_builtin; refine Lib.wpList_append_run _ rfl _ _ _ _ rfl _ _ rfl rfl _ _ hrun ?_)
              go_roundw
              case rel => exact ⟨q + 1, by omega, by go_num, by rw [idx_succ, HXG.out]; exact HR7.out, HB7.out⟩
              case measure => simp [intOf]; omega
          · have hqe : q = k := by omega
            subst hqe
            have i4 : ¬ (q : Int) < (q : Int) := by omega
            have h6 := H5.out.below hbr
            have HW6 : Hid (Below w.heap.size w wr) := HB5.out.trans (hbr.mono HB5.out.size)
            obtain ⟨O, k', hTT⟩ := h6.th
            have HC : Hid (∀ w', Below wr.heap.size wr w' → w'.cell? ⟨Bx, 0, none⟩ = some (.slice A q cp)) := fun w' h => below_read h h6.kb.cx
            have HT := Lib.hid hTT
            have HR := Lib.hid hrow
            clear hrow hbr h6 hTT
            go_wp2_with fail
            refine region_T (fun _ => false) (fun w' => w'.cell? ⟨Bx, 0, none⟩ = some (.slice A q cp)) (by kernel_rfl) ?_
            obtain ⟨X0, hX0, b0⟩ : ∃ X0 : World, wr.drew = X0 ∧ Below wr.heap.size wr X0 := ⟨_, rfl, (Below.refl _ wr).drew⟩
            rw [hX0]
            clear hX0
            have hC := HC.out X0 b0
            have HT0 := Lib.hid (HT.out.below b0)
            have HB0 := Lib.hid b0
            clear b0
            refine takeD 0 53 (v := ?_) rfl rfl (by kernel_rfl) (by kernel_rfl) (by kernel_rfl) (by kernel_rfl) (fun _ _ _ _ h => h) hC (by rfl) ?_ ?_
            rotate_left
            · intro w hSw; (try dsimp only at hSw); go_simp; try (with_reducible rfl)
            simp only [List.setIfInBounds_toArray, List.set_cons_zero, List.set_cons_succ]
            refine oneT (i := 1) (by kernel_rfl) rfl (by rfl) (fun K hK => ?_)
            go_simp
            refine (done_yes HT0.out).mono ?_
            rintro e y ⟨rfl, rfl⟩
            refine hK.out _ _ (fun _ => hC) ?_
            clear hK K
            try simp only [Act.put, List.setIfInBounds_toArray, List.set_cons_zero, List.set_cons_succ]
            refine oneT (i := 2) (by kernel_rfl) rfl (by rfl) (fun K hK => ?_)
            go_simp
            refine hK.out _ _ (fun _ => hC) ?_
            clear hK K
            try simp only [Act.put, List.setIfInBounds_toArray, List.set_cons_zero, List.set_cons_succ]
            refine takeD 3 56 (v := ?_) rfl rfl (by kernel_rfl) (by kernel_rfl) (by kernel_rfl) (by kernel_rfl) (fun _ _ _ _ h => h) hC (by rfl) ?_ ?_
            rotate_left
            · intro w hSw; (try dsimp only at hSw); go_simp; try (with_reducible rfl)
            simp only [List.setIfInBounds_toArray, List.set_cons_zero, List.set_cons_succ]
            refine takeD 5 58 (v := ?_) rfl rfl (by kernel_rfl) (by kernel_rfl) (by kernel_rfl) (by kernel_rfl) (fun _ _ _ _ h => h) hC (by rfl) ?_ ?_
            rotate_left
            · intro w hSw; (try dsimp only at hSw); go_simp; try (with_reducible rfl)
            simp only [List.setIfInBounds_toArray, List.set_cons_zero, List.set_cons_succ]
            refine takeD 6 59 (v := ?_) rfl rfl (by kernel_rfl) (by kernel_rfl) (by kernel_rfl) (by kernel_rfl) (fun _ _ _ _ h => h) hC (by rfl) ?_ ?_
            rotate_left
            · intro w hSw; (try dsimp only at hSw); go_simp; try (with_reducible rfl)
            simp only [List.setIfInBounds_toArray, List.set_cons_zero, List.set_cons_succ]
            refine oneT (i := 4) (by kernel_rfl) rfl (by rfl) (fun K hK => ?_)
            go_simp
            refine (steps_walk HT0.out).mono ?_
            rintro e y ⟨rfl, rfl⟩
            refine hK.out _ _ (fun _ => hC) ?_
            clear hK K
            try simp only [Act.put, List.setIfInBounds_toArray, List.set_cons_zero, List.set_cons_succ]
            refine oneT (i := 7) (by kernel_rfl) rfl (by rfl) (fun K hK => ?_)
            go_simp
            refine hK.out _ _ (fun _ => hC) ?_
            clear hK K
            try simp only [Act.put, List.setIfInBounds_toArray, List.set_cons_zero, List.set_cons_succ]
            refine oneT (i := 8) (by kernel_rfl) rfl (by rfl) (fun K hK => ?_)
            go_simp
            refine hK.out _ _ (fun _ => hC) ?_
            clear hK K
            try simp only [Act.put, List.setIfInBounds_toArray, List.set_cons_zero, List.set_cons_succ]
            refine oneT (i := 9) (by kernel_rfl) rfl (by rfl) (fun K hK => ?_)
            go_simp
            refine hK.out _ _ (fun _ => hC) ?_
            clear hK K
            try simp only [Act.put, List.setIfInBounds_toArray, List.set_cons_zero, List.set_cons_succ]
            refine takeD 10 63 (v := ?_) rfl rfl (by kernel_rfl) (by kernel_rfl) (by kernel_rfl) (by kernel_rfl) (fun _ _ _ _ h => h) hC (by rfl) ?_ ?_
            rotate_left
            · intro w hSw; (try dsimp only at hSw); go_simp; try (with_reducible rfl)
            simp only [List.setIfInBounds_toArray, List.set_cons_zero, List.set_cons_succ]
            refine takeD 12 65 (v := ?_) rfl rfl (by kernel_rfl) (by kernel_rfl) (by kernel_rfl) (by kernel_rfl) (fun _ _ _ _ h => h) hC (by rfl) ?_ ?_
            rotate_left
            · intro w hSw; (try dsimp only at hSw); go_simp; try (with_reducible rfl)
            simp only [List.setIfInBounds_toArray, List.set_cons_zero, List.set_cons_succ]
            refine oneT (i := 11) (by kernel_rfl) rfl (by rfl) (fun K hK => ?_)
            go_simp
            refine (out_walk HT0.out (by have := idx_len l q; omega)).mono ?_
            rintro e X5 ⟨v, rfl, hr5, b5⟩
            obtain ⟨Q5, n5, d5, rfl⟩ := hr5.shape
            have b05 : Below wr.heap.size wr X5 := HB0.out.trans (b5.mono HB0.out.size)
            refine hK.out _ _ (fun _ => HC.out X5 b05) ?_
            clear hK K hC
            have hC := HC.out X5 b05
            try simp only [Act.put, List.setIfInBounds_toArray, List.set_cons_zero, List.set_cons_succ]
            have HS5 := Lib.hid hr5.sl
            have HS6 := Lib.hid (HR.out.sl.below b05)
            have HB5' : Hid (Below w.heap.size w X5) := HW6.out.trans (b05.mono HW6.out.size)
            have HX5 := Lib.hid b05
            clear hr5 b5 b05
            refine oneT (i := 13) (by kernel_rfl) rfl (by rfl) (fun K hK => ?_)
            go_simp
            refine (same_walk Q5 Au n5 d5 nu cu (idx l q) (idx l q) X5 HS5.out HS6.out (by have h1 := HS5.out.len; have h2 := idx_len l q; omega)).mono ?_
            rintro e X6 ⟨rfl, b6⟩
            rw [show decide (idx l q = idx l q) = true from decide_eq_true rfl]
            have b56 := HX5.out.trans (b6.mono HX5.out.size)
            refine hK.out _ _ (fun _ => HC.out X6 b56) ?_
            clear hK K hC
            have hC := HC.out X6 b56
            have HB6 : Hid (Below w.heap.size w X6) := HB5'.out.trans (b6.mono HB5'.out.size)
            clear b6 b56
            try simp only [Act.put, List.setIfInBounds_toArray, List.set_cons_zero, List.set_cons_succ]
            refine oneT (i := 14) (by kernel_rfl) rfl (by rfl) (fun K hK => ?_)
            go_simp
            refine hK.out _ _ (fun _ => hC) ?_
            clear hK K
            try simp only [Act.put, List.setIfInBounds_toArray, List.set_cons_zero, List.set_cons_succ]
            refine oneT (i := 15) (by kernel_rfl) rfl (by rfl) (fun K hK => ?_)
            go_simp
            refine hK.out _ _ (fun _ => hC) ?_
            clear hK K
            try simp only [Act.put, List.setIfInBounds_toArray, List.set_cons_zero, List.set_cons_succ]
            refine doneT (by kernel_rfl) ?_
            clear hC HC
            go_wp2
            go_ret
            exact ⟨rfl, HB6.out⟩
  · have i1 : (30 : Int) < (n : Int) := by omega
    go_wp2
    go_ret
    exact ⟨rfl, HB3.out⟩
end Go.Proofs.Ytbjaojcffhkahaa
