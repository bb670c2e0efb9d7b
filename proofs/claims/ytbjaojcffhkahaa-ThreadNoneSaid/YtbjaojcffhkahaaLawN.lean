/-
  The law ThreadNone.
-/
import Derived.Test.YtbjaojcffhkahaaAwake6
namespace Go.Proofs.Ytbjaojcffhkahaa
open Go.ChangeShapes Go.WideShapes Go.ChangeAt Go.RowKit
set_option linter.unusedVariables false
set_option linter.unusedSimpArgs false
set_option maxRecDepth 20000

theorem Sl.keep_only {G : Nat → Prop} {w w' : World} {A : Option Addr} {n c : Nat} {l : List Int} (h : Sl w A n c l) (ho : Only G w w') (hG : ∀ b off, A = some ⟨b, off, none⟩ → n ≠ 0 → ¬ G b) : Sl w' A n c l := by
  refine ⟨h.len, h.cap, h.none_, ?_⟩
  rcases h.cells with e | ⟨b, off, e, hc⟩
  · exact .inl e
  · by_cases h0 : n = 0
    · exact .inl (List.eq_nil_of_length_eq_zero (by rw [← h.len]; exact h0))
    · exact .inr ⟨b, off, e, fun i z hi => only_read ho (hG b off e h0) (hc i z hi)⟩
/-- Work without a touch. -/
theorem nwork {F : Nat → Prop} {w : World} {a B n c : Nat} {A : Option Addr} {wk T : Value} {l : List Int} (h : Th F w a wk [] 0 (.slice none 0 0) [] 1 0 T) (hc : w.cell? ⟨B, 0, none⟩ = some (.slice A n c)) (hs : Sl w A n c l) (hn : n ≤ 40) :
    Calls Try.prog 19 #[ptr a, ptr B] w (WEnd a wk (fun F' ws zs' st' w2 => ws = l ∧ st' = 0 ∧ (∀ b, F' b → F b) ∧ w = w2) (fun _ _ _ _ => False) (fun _ => False) w) := by
  have HE : Hid (WEnd a wk (fun F' ws zs' st' w2 => ws = l ∧ st' = 0 ∧ (∀ b, F' b → F b) ∧ w = w2) (fun _ _ _ _ => False) (fun _ => False) w (.returned (.slice A n c)) w) := ⟨Only.refl _ _, .inl ⟨F, T, [], 0, 0, 1, A, n, c, l, rfl, hs, by have := hs.len; omega, by omega, by omega, h, rfl, rfl, fun _ e => e, rfl⟩⟩
  clear h hs
  go_enter Try.func19, Try.ntmps19
  go_wp2
  go_ret
  exact HE.out

set_option maxHeartbeats 4000000 in
theorem threadNone_walk (A : Option Addr) (n c : Nat) (l : List Int) (w : World) (hs : Sl w A n c l) :
    Calls Try.prog 6 #[.slice A n c] w fun e w' => e = .returned (.bool true) ∧ Below w.heap.size w w' := by
  have hmf := mk_fn
  obtain ⟨W1, B, hW1, hB, b1, c1⟩ : ∃ (W1 : World) (B : Nat), w.alloc (.cells #[.slice A n c] 26) = W1 ∧ w.heap.size = B ∧ Below w.heap.size w W1 ∧ W1.cell? ⟨B, 0, none⟩ = some (.slice A n c) := ⟨_, _, rfl, rfl, below_new _ _, c_new rfl rfl⟩
  have s1 := hs.below b1
  have HB := Lib.hid b1
  have HS := Lib.hid s1
  have HL := Lib.hid hs.len
  have HBB := Lib.hid hB
  clear b1 s1 hs
  go_enter Try.func6, Try.ntmps6
  go_wp2_with fail
  (try rw [hW1]); (try rw [hB])
  refine (awake_walk W1).mono ?_
  rintro e w2 ⟨rfl, b2⟩
  have c2 := below_read b2 c1
  have s2 := HS.out.below b2
  have hw2 : Below w.heap.size w w2 := HB.out.trans (b2.mono HB.out.size)
  clear c1 HS HB b2 hW1 hB
  by_cases hn : n ≤ 40
  · have i1 : ¬ (40 : Int) < (n : Int) := by omega
    have H2 := Lib.hid s2
    have HW := Lib.hid hw2
    clear s2 hw2
    go_wp2_with fail
    refine (new_func (.func 19) #[] #[ptr B] w2).mono ?_
    rintro e w3 ⟨rfl, h3, b3⟩
    have c3 := below_read b3 c2
    have s3 := H2.out.below b3
    have hw3 : Below w.heap.size w w3 := HW.out.trans (b3.mono HW.out.size)
    have hBa : ¬ B = w2.heap.size := by have := World.block_lt_of_cell? w2 _ c2; simp at this; omega
    have hga : w.heap.size ≤ w2.heap.size := HW.out.size
    have hsA : ∀ b off, A = some ⟨b, off, none⟩ → n ≠ 0 → ¬ b = w2.heap.size := fun b off e hn0 eb => by
      obtain ⟨b', off', e', hb', _⟩ := H2.out.at0 (k := 0) (by omega)
      rw [e] at e'; injection e' with e'; injection e' with e1 e2; omega
    clear c2 H2 HW b3
    generalize w2.heap.size = a at *
    go_wp2_with fail
    refine region_T (fun _ => false) (fun _ => True) (by kernel_rfl) ?_
    have hC : True := trivial
    obtain ⟨X0, hX0, b0⟩ : ∃ X0 : World, w3.drew = X0 ∧ Below w3.heap.size w3 X0 := ⟨_, rfl, (Below.refl _ w3).drew⟩
    rw [hX0]
    clear hX0
    have h0 := h3.below b0
    have c0 := below_read b0 c3
    have s0 := s3.below b0
    have hw0 : Below w.heap.size w X0 := hw3.trans (b0.mono hw3.size)
    clear h3 c3 s3 hw3 b0
    refine oneT (i := 0) (by kernel_rfl) rfl (by rfl) (fun K hK => ?_)
    go_simp
    refine hK.out _ _ (fun _ => hC) ?_
    clear hK K
    try simp only [Act.put, List.setIfInBounds_toArray, List.set_cons_zero, List.set_cons_succ]
    refine oneT (i := 1) (by kernel_rfl) rfl (by rfl) (fun K hK => ?_)
    go_simp
    refine (done_no h0).mono ?_
    rintro e y ⟨rfl, rfl⟩
    refine hK.out _ _ (fun _ => hC) ?_
    clear hK K
    try simp only [Act.put, List.setIfInBounds_toArray, List.set_cons_zero, List.set_cons_succ]
    refine oneT (i := 2) (by kernel_rfl) rfl (by rfl) (fun K hK => ?_)
    go_simp
    refine hK.out _ _ (fun _ => hC) ?_
    clear hK K
    try simp only [Act.put, List.setIfInBounds_toArray, List.set_cons_zero, List.set_cons_succ]
    refine oneT (i := 3) (by kernel_rfl) rfl (by rfl) (fun K hK => ?_)
    go_simp
    refine hK.out _ _ (fun _ => hC) ?_
    clear hK K
    try simp only [Act.put, List.setIfInBounds_toArray, List.set_cons_zero, List.set_cons_succ]
    refine oneT (i := 4) (by kernel_rfl) rfl (by rfl) (fun K hK => ?_)
    go_simp
    refine (out_walk h0 (by simp)).mono ?_
    rintro e X1 ⟨v, rfl, hr1, b1⟩
    obtain ⟨A1, n1, d1, rfl⟩ := hr1.shape
    obtain rfl : n1 = 0 := hr1.sl.len
    refine hK.out _ _ (fun _ => hC) ?_
    clear hK K
    try simp only [Act.put, List.setIfInBounds_toArray, List.set_cons_zero, List.set_cons_succ]
    have h1 := h0.below b1
    have c1 := below_read b1 c0
    have s1 := s0.below b1
    have hw1 : Below w.heap.size w X1 := hw0.trans (b1.mono hw0.size)
    clear h0 c0 s0 hw0 b1 hr1
    refine oneT (i := 5) (by kernel_rfl) rfl (by rfl) (fun K hK => ?_)
    go_simp
    refine hK.out _ _ (fun _ => hC) ?_
    clear hK K
    try simp only [Act.put, List.setIfInBounds_toArray, List.set_cons_zero, List.set_cons_succ]
    refine oneT (i := 6) (by kernel_rfl) rfl (by rfl) (fun K hK => ?_)
    go_simp
    refine hK.out _ _ (fun _ => hC) ?_
    clear hK K
    try simp only [Act.put, List.setIfInBounds_toArray, List.set_cons_zero, List.set_cons_succ]
    refine oneT (i := 7) (by kernel_rfl) rfl (by rfl) (fun K hK => ?_)
    go_simp
    refine hK.out _ _ (fun _ => hC) ?_
    clear hK K
    try simp only [Act.put, List.setIfInBounds_toArray, List.set_cons_zero, List.set_cons_succ]
    refine oneT (i := 8) (by kernel_rfl) rfl (by rfl) (fun K hK => ?_)
    go_simp
    refine hK.out _ _ (fun _ => hC) ?_
    clear hK K
    try simp only [Act.put, List.setIfInBounds_toArray, List.set_cons_zero, List.set_cons_succ]
    refine oneT (i := 9) (by kernel_rfl) rfl (by rfl) (fun K hK => ?_)
    go_simp
    refine hK.out _ _ (fun _ => hC) ?_
    clear hK K
    try simp only [Act.put, List.setIfInBounds_toArray, List.set_cons_zero, List.set_cons_succ]
    refine oneT (i := 10) (by kernel_rfl) rfl (by rfl) (fun K hK => ?_)
    go_simp
    refine (step_walk (G := fun _ => False) (args := #[ptr a, ptr B]) (RP := fun F' ws zs' st' w2 => ws = l ∧ st' = 0 ∧ (∀ b, F' b → b = a) ∧ Only (· = a) X1 w2) (WP := fun _ _ _ _ => False) rfl (fun W => rfl) h1 (fun b e => e.elim) (by
      intro x hT hO
      refine (nwork hT (only_read hO (fun e => hBa e) c1) (s1.keep_only hO hsA) hn).mono ?_
      intro e y hw
      refine hw.mono (fun b e => e) ?_ (fun _ _ _ _ _ h => h)
      intro F2 ws zs' st' hf ho ⟨r1, r2, r3, r4⟩
      subst r4
      exact ⟨r1, r2, r3, hO⟩)).mono ?_
    rintro e X2 (⟨x, F', ws, zs', st', k', F2, O', rfl, ⟨rfl, rfl, r3, r4⟩, h2, o2, s2⟩ | ⟨x, F', T', zs', st', k', rfl, hF, _⟩)
    rotate_left
    · exact hF.elim
    refine hK.out _ _ (fun _ => hC) ?_
    clear hK K
    try simp only [Act.put, List.setIfInBounds_toArray, List.set_cons_zero, List.set_cons_succ]
    have o12 : Only (· = a) X1 X2 := r4.then o2
    have c2 := only_read o12 (show ¬ B = a from hBa) c1
    have s2' := s1.keep_only o12 hsA
    have hw2 : Below w.heap.size w X2 := hw1.trans (o12.below (fun b e => by omega) hw1.size)
    clear h1 c1 s1 hw1 r4 o2 s2 o12
    refine oneT (i := 11) (by kernel_rfl) rfl (by rfl) (fun K hK => ?_)
    go_simp
    refine hK.out _ _ (fun _ => hC) ?_
    clear hK K
    try simp only [Act.put, List.setIfInBounds_toArray, List.set_cons_zero, List.set_cons_succ]
    refine oneT (i := 12) (by kernel_rfl) rfl (by rfl) (fun K hK => ?_)
    go_simp
    refine hK.out _ _ (fun _ => hC) ?_
    clear hK K
    try simp only [Act.put, List.setIfInBounds_toArray, List.set_cons_zero, List.set_cons_succ]
    refine oneT (i := 13) (by kernel_rfl) rfl (by rfl) (fun K hK => ?_)
    go_simp
    refine hK.out _ _ (fun _ => hC) ?_
    clear hK K
    try simp only [Act.put, List.setIfInBounds_toArray, List.set_cons_zero, List.set_cons_succ]
    refine oneT (i := 14) (by kernel_rfl) rfl (by rfl) (fun K hK => ?_)
    go_simp
    refine hK.out _ _ (fun _ => hC) ?_
    clear hK K
    try simp only [Act.put, List.setIfInBounds_toArray, List.set_cons_zero, List.set_cons_succ]
    refine oneT (i := 15) (by kernel_rfl) rfl (by rfl) (fun K hK => ?_)
    go_simp
    refine (done_yes h2).mono ?_
    rintro e y ⟨rfl, rfl⟩
    refine hK.out _ _ (fun _ => hC) ?_
    clear hK K
    try simp only [Act.put, List.setIfInBounds_toArray, List.set_cons_zero, List.set_cons_succ]
    refine oneT (i := 16) (by kernel_rfl) rfl (by rfl) (fun K hK => ?_)
    go_simp
    refine hK.out _ _ (fun _ => hC) ?_
    clear hK K
    try simp only [Act.put, List.setIfInBounds_toArray, List.set_cons_zero, List.set_cons_succ]
    refine oneT (i := 17) (by kernel_rfl) rfl (by rfl) (fun K hK => ?_)
    go_simp
    refine hK.out _ _ (fun _ => hC) ?_
    clear hK K
    try simp only [Act.put, List.setIfInBounds_toArray, List.set_cons_zero, List.set_cons_succ]
    refine oneT (i := 18) (by kernel_rfl) rfl (by rfl) (fun K hK => ?_)
    go_simp
    refine hK.out _ _ (fun _ => hC) ?_
    clear hK K
    try simp only [Act.put, List.setIfInBounds_toArray, List.set_cons_zero, List.set_cons_succ]
    refine oneT (i := 19) (by kernel_rfl) rfl (by rfl) (fun K hK => ?_)
    go_simp
    refine hK.out _ _ (fun _ => hC) ?_
    clear hK K
    try simp only [Act.put, List.setIfInBounds_toArray, List.set_cons_zero, List.set_cons_succ]
    refine oneT (i := 20) (by kernel_rfl) rfl (by rfl) (fun K hK => ?_)
    go_simp
    refine (steps_walk h2).mono ?_
    rintro e y ⟨rfl, rfl⟩
    refine hK.out _ _ (fun _ => hC) ?_
    clear hK K
    try simp only [Act.put, List.setIfInBounds_toArray, List.set_cons_zero, List.set_cons_succ]
    refine oneT (i := 21) (by kernel_rfl) rfl (by rfl) (fun K hK => ?_)
    go_simp
    refine hK.out _ _ (fun _ => hC) ?_
    clear hK K
    try simp only [Act.put, List.setIfInBounds_toArray, List.set_cons_zero, List.set_cons_succ]
    refine oneT (i := 22) (by kernel_rfl) rfl (by rfl) (fun K hK => ?_)
    go_simp
    refine hK.out _ _ (fun _ => hC) ?_
    clear hK K
    try simp only [Act.put, List.setIfInBounds_toArray, List.set_cons_zero, List.set_cons_succ]
    refine oneT (i := 23) (by kernel_rfl) rfl (by rfl) (fun K hK => ?_)
    go_simp
    refine hK.out _ _ (fun _ => hC) ?_
    clear hK K
    try simp only [Act.put, List.setIfInBounds_toArray, List.set_cons_zero, List.set_cons_succ]
    refine narrowT (C := fun w' => w'.cell? ⟨B, 0, none⟩ = some (.slice A n c)) (fun _ _ => trivial) _ _ _ _ ?_
    clear hC
    have hC : X2.cell? ⟨B, 0, none⟩ = some (.slice A n c) := c2
    refine takeT (i := 24) (v := ?_) rfl (by kernel_rfl) (by kernel_rfl) (by kernel_rfl) (by kernel_rfl) (fun _ _ _ h => h) hC (by rfl) ?_ ?_
    rotate_left
    · intro w hSw; (try dsimp only at hSw); go_simp; try (with_reducible rfl)
    try simp only [Act.put, List.setIfInBounds_toArray, List.set_cons_zero, List.set_cons_succ]
    refine takeT (i := 26) (v := ?_) rfl (by kernel_rfl) (by kernel_rfl) (by kernel_rfl) (by kernel_rfl) (fun _ _ _ h => h) hC (by rfl) ?_ ?_
    rotate_left
    · intro w hSw; (try dsimp only at hSw); go_simp; try (with_reducible rfl)
    try simp only [Act.put, List.setIfInBounds_toArray, List.set_cons_zero, List.set_cons_succ]
    refine oneT (i := 25) (by kernel_rfl) rfl (by rfl) (fun K hK => ?_)
    go_simp
    refine (out_walk h2 (by have := HL.out; omega)).mono ?_
    rintro e X3 ⟨v, rfl, hr3, b3⟩
    obtain ⟨A3, n3, d3, rfl⟩ := hr3.shape
    refine hK.out _ _ (fun _ => below_read b3 c2) ?_
    clear hK K hC
    have hC := below_read b3 c2
    try simp only [Act.put, List.setIfInBounds_toArray, List.set_cons_zero, List.set_cons_succ]
    have s3 := s2'.below b3
    have hw3 : Below w.heap.size w X3 := hw2.trans (b3.mono hw2.size)
    refine oneT (i := 27) (by kernel_rfl) rfl (by rfl) (fun K hK => ?_)
    go_simp
    refine (same_walk A3 A n3 d3 n c ws ws X3 hr3.sl s3 (by have h1 := hr3.sl.len; have := HL.out; omega)).mono ?_
    rintro e X4 ⟨rfl, b4⟩
    have hd : decide (ws = ws) = true := by simp
    rw [hd]
    clear hd
    refine hK.out _ _ (fun _ => below_read b4 hC) ?_
    clear hK K
    try simp only [Act.put, List.setIfInBounds_toArray, List.set_cons_zero, List.set_cons_succ]
    have hw4 : Below w.heap.size w X4 := hw3.trans (b4.mono hw3.size)
    replace hC := below_read b4 hC
    refine oneT (i := 28) (by kernel_rfl) rfl (by rfl) (fun K hK => ?_)
    go_simp
    refine hK.out _ _ (fun _ => hC) ?_
    clear hK K
    try simp only [Act.put, List.setIfInBounds_toArray, List.set_cons_zero, List.set_cons_succ]
    refine oneT (i := 29) (by kernel_rfl) rfl (by rfl) (fun K hK => ?_)
    go_simp
    refine hK.out _ _ (fun _ => hC) ?_
    clear hK K
    try simp only [Act.put, List.setIfInBounds_toArray, List.set_cons_zero, List.set_cons_succ]
    refine doneT (by kernel_rfl) ?_
    clear hr3 s3 s2' c2 h2 b3 b4 hw2 hw3 hC r3
    have HW := Lib.hid hw4
    clear hw4
    go_wp2_with fail
    refine (new_nil X4).mono ?_
    rintro e X5 ⟨rfl, h5, b5⟩
    obtain ⟨X6, s, hX6, hs6, b6, g0, g1⟩ : ∃ (X6 : World) (s : Nat), X5.alloc (.cells #[ptr X4.heap.size, nilp] 29) = X6 ∧ X5.heap.size = s ∧ Below X5.heap.size X5 X6 ∧ X6.cell? ⟨s, 0, none⟩ = some (ptr X4.heap.size) ∧ X6.cell? ⟨s, 1, none⟩ = some nilp := ⟨_, _, rfl, rfl, below_new _ _, c_new rfl rfl, c_new rfl rfl⟩
    have hw5 : Below w.heap.size w X5 := HW.out.trans (b5.mono HW.out.size)
    have hw6 : Below w.heap.size w X6 := hw5.trans (b6.mono hw5.size)
    have h6 := h5.below b6
    clear b5 h5 b6 hw5 HW
    generalize X4.heap.size = q at *
    have H6 := Lib.hid h6
    have HW := Lib.hid hw6
    clear h6 hw6
    go_wp2
    go_loopw [48] (fun i wr => ∃ k : Nat, k ≤ 2 ∧ i = .int .i64 k ∧ Below X6.heap.size X6 wr) (fun i _ => 2 - (intOf i).toNat)
    case atStart => exact ⟨0, by omega, rfl, Below.refl _ _⟩
    case round =>
      obtain ⟨k, hk, rfl, hb⟩ := hrel
      have p0 := below_read hb g0
      have p1 := below_read hb g1
      rcases (show k = 0 ∨ k = 1 ∨ k = 2 by omega) with rfl | rfl | rfl
      · have h7 := H6.out.below hb
        clear g0 g1 p1
        go_wp2_with fail
        refine (done_yes h7).mono ?_
        rintro e y ⟨rfl, rfl⟩
        go_wp2_with fail
        refine (step_done h7).mono ?_
        rintro e y ⟨rfl, rfl⟩
        go_wp2_with fail
        refine (out_walk h7 (by simp)).mono ?_
        rintro e y ⟨v, rfl, hr8, b8⟩
        obtain ⟨A8, n8, d8, rfl⟩ := hr8.shape
        obtain rfl : n8 = 0 := hr8.sl.len
        have h8 := h7.below b8
        have hb8 : Below X6.heap.size X6 y := hb.trans (b8.mono hb.size)
        clear hr8 h7 b8
        go_wp2_with fail
        refine (steps_walk h8).mono ?_
        rintro e y' ⟨rfl, rfl⟩
        clear h8
        go_wp2
        go_roundw
        case rel => exact ⟨1, by omega, rfl, hb8⟩
        case measure => simp [intOf]
      · clear g0 g1 p0
        go_wp2_with fail
        refine (done_nil wr).mono ?_
        rintro e y ⟨rfl, rfl⟩
        go_wp2_with fail
        refine (step_nil wr).mono ?_
        rintro e y ⟨rfl, rfl⟩
        go_wp2_with fail
        refine (out_nil wr).mono ?_
        rintro e y ⟨rfl, rfl⟩
        go_wp2_with fail
        refine (steps_nil wr).mono ?_
        rintro e y' ⟨rfl, rfl⟩
        go_wp2
        go_roundw
        case rel => exact ⟨2, by omega, rfl, hb⟩
        case measure => simp [intOf]
      · clear g0 g1 p0 p1
        have HBB2 : Hid (Below w.heap.size w wr) := HW.out.trans (hb.mono HW.out.size)
        clear hb
        go_wp2_with fail
        refine (do_none _ _ _ wr).mono ?_
        rintro e y ⟨rfl, rfl⟩
        go_wp2_with fail
        refine (ask_none _ _ _ wr).mono ?_
        rintro e y ⟨rfl, b9⟩
        have HE : Hid (Below w.heap.size w y) := HBB2.out.trans (b9.mono HBB2.out.size)
        clear b9
        go_wp2
        go_ret
        exact ⟨rfl, HE.out⟩
  · have i1 : (40 : Int) < (n : Int) := by omega
    clear s2
    go_wp2
    go_ret
    exact ⟨rfl, hw2⟩
end Go.Proofs.Ytbjaojcffhkahaa
