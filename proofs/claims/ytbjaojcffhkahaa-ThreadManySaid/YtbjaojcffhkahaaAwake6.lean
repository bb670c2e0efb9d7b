/-
  The laws' Awake: the chapter's example.
-/
import Derived.Test.YtbjaojcffhkahaaMk6
namespace Go.Proofs.Ytbjaojcffhkahaa
open Go.ChangeShapes Go.WideShapes Go.ChangeAt Go.RowKit
set_option linter.unusedVariables false
set_option linter.unusedSimpArgs false
set_option maxRecDepth 20000

section
variable {F G : Nat → Prop} {w w' : World} {a st ph k B : Nat} {zs os : List Int} {wk T O : Value}
theorem touchA (h : w.cell? ⟨B, 0, none⟩ = some (.int .i64 0)) (hf : w.frozen? ⟨B, 0, none⟩ = false) : Calls Try.prog 31 #[ptr B] w fun e w' => e = .returned (.int .i64 1) ∧ w' = w.setCell ⟨B, 0, none⟩ (.int .i64 1) := by
  go_enter Try.func31, Try.ntmps31
  go_wp2
  go_ret
  exact ⟨rfl, rfl⟩
theorem touchB (h : w.cell? ⟨B, 0, none⟩ = some (.int .i64 1)) (hf : w.frozen? ⟨B, 0, none⟩ = false) : Calls Try.prog 32 #[ptr B] w fun e w' => e = .returned (.int .i64 11) ∧ w' = w.setCell ⟨B, 0, none⟩ (.int .i64 11) := by
  go_enter Try.func32, Try.ntmps32
  go_wp2
  go_ret
  exact ⟨rfl, rfl⟩
/-- A variable of a number at block B. -/
def Vr (w : World) (B : Nat) (v : Int) : Prop := w.heap[B]? = some (.cells #[.int .i64 v] 2 (0, 0))
theorem Vr.cell {v : Int} (h : Vr w B v) : w.cell? ⟨B, 0, none⟩ = some (.int .i64 v) := by rw [cell_of_row w B _ _ _ (0, 0) h]; rfl
theorem Vr.free {v : Int} (h : Vr w B v) : w.frozen? ⟨B, 0, none⟩ = false := frozen_of_row w B 0 _ _ h
theorem Vr.only {v : Int} (h : Vr w B v) (ho : Only G w w') (hn : ¬ G B) : Vr w' B v := (ho.block B (Array.getElem?_eq_some_iff.1 h).1 hn).trans h
theorem Vr.set {v : Int} (h : Vr w B v) (u : Int) : Vr (w.setCell ⟨B, 0, none⟩ (.int .i64 u)) B u := heap_set h _
theorem Vr.lt {v : Int} (h : Vr w B v) : B < w.heap.size := (Array.getElem?_eq_some_iff.1 h).1

set_option maxHeartbeats 1000000 in
theorem awork1 (h : Th F w a wk [] 0 (.slice none 0 0) [] 1 0 T) (hv : Vr w B 0) (hF : ¬ F B) :
    Calls Try.prog 30 #[ptr a, ptr B] w (WEnd a wk (fun _ _ _ _ _ => False) (fun F' zs' st' w2 => zs' = [1] ∧ st' = 1 ∧ Vr w2 B 1 ∧ ¬ F' B ∧ ∀ b, F' b → F b ∨ w.heap.size ≤ b) (fun b => F b ∨ b = B) w) := by
  have hmf := mk_fn
  have h1 := do_fresh (f := 31) (cap := #[ptr B]) (S := fun z w2 => z = 1 ∧ Vr w2 B 1 ∧ Only (fun b => F b ∨ b = B) w w2) (fun W => rfl) h rfl (by simp) (by omega) (by
    intro w1 hT hO
    have hv1 := hv.only hO (fun e => hF (by rw [e]; exact h.fa))
    refine (touchA hv1.cell hv1.free).mono ?_
    rintro e w2 ⟨rfl, rfl⟩
    have o1 := only_set w1 B 0 (.int .i64 1)
    exact ⟨1, rfl, hT.only o1 (fun b e e2 => hF (by rw [← e2]; exact e)), rfl, hv1.set 1, (hO.mono (G := fun b => F b ∨ b = B) fun b e => .inl (by rw [e]; exact h.fa)).then (o1.mono fun b e => .inr e)⟩)
  go_enter Try.func30, Try.ntmps30
  go_wp2_with fail
  refine h1.mono ?_
  rintro e w1 ⟨z, w2, F', T', rfl, ⟨rfl, hv2, o2⟩, hT, o3, s3⟩
  have h2 := do_wait (.func 32) #[] #[ptr B] hT rfl (by simp)
  have hv3 := hv2.only o3 hF
  have hFB : ¬ F' B := fun e => (s3 B e).elim hF (by have := hv2.lt; omega)
  have hfa := hT.fa
  have HE : Hid (∀ w3, Only (· = a) w1 w3 → (Vr w3 B 1 ∧ ¬ F' B ∧ (∀ b, F' b → F b ∨ w.heap.size ≤ b)) ∧ Only (fun b => F b ∨ b = B) w w3) := fun w3 ho => ⟨⟨hv3.only ho (fun e => hFB (by rw [e]; exact hfa)), hFB, fun b e => (s3 b e).imp id (Nat.le_trans o2.size)⟩, ((o2.then (o3.mono fun b e => .inl e)).trans ho fun b e => .inl (.inl (by rw [e]; exact h.fa)))⟩
  clear h1 hv2 o2 o3 hv3 hT s3
  go_wp2_with fail
  refine h2.mono ?_
  rintro e w3 ⟨rfl, hT3, o4⟩
  obtain ⟨⟨q1, q2, q3⟩, q4⟩ := HE.out w3 o4
  exact ⟨rfl, q4, .inr ⟨F', T', _, _, _, rfl, hT3, rfl, rfl, q1, q2, q3⟩⟩

set_option maxHeartbeats 1000000 in
theorem awork2 (h : Th F w a wk [1] 1 (.slice none 0 0) [] 1 0 T) (hv : Vr w B 1) (hF : ¬ F B) :
    Calls Try.prog 30 #[ptr a, ptr B] w (WEnd a wk (fun F' ws zs' st' w2 => ws = [1, 11] ∧ st' = 2 ∧ Vr w2 B 11 ∧ ¬ F' B ∧ ∀ b, F' b → F b ∨ w.heap.size ≤ b) (fun _ _ _ _ => False) (fun b => F b ∨ b = B) w) := by
  have hmf := mk_fn
  have h1 := do_replay (.func 31) #[] #[ptr B] h (by simp) (by simp)
  go_enter Try.func30, Try.ntmps30
  go_wp2_with fail
  refine h1.mono ?_
  rintro e w1 ⟨rfl, hT, o1⟩
  have hvv := hv.only o1 (fun e => hF (by rw [e]; exact h.fa))
  have hfa := h.fa
  have h2 := do_fresh (f := 32) (cap := #[ptr B]) (S := fun z w2 => z = 11 ∧ Vr w2 B 11 ∧ Only (fun b => F b ∨ b = B) w1 w2) (fun W => rfl) hT rfl (by simp) (by omega) (by
    intro w1 hT hO
    have hv1 := hvv.only hO (fun e => hF (by rw [e]; exact h.fa))
    refine (touchB hv1.cell hv1.free).mono ?_
    rintro e w2 ⟨rfl, rfl⟩
    have o1 := only_set w1 B 0 (.int .i64 11)
    exact ⟨11, rfl, hT.only o1 (fun b e e2 => hF (by rw [← e2]; exact e)), rfl, hv1.set 11, (hO.mono (G := fun b => F b ∨ b = B) fun b e => .inl (by rw [e]; exact h.fa)).then (o1.mono fun b e => .inr e)⟩)
  have HO := Lib.hid (o1.mono (G := fun b => F b ∨ b = B) fun b e => .inl (by rw [e]; exact hfa))
  clear h1 h hT o1 hvv hv
  go_wp2_with fail
  refine h2.mono ?_
  rintro e w2 ⟨z, x, F', T', rfl, ⟨rfl, hv2, o2⟩, hT, o3, s3⟩
  have hv3 := hv2.only o3 hF
  have hFB : ¬ F' B := fun e => (s3 B e).elim hF (by have := hv2.lt; omega)
  have hoo : Only (fun b => F b ∨ b = B) w w2 := (HO.out.then o2).then (o3.mono fun b e => .inl e)
  have hs3 : ∀ b, F' b → F b ∨ w.heap.size ≤ b := fun b e => (s3 b e).imp id (fun e => by have h1 := HO.out.size; have h2 := o2.size; omega)
  have HE : Hid (∀ w3, Below w2.heap.size w2 w3 → Sl w3 (some ⟨w2.heap.size, 0, none⟩) 2 2 [1, 11] → WEnd a wk (fun F' ws zs' st' w2 => ws = [1, 11] ∧ st' = 2 ∧ Vr w2 B 11 ∧ ¬ F' B ∧ ∀ b, F' b → F b ∨ w.heap.size ≤ b) (fun _ _ _ _ => False) (fun b => F b ∨ b = B) w (.returned (.slice (some ⟨w2.heap.size, 0, none⟩) 2 2)) w3) := by
    intro w3 hb hs
    refine ⟨hoo.then (Only.of_below _ hb), .inl ⟨F', T', _, _, _, 3, _, 2, 2, _, rfl, hs, by simp, by omega, by omega, hT.below hb, rfl, rfl, hv3.only (Only.of_below (fun _ => False) hb) (fun e => e), hFB, hs3⟩⟩
  clear h2 hv2 o2 o3 hv3 hT s3 hoo hs3
  go_wp2
  go_ret
  refine HE.out _ (below_new _ _) ⟨rfl, Nat.le_refl _, fun e => (by cases e), .inr ⟨w2.heap.size, 0, rfl, fun j u hj => ?_⟩⟩
  match j, hj with
  | 0, hj => simp at hj; subst hj; exact c_new rfl rfl
  | 1, hj => simp at hj; subst hj; exact c_new rfl rfl

set_option maxHeartbeats 2000000 in
theorem awake_walk (w : World) : Calls Try.prog 10 #[] w fun e w' => e = .returned (.bool true) ∧ Below w.heap.size w w' := by
  have hmf := mk_fn
  obtain ⟨W1, B, hW1, hB, b1, v1⟩ : ∃ (W1 : World) (B : Nat), w.alloc (.cells #[.int .i64 0] 2) = W1 ∧ w.heap.size = B ∧ Below w.heap.size w W1 ∧ Vr W1 B 0 := ⟨_, _, rfl, rfl, below_new _ _, h_new rfl⟩
  have z1 : W1.heap.size = w.heap.size + 1 := by rw [← hW1]; simp
  have hn := new_func (.func 30) #[] #[ptr B] W1
  have HZ := Lib.hid z1
  have HB := Lib.hid b1
  have HV := Lib.hid v1
  have HBB := Lib.hid hB
  have HW1 := Lib.hid hW1
  clear b1 v1 z1 hW1 hB
  go_enter Try.func10, Try.ntmps10
  go_wp2_with fail
  rw [HW1.out, HBB.out]
  refine hn.mono ?_
  rintro e w2 ⟨rfl, h2, b2⟩
  clear hn
  have v2 : Vr w2 B 0 := HV.out.only (Only.of_below (fun _ => False) b2) (fun e => e)
  have nB : ¬ B = W1.heap.size := by have := HZ.out; have := HBB.out; omega
  have hw2 : Below w.heap.size w w2 := HB.out.trans (b2.mono HB.out.size)
  have hge : w.heap.size ≤ W1.heap.size := HB.out.size
  have hgB : w.heap.size ≤ B := by have := HBB.out; omega
  clear HW1 HZ b2 HB HV HBB
  generalize W1.heap.size = a at *
  have lta : a < w2.heap.size := h2.lt a rfl
  have ltB : B < w2.heap.size := v2.lt
  have hs1 := step_walk (G := fun b => b = a ∨ b = B) (args := #[ptr a, ptr B]) (RP := fun _ _ _ _ _ => False) (WP := fun F' zs' st' w3 => F' a ∧ zs' = [1] ∧ st' = 1 ∧ Vr w3 B 1 ∧ ¬ F' B ∧ (∀ b, F' b → b = a ∨ w2.heap.size ≤ b) ∧ Only (fun b => b = a ∨ b = B) w2 w3) rfl (fun W => rfl) h2 (fun b e => e.elim (h2.lt b) (fun e => by rw [e]; exact v2.lt)) (by
    intro w1 hT hO
    refine (awork1 hT (v2.only hO (fun e => nB e)) nB).mono ?_
    intro e w3 hw
    refine hw.mono (fun b e => e) (fun _ _ _ _ _ _ h => h) ?_
    intro F' zs' st' hf ho ⟨r1, r2, r3, r4, r5⟩
    exact ⟨hf, r1, r2, r3, r4, fun b e => (r5 b e).imp id (Nat.le_trans hO.size), (hO.mono (G := fun b => b = a ∨ b = B) fun b e => .inl e).then ho⟩)
  go_wp2_with fail
  refine hs1.mono ?_
  clear hs1 h2 v2
  rintro e w3 (⟨x, F', ws, zs', st', k', F'', O', rfl, hF, _⟩ | ⟨x, F', T', zs', st', k', rfl, ⟨hfa, rfl, rfl, v3, nF, hsub, o3⟩, h3, o4⟩)
  · exact hF.elim
  have v4 := v3.only o4 (fun e => nB e)
  have o34 : Only (fun b => b = a ∨ b = B) w2 w3 := o3.then (o4.mono fun b e => .inl e)
  have hd3 := done_no h3
  have hout3 := out_walk h3 (by simp)
  have H3 := Lib.hid h3
  clear h3 v3 o3 o4
  go_wp2_with fail
  refine hd3.mono ?_
  rintro e w3' ⟨rfl, rfl⟩
  clear hd3
  go_wp2_with fail
  refine hout3.mono ?_
  rintro e w4 ⟨v, rfl, hr4, b4⟩
  clear hout3
  obtain ⟨A4, n4, c4, rfl⟩ := hr4.shape
  obtain rfl : n4 = 0 := hr4.sl.len
  have h4 := H3.out.below b4
  have v5 : Vr w4 B 1 := v4.only (Only.of_below (fun _ => False) b4) (fun e => e)
  have o4 : Only (fun b => b = a ∨ b = B) w2 w4 := o34.then (Only.of_below _ b4)
  clear hr4 H3 v4 b4 o34
  have hs2 := step_walk (G := fun b => F' b ∨ b = B) (args := #[ptr a, ptr B]) (RP := fun F2 ws zs' st' w3 => ws = [1, 11] ∧ st' = 2 ∧ Vr w3 B 11 ∧ Only (fun b => F' b ∨ b = B) w4 w3) (WP := fun _ _ _ _ => False) rfl (fun W => rfl) h4 (fun b e => e.elim (h4.lt b) (fun e => by rw [e]; exact v5.lt)) (by
    intro w1 hT hO
    refine (awork2 hT (v5.only hO (fun e => nB e)) nF).mono ?_
    intro e w3 hw
    refine hw.mono (fun b e => e) ?_ (fun _ _ _ _ _ h => h)
    intro F2 ws zs' st' hf ho ⟨r1, r2, r3, r4, r5⟩
    exact ⟨r1, r2, r3, (hO.mono (G := fun b => F' b ∨ b = B) fun b e => .inl (by rw [e]; exact hfa)).then ho⟩)
  go_wp2_with fail
  refine hs2.mono ?_
  clear hs2 h4 v5
  rintro e w5 (⟨x, F2, ws, zs', st', k', F3, O', rfl, ⟨rfl, rfl, v6, o5⟩, h5, o6, s6⟩ | ⟨x, F2, T', zs', st', k', rfl, hF, _⟩)
  rotate_left
  · exact hF.elim
  have v7 := v6.only o6 (fun e => nB e)
  have o7 : Only (fun b => F' b ∨ b = B) w4 w5 := o5.then (o6.mono fun b e => .inl (by rw [e]; exact hfa))
  have hout5 := out_walk h5 (by simp)
  have H5 := Lib.hid h5
  clear h5 v6 o5 o6
  go_wp2_with fail
  refine hout5.mono ?_
  rintro e w6 ⟨v, rfl, hr6, b6⟩
  obtain ⟨A6, n6, c6, rfl⟩ := hr6.shape
  obtain rfl : n6 = 2 := hr6.sl.len
  obtain ⟨b, off, rfl, hb, hq0⟩ := hr6.sl.at0 (k := 0) (by omega)
  obtain ⟨b', off', e', hb', hq1⟩ := hr6.sl.at0 (k := 1) (by omega)
  obtain ⟨rfl, rfl⟩ : b = b' ∧ off = off' := by injection e' with e'; injection e' with e1 e2; exact ⟨e1, e2⟩
  have q0 : w6.cell? ⟨b, off, none⟩ = some (.int .i64 1) := hq0
  have q1 : w6.cell? ⟨b, off + 1, none⟩ = some (.int .i64 11) := hq1
  have h6 := H5.out.below b6
  have v8 : Vr w6 B 11 := v7.only (Only.of_below (fun _ => False) b6) (fun e => e)
  have q2 := v8.cell
  have hd6 := done_yes h6
  have hst6 := steps_walk h6
  have HE : Hid (Below w.heap.size w w6) := hw2.trans ((((o4.below (B := w.heap.size) (fun b e => by rcases e with e | e <;> omega) hw2.size).trans (o7.below (B := w.heap.size) (fun b e => by
    rcases e with e | e
    · rcases hsub b e with e | e
      · omega
      · have := hw2.size; omega
    · omega) (Nat.le_trans hw2.size o4.size))).trans (b6.mono (Nat.le_trans hw2.size (Nat.le_trans o4.size o7.size)))))
  clear hout5 hr6 b6 hq0 hq1 e' H5 v7 v8 h6 o7 o4 hsub hw2
  go_wp2_with fail
  refine hd6.mono ?_
  rintro e w3' ⟨rfl, rfl⟩
  clear hd6
  go_wp2_with fail
  refine hst6.mono ?_
  rintro e w3' ⟨rfl, rfl⟩
  clear hst6
  go_wp2
  go_ret
  exact ⟨rfl, HE.out⟩
end
end Go.Proofs.Ytbjaojcffhkahaa
