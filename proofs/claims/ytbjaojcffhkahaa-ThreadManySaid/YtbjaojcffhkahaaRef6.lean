/-
  The document's cell, its touches, and the laws' same.
-/
import Derived.Test.YtbjaojcffhkahaaGo6
import Derived.RegionTactic
namespace Go.Proofs.Ytbjaojcffhkahaa
open Go.ChangeShapes Go.WideShapes Go.ChangeAt Go.RowKit
set_option linter.unusedVariables false
set_option linter.unusedSimpArgs false
set_option maxRecDepth 20000

abbrev ceT : TypeId := 28
/-- A touch: what it does, with a number. -/
structure Tc where
  d : Nat
  n : Int
structure Tc.wf (t : Tc) : Prop where
  d : t.d < 256
  n : -128 ≤ t.n ∧ t.n ≤ 127
abbrev tcv (t : Tc) : Value := .agg #[.int .u8 (t.d : Int), .int .i8 t.n]
/-- What a touch makes of a cell's number. -/
def Tc.on (t : Tc) (N : Int) : Int := if t.d % 4 = 1 then wrap64 (N + t.n) else if t.d % 4 = 2 then t.n else if t.d % 4 = 3 then (if N.tmod 2 = 0 then wrap64 (wrap64 (3 * N) + t.n) else N) else N
def Tc.log (t : Tc) (N : Int) : List Int := [((t.d % 4 : Nat) : Int), t.n, N]
/-- A cell at block c: its number, and what touched it. -/
structure Ce (F : Nat → Prop) (w : World) (c : Nat) (N : Int) (l : List Int) (L : Value) : Prop where
  head : w.heap[c]? = some (.cells #[.int .i64 N, L] ceT (0, 0))
  row : Row 2 0 w L l
  fc : F c
  fl : ∀ b, L.ownBlock = some b → F b
  lt : ∀ b, F b → b < w.heap.size
theorem ne_int2 : ceT ≠ 2 := by decide
section
variable {F G : Nat → Prop} {w w' : World} {c : Nat} {N : Int} {l : List Int} {L : Value}
theorem Ce.keep (h : Ce F w c N l L) (hb : ∀ b, F b → w'.heap[b]? = w.heap[b]?) (hs : w.heap.size ≤ w'.heap.size) : Ce F w' c N l L :=
  ⟨(hb c h.fc).trans h.head, own_at h.row fun b e => hb b (h.fl b e), h.fc, h.fl, fun b e => Nat.lt_of_lt_of_le (h.lt b e) hs⟩
theorem Ce.below (h : Ce F w c N l L) (hb : Below w.heap.size w w') : Ce F w' c N l L := h.keep (fun b hF => hb.block b (h.lt b hF)) hb.size
theorem Ce.only (h : Ce F w c N l L) (hb : Only G w w') (hd : ∀ b, F b → ¬ G b) : Ce F w' c N l L := h.keep (fun b hF => hb.block b (h.lt b hF) (hd b hF)) hb.size
theorem Ce.cells (h : Ce F w c N l L) : w.cell? ⟨c, 0, none⟩ = some (.int .i64 N) ∧ w.cell? ⟨c, 1, none⟩ = some L :=
  ⟨by rw [cell_of_row w c _ _ _ (0, 0) h.head]; rfl, by rw [cell_of_row w c _ _ _ (0, 0) h.head]; rfl⟩
theorem Ce.free (h : Ce F w c N l L) (j : Nat) : w.frozen? ⟨c, j, none⟩ = false := frozen_of_row w c j _ _ h.head
theorem Ce.num (h : Ce F w c N l L) (M : Int) : Ce F (w.setCell ⟨c, 0, none⟩ (.int .i64 M)) c M l L :=
  ⟨heap_set h.head _, own_set h.row ⟨_, h.head⟩ ne_int2 _, h.fc, h.fl, fun b e => by simpa using h.lt b e⟩
theorem Ce.drewN (h : Ce F w c N l L) (n : Nat) : Ce F (w.drewN n) c N l L := ⟨h.head, h.row, h.fc, h.fl, h.lt⟩
theorem Ce.drew (h : Ce F w c N l L) : Ce F w.drew c N l L := ⟨h.head, h.row, h.fc, h.fl, h.lt⟩
/-- Its log, longer. -/
theorem Ce.pushed {ms : List Int} {Z : World} {L' : Value} (h : Ce F w c N l L) (hr : Row 2 0 Z L' (l ++ ms)) (hg : w.grownBy Z L.ownBlock) (hl : ∀ b, L'.ownBlock = some b → L.ownBlock = some b ∨ w.heap.size ≤ b) :
    Ce (fun b => F b ∨ L'.ownBlock = some b) (Z.setCell ⟨c, 1, none⟩ L') c N (l ++ ms) L' ∧ Only F w (Z.setCell ⟨c, 1, none⟩ L') ∧ Z.cell? ⟨c, 1, none⟩ = some L ∧ Z.frozen? ⟨c, 1, none⟩ = false := by
  have ha : Z.heap[c]? = some (.cells #[.int .i64 N, L] ceT (0, 0)) := (hg.block c (h.lt c h.fc) (fun e => by
    have := own_ty h.row e.symm
    exact ne_int2 ((show Ty w c ceT from ⟨_, h.head⟩).one this))).trans h.head
  refine ⟨⟨heap_set ha L', own_set hr ⟨_, ha⟩ ne_int2 L', .inl h.fc, fun b e => .inr e, fun b e => ?_⟩, (Only.grown F hg fun b e => h.fl b e).then (Only.set F Z (p := ⟨c, 1, none⟩) h.fc L'), by rw [cell_of_row Z c _ _ _ (0, 0) ha]; rfl, frozen_of_row Z c 1 _ _ ha⟩
  simp only [World.size_setCell]
  rcases e with e | e
  · exact Nat.lt_of_lt_of_le (h.lt b e) hg.size
  · exact (World.ownsRow.lt hr b e).2
theorem ce_new (w : World) (N : Int) : Ce (fun b => b = w.heap.size) (w.alloc (.cells #[.int .i64 N, .slice none 0 0] ceT)) w.heap.size N [] (.slice none 0 0) :=
  ⟨heap_alloc_new w _, Row.nil _ _ _, rfl, fun b e => (by cases e), fun b e => by subst e; simp⟩
theorem sl_three {W : World} {g : Nat} {x y z : Int} (h0 : W.cell? ⟨g, 0, none⟩ = some (.int .i64 x)) (h1 : W.cell? ⟨g, 1, none⟩ = some (.int .i64 y)) (h2 : W.cell? ⟨g, 2, none⟩ = some (.int .i64 z)) : Sl W (some ⟨g, 0, none⟩) 3 3 [x, y, z] := by
  refine ⟨rfl, Nat.le_refl _, fun e => (by cases e), .inr ⟨g, 0, rfl, fun j u hj => ?_⟩⟩
  match j, hj with
  | 0, hj => simp at hj; subst hj; exact h0
  | 1, hj => simp at hj; subst hj; exact h1
  | 2, hj => simp at hj; subst hj; exact h2

set_option maxHeartbeats 2000000 in
theorem cell_done {t : Tc} (h : Ce F w c N l L) (ht : t.wf) (hl : l.length ≤ 10000) :
    Calls Try.prog 35 #[ptr c, tcv t] w fun e w' => e = .returned (.int .i64 N) ∧ ∃ F' L', Ce F' w' c (t.on N) (l ++ t.log N) L' ∧ Only F w w' ∧ ∀ b, F' b → F b ∨ w.heap.size ≤ b := by
  obtain ⟨d, n⟩ := t
  obtain ⟨W, B, hW, hB, hb, b0, b1⟩ : ∃ (W : World) (B : Nat), w.alloc (.cells #[.int .u8 (d : Int), .int .i8 n] 56) = W ∧ w.heap.size = B ∧ Below w.heap.size w W ∧ W.cell? ⟨B, 0, none⟩ = some (.int .u8 (d : Int)) ∧ W.cell? ⟨B, 1, none⟩ = some (.int .i8 n) := ⟨_, _, rfl, rfl, below_new _ _, c_new rfl rfl, c_new rfl rfl⟩
  have h1 := h.below hb
  obtain ⟨c0, c1⟩ := h1.cells
  have f0 := h1.free 0
  have f1 := h1.free 1
  obtain ⟨hd, hn1, hn2⟩ := ht
  simp only at hd hn1 hn2
  have hwn : IntKind.i64.wrap n = n := IntWalk.i64_in _ (by omega)
  have HT := Lib.hid h1
  have HLT : Hid (∀ b, F b → b < w.heap.size) := h.lt
  have HWD : Hid (IntKind.i64.wrap ((d : Int).tmod 4) = ((d % 4 : Nat) : Int)) := by
    show _ = _
    have e : (d : Int).tmod 4 = ((d % 4 : Nat) : Int) := by rw [Int.tmod_eq_emod_of_nonneg (by omega)]; rfl
    rw [e]; exact IntWalk.i64_in _ (by omega)
  have HB := Lib.hid hb
  have HZ := Lib.hid hB
  have hcB : ¬ c = B := fun e => by have h2 := h.lt c h.fc; omega
  clear h h1 hb
  rcases (show d % 4 = 0 ∨ d % 4 = 1 ∨ d % 4 = 2 ∨ d % 4 = 3 by omega) with hk | hk | hk | hk
  · have HO : Hid ((⟨d, n⟩ : Tc).on N = N) := by show _ = _; simp [Tc.on, hk]
    have e1 : ((d : Int) % 4 == 1) = false := by simp; omega
    have e2 : ((d : Int) % 4 == 2) = false := by simp; omega
    have e3 : ((d : Int) % 4 == 3) = false := by simp; omega
    go_enter Try.func35, Try.ntmps35
    go_wp2_with fail
    (try rw [hW]); (try rw [hB])
    obtain ⟨X, hX, HX, q0, q1, o1⟩ : ∃ X : World, W = X ∧ Hid (Ce F X c ((⟨d, n⟩ : Tc).on N) l L) ∧ X.cell? ⟨B, 0, none⟩ = some (.int .u8 (d : Int)) ∧ X.cell? ⟨B, 1, none⟩ = some (.int .i8 n) ∧ Only F w X := ⟨W, rfl, by rw [HO.out]; exact HT, b0, b1, Only.of_below F HB.out⟩
    clear b0 b1 c0 c1 f0 f1 HT hW
    subst W
    have HC : Hid (∀ w', Below X.heap.size X w' → w'.cell? ⟨c, 1, none⟩ = some L ∧ w'.cell? ⟨B, 0, none⟩ = some (.int .u8 (d : Int)) ∧ w'.cell? ⟨B, 1, none⟩ = some (.int .i8 n)) := fun w' h => ⟨below_read h HX.out.cells.2, below_read h q0, below_read h q1⟩
    refine region_T (fun j => j == 17) (fun w' => w'.cell? ⟨c, 1, none⟩ = some L ∧ w'.cell? ⟨B, 0, none⟩ = some (.int .u8 (d : Int)) ∧ w'.cell? ⟨B, 1, none⟩ = some (.int .i8 n)) (by kernel_rfl) ?_
    obtain ⟨X0, hX0, hbX0⟩ : ∃ X0 : World, X.drew = X0 ∧ Below X.heap.size X X0 := ⟨_, rfl, (Below.refl _ X).drew⟩
    rw [hX0]
    clear hX0 q0 q1
    have hC := HC.out X0 hbX0
    refine takeT (i := 0) (v := ?_) rfl (by kernel_rfl) (by kernel_rfl) (by kernel_rfl) (by kernel_rfl) (fun _ _ _ h => h) hC (by rfl) ?_ ?_
    rotate_left
    · intro w hSw; (try dsimp only at hSw); go_simp; try (with_reducible rfl)
    try simp only [Act.put, List.setIfInBounds_toArray, List.set_cons_zero, List.set_cons_succ]
    refine takeT (i := 1) (v := ?_) rfl (by kernel_rfl) (by kernel_rfl) (by kernel_rfl) (by kernel_rfl) (fun _ _ _ h => h) hC (by rfl) ?_ ?_
    rotate_left
    · intro w hSw; (try dsimp only at hSw); go_simp; try (with_reducible rfl)
    try simp only [Act.put, List.setIfInBounds_toArray, List.set_cons_zero, List.set_cons_succ]
    refine takeT (i := 2) (v := ?_) rfl (by kernel_rfl) (by kernel_rfl) (by kernel_rfl) (by kernel_rfl) (fun _ _ _ h => h) hC (by rfl) ?_ ?_
    rotate_left
    · intro w hSw; (try dsimp only at hSw); go_simp; try (with_reducible rfl)
    try simp only [Act.put, List.setIfInBounds_toArray, List.set_cons_zero, List.set_cons_succ]
    refine takeT (i := 3) (v := ?_) rfl (by kernel_rfl) (by kernel_rfl) (by kernel_rfl) (by kernel_rfl) (fun _ _ _ h => h) hC (by rfl) ?_ ?_
    rotate_left
    · intro w hSw; (try dsimp only at hSw); go_simp; try (with_reducible rfl)
    try simp only [Act.put, List.setIfInBounds_toArray, List.set_cons_zero, List.set_cons_succ]
    refine takeT (i := 4) (v := ?_) rfl (by kernel_rfl) (by kernel_rfl) (by kernel_rfl) (by kernel_rfl) (fun _ _ _ h => h) hC (by rfl) ?_ ?_
    rotate_left
    · intro w hSw; (try dsimp only at hSw); go_simp; try (with_reducible rfl)
    try simp only [Act.put, List.setIfInBounds_toArray, List.set_cons_zero, List.set_cons_succ]
    refine takeT (i := 5) (v := ?_) rfl (by kernel_rfl) (by kernel_rfl) (by kernel_rfl) (by kernel_rfl) (fun _ _ _ h => h) hC (by rfl) ?_ ?_
    rotate_left
    · intro w hSw; (try dsimp only at hSw); go_simp; try (with_reducible rfl)
    try simp only [Act.put, List.setIfInBounds_toArray, List.set_cons_zero, List.set_cons_succ]
    refine takeT (i := 6) (v := ?_) rfl (by kernel_rfl) (by kernel_rfl) (by kernel_rfl) (by kernel_rfl) (fun _ _ _ h => h) hC (by rfl) ?_ ?_
    rotate_left
    · intro w hSw; (try dsimp only at hSw); go_simp; try (with_reducible rfl)
    try simp only [Act.put, List.setIfInBounds_toArray, List.set_cons_zero, List.set_cons_succ]
    refine takeT (i := 7) (v := ?_) rfl (by kernel_rfl) (by kernel_rfl) (by kernel_rfl) (by kernel_rfl) (fun _ _ _ h => h) hC (by rfl) ?_ ?_
    rotate_left
    · intro w hSw; (try dsimp only at hSw); go_simp; try (with_reducible rfl)
    try simp only [Act.put, List.setIfInBounds_toArray, List.set_cons_zero, List.set_cons_succ]
    refine takeT (i := 8) (v := ?_) rfl (by kernel_rfl) (by kernel_rfl) (by kernel_rfl) (by kernel_rfl) (fun _ _ _ h => h) hC (by rfl) ?_ ?_
    rotate_left
    · intro w hSw; (try dsimp only at hSw); go_simp; try (with_reducible rfl)
    try simp only [Act.put, List.setIfInBounds_toArray, List.set_cons_zero, List.set_cons_succ]
    refine takeT (i := 9) (v := ?_) rfl (by kernel_rfl) (by kernel_rfl) (by kernel_rfl) (by kernel_rfl) (fun _ _ _ h => h) hC (by rfl) ?_ ?_
    rotate_left
    · intro w hSw; (try dsimp only at hSw); go_simp; try (with_reducible rfl)
    try simp only [Act.put, List.setIfInBounds_toArray, List.set_cons_zero, List.set_cons_succ]
    refine takeT (i := 10) (v := ?_) rfl (by kernel_rfl) (by kernel_rfl) (by kernel_rfl) (by kernel_rfl) (fun _ _ _ h => h) hC (by rfl) ?_ ?_
    rotate_left
    · intro w hSw; (try dsimp only at hSw); go_simp; try (with_reducible rfl)
    try simp only [Act.put, List.setIfInBounds_toArray, List.set_cons_zero, List.set_cons_succ]
    refine takeT (i := 11) (v := ?_) rfl (by kernel_rfl) (by kernel_rfl) (by kernel_rfl) (by kernel_rfl) (fun _ _ _ h => h) hC (by rfl) ?_ ?_
    rotate_left
    · intro w hSw; (try dsimp only at hSw); go_simp; try (with_reducible rfl)
    try simp only [Act.put, List.setIfInBounds_toArray, List.set_cons_zero, List.set_cons_succ]
    refine takeT (i := 12) (v := ?_) rfl (by kernel_rfl) (by kernel_rfl) (by kernel_rfl) (by kernel_rfl) (fun _ _ _ h => h) hC (by rfl) ?_ ?_
    rotate_left
    · intro w hSw; (try dsimp only at hSw); go_simp; try (with_reducible rfl)
    try simp only [Act.put, List.setIfInBounds_toArray, List.set_cons_zero, List.set_cons_succ]
    refine oneT (i := 13) (by kernel_rfl) rfl (by rfl) (fun K hK => ?_)
    go_simp
    obtain ⟨X1, s, hX1, hs, b1, e0, e1, e2⟩ : ∃ (X1 : World) (s : Nat), X0.alloc (.cells #[.int .i64 (IntKind.i64.wrap ((d : Int).tmod 4)), .int .i64 n, .int .i64 N] 2) = X1 ∧ X0.heap.size = s ∧ Below X0.heap.size X0 X1 ∧ X1.cell? ⟨s, 0, none⟩ = some (.int .i64 ((d % 4 : Nat) : Int)) ∧ X1.cell? ⟨s, 1, none⟩ = some (.int .i64 n) ∧ X1.cell? ⟨s, 2, none⟩ = some (.int .i64 N) := ⟨_, _, rfl, rfl, below_new _ _, by rw [← HWD.out]; exact c_new rfl rfl, c_new rfl rfl, c_new rfl rfl⟩
    (try rw [hX1]); (try rw [hs])
    clear hX1 hs
    have hbX1 := hbX0.trans (b1.mono hbX0.size)
    refine hK.out _ _ (fun _ => HC.out X1 hbX1) ?_
    clear hK K hC
    try simp only [Act.put, List.setIfInBounds_toArray, List.set_cons_zero, List.set_cons_succ]
    have hC := HC.out X1 hbX1
    have h1 := HX.out.below hbX1
    obtain ⟨A', m', n', Y, hrun, r5, g5, l5⟩ := run_pushS h1.row (sl_three e0 e1 e2) (by simp; omega) (by simp)
    obtain ⟨h6, o6, c6, f6⟩ := h1.pushed r5 g5 l5
    have hBF : ¬ F B := fun e => by have h2 := HLT.out B e; have h3 := HZ.out; omega
    have hY : Y.cell? ⟨c, 1, none⟩ = some L ∧ Y.cell? ⟨B, 0, none⟩ = some (.int .u8 (d : Int)) ∧ Y.cell? ⟨B, 1, none⟩ = some (.int .i8 n) := ⟨c6, only_read (Only.grown F g5 fun b e => h1.fl b e) hBF hC.2.1, only_read (Only.grown F g5 fun b e => h1.fl b e) hBF hC.2.2⟩
    have HE : Hid (∃ F' L', Ce F' (Y.setCell ⟨c, 1, none⟩ (.slice A' m' n')) c ((⟨d, n⟩ : Tc).on N) (l ++ (⟨d, n⟩ : Tc).log N) L' ∧ Only F w (Y.setCell ⟨c, 1, none⟩ (.slice A' m' n')) ∧ ∀ b, F' b → F b ∨ w.heap.size ≤ b) := ⟨_, _, h6, (o1.then (Only.of_below F hbX1)).then o6, fun b e => by
      rcases e with e | e
      · exact .inl e
      · rcases l5 b e with e | e
        · exact .inl (h1.fl b e)
        · right
          have h2 := o1.size
          have h3 := hbX1.size
          omega⟩
    clear h6 o6 h1 r5 g5 l5 hC
    refine oneT (i := 14) (by kernel_rfl) rfl (by rfl) (fun K hK => ?_)
    refine Lib.wp_append_run _ (.tmp 57) (.tmp 66) _ _ rfl _ _ rfl rfl _ _ hrun ?_
    refine hK.out _ _ (fun _ => hY) ?_
    clear hK K
    try simp only [Act.put, List.setIfInBounds_toArray, List.set_cons_zero, List.set_cons_succ]
    refine oneT (i := 15) (by kernel_rfl) rfl (by rfl) (fun K hK => ?_)
    go_simp
    refine hK.out _ _ (fun _ => hY) ?_
    clear hK K
    try simp only [Act.put, List.setIfInBounds_toArray, List.set_cons_zero, List.set_cons_succ]
    refine oneT (i := 16) (by kernel_rfl) rfl (by rfl) (fun K hK => ?_)
    go_simp
    refine hK.out _ _ (fun _ => hY) ?_
    clear hK K
    try simp only [Act.put, List.setIfInBounds_toArray, List.set_cons_zero, List.set_cons_succ]
    refine oneT (i := 17) (by kernel_rfl) rfl (by rfl) (fun K hK => ?_)
    go_simp
    refine hK.out _ _ (fun h => absurd h (by decide)) ?_
    clear hK K
    refine doneT (by kernel_rfl) ?_
    clear hY HC HX hrun hbX0 hbX1 e0 e1 e2 b1 c6 f6
    generalize hZ : Y.setCell ⟨c, 1, none⟩ (.slice A' m' n') = Z at *
    clear hZ
    go_wp2
    go_ret
    exact ⟨rfl, HE.out⟩
  · have HO : Hid ((⟨d, n⟩ : Tc).on N = wrap64 (N + n)) := by show _ = _; simp [Tc.on, hk]
    have e1 : ((d : Int) % 4 == 1) = true := by simp; omega
    have e2 : ((d : Int) % 4 == 2) = false := by simp; omega
    have e3 : ((d : Int) % 4 == 3) = false := by simp; omega
    go_enter Try.func35, Try.ntmps35
    go_wp2_with fail
    (try rw [hW]); (try rw [hB])
    go_region
    obtain ⟨X, hX, HX, q0, q1, o1⟩ : ∃ X : World, (W.setCell ⟨c, 0, none⟩ (.int .i64 (wrap64 (N + n)))).drew = X ∧ Hid (Ce F X c ((⟨d, n⟩ : Tc).on N) l L) ∧ X.cell? ⟨B, 0, none⟩ = some (.int .u8 (d : Int)) ∧ X.cell? ⟨B, 1, none⟩ = some (.int .i8 n) ∧ Only F w X := ⟨_, rfl, by rw [HO.out]; exact (HT.out.num _).drew, only_read (G := (· = c)) ((only_set W c 0 _).then (only_drew _ _)) (show ¬ B = c from fun e => hcB e.symm) b0, only_read (G := (· = c)) ((only_set W c 0 _).then (only_drew _ _)) (show ¬ B = c from fun e => hcB e.symm) b1, ((Only.of_below F HB.out).then (Only.set F W (p := ⟨c, 0, none⟩) HT.out.fc _)).then (only_drew _ _)⟩
    rw [hX]
    clear b0 b1 c0 c1 f0 f1 HT hW hX
    go_wp2_with fail
    have HC : Hid (∀ w', Below X.heap.size X w' → w'.cell? ⟨c, 1, none⟩ = some L ∧ w'.cell? ⟨B, 0, none⟩ = some (.int .u8 (d : Int)) ∧ w'.cell? ⟨B, 1, none⟩ = some (.int .i8 n)) := fun w' h => ⟨below_read h HX.out.cells.2, below_read h q0, below_read h q1⟩
    refine region_T (fun j => j == 17) (fun w' => w'.cell? ⟨c, 1, none⟩ = some L ∧ w'.cell? ⟨B, 0, none⟩ = some (.int .u8 (d : Int)) ∧ w'.cell? ⟨B, 1, none⟩ = some (.int .i8 n)) (by kernel_rfl) ?_
    obtain ⟨X0, hX0, hbX0⟩ : ∃ X0 : World, X.drew = X0 ∧ Below X.heap.size X X0 := ⟨_, rfl, (Below.refl _ X).drew⟩
    rw [hX0]
    clear hX0 q0 q1
    have hC := HC.out X0 hbX0
    refine takeT (i := 0) (v := ?_) rfl (by kernel_rfl) (by kernel_rfl) (by kernel_rfl) (by kernel_rfl) (fun _ _ _ h => h) hC (by rfl) ?_ ?_
    rotate_left
    · intro w hSw; (try dsimp only at hSw); go_simp; try (with_reducible rfl)
    try simp only [Act.put, List.setIfInBounds_toArray, List.set_cons_zero, List.set_cons_succ]
    refine takeT (i := 1) (v := ?_) rfl (by kernel_rfl) (by kernel_rfl) (by kernel_rfl) (by kernel_rfl) (fun _ _ _ h => h) hC (by rfl) ?_ ?_
    rotate_left
    · intro w hSw; (try dsimp only at hSw); go_simp; try (with_reducible rfl)
    try simp only [Act.put, List.setIfInBounds_toArray, List.set_cons_zero, List.set_cons_succ]
    refine takeT (i := 2) (v := ?_) rfl (by kernel_rfl) (by kernel_rfl) (by kernel_rfl) (by kernel_rfl) (fun _ _ _ h => h) hC (by rfl) ?_ ?_
    rotate_left
    · intro w hSw; (try dsimp only at hSw); go_simp; try (with_reducible rfl)
    try simp only [Act.put, List.setIfInBounds_toArray, List.set_cons_zero, List.set_cons_succ]
    refine takeT (i := 3) (v := ?_) rfl (by kernel_rfl) (by kernel_rfl) (by kernel_rfl) (by kernel_rfl) (fun _ _ _ h => h) hC (by rfl) ?_ ?_
    rotate_left
    · intro w hSw; (try dsimp only at hSw); go_simp; try (with_reducible rfl)
    try simp only [Act.put, List.setIfInBounds_toArray, List.set_cons_zero, List.set_cons_succ]
    refine takeT (i := 4) (v := ?_) rfl (by kernel_rfl) (by kernel_rfl) (by kernel_rfl) (by kernel_rfl) (fun _ _ _ h => h) hC (by rfl) ?_ ?_
    rotate_left
    · intro w hSw; (try dsimp only at hSw); go_simp; try (with_reducible rfl)
    try simp only [Act.put, List.setIfInBounds_toArray, List.set_cons_zero, List.set_cons_succ]
    refine takeT (i := 5) (v := ?_) rfl (by kernel_rfl) (by kernel_rfl) (by kernel_rfl) (by kernel_rfl) (fun _ _ _ h => h) hC (by rfl) ?_ ?_
    rotate_left
    · intro w hSw; (try dsimp only at hSw); go_simp; try (with_reducible rfl)
    try simp only [Act.put, List.setIfInBounds_toArray, List.set_cons_zero, List.set_cons_succ]
    refine takeT (i := 6) (v := ?_) rfl (by kernel_rfl) (by kernel_rfl) (by kernel_rfl) (by kernel_rfl) (fun _ _ _ h => h) hC (by rfl) ?_ ?_
    rotate_left
    · intro w hSw; (try dsimp only at hSw); go_simp; try (with_reducible rfl)
    try simp only [Act.put, List.setIfInBounds_toArray, List.set_cons_zero, List.set_cons_succ]
    refine takeT (i := 7) (v := ?_) rfl (by kernel_rfl) (by kernel_rfl) (by kernel_rfl) (by kernel_rfl) (fun _ _ _ h => h) hC (by rfl) ?_ ?_
    rotate_left
    · intro w hSw; (try dsimp only at hSw); go_simp; try (with_reducible rfl)
    try simp only [Act.put, List.setIfInBounds_toArray, List.set_cons_zero, List.set_cons_succ]
    refine takeT (i := 8) (v := ?_) rfl (by kernel_rfl) (by kernel_rfl) (by kernel_rfl) (by kernel_rfl) (fun _ _ _ h => h) hC (by rfl) ?_ ?_
    rotate_left
    · intro w hSw; (try dsimp only at hSw); go_simp; try (with_reducible rfl)
    try simp only [Act.put, List.setIfInBounds_toArray, List.set_cons_zero, List.set_cons_succ]
    refine takeT (i := 9) (v := ?_) rfl (by kernel_rfl) (by kernel_rfl) (by kernel_rfl) (by kernel_rfl) (fun _ _ _ h => h) hC (by rfl) ?_ ?_
    rotate_left
    · intro w hSw; (try dsimp only at hSw); go_simp; try (with_reducible rfl)
    try simp only [Act.put, List.setIfInBounds_toArray, List.set_cons_zero, List.set_cons_succ]
    refine takeT (i := 10) (v := ?_) rfl (by kernel_rfl) (by kernel_rfl) (by kernel_rfl) (by kernel_rfl) (fun _ _ _ h => h) hC (by rfl) ?_ ?_
    rotate_left
    · intro w hSw; (try dsimp only at hSw); go_simp; try (with_reducible rfl)
    try simp only [Act.put, List.setIfInBounds_toArray, List.set_cons_zero, List.set_cons_succ]
    refine takeT (i := 11) (v := ?_) rfl (by kernel_rfl) (by kernel_rfl) (by kernel_rfl) (by kernel_rfl) (fun _ _ _ h => h) hC (by rfl) ?_ ?_
    rotate_left
    · intro w hSw; (try dsimp only at hSw); go_simp; try (with_reducible rfl)
    try simp only [Act.put, List.setIfInBounds_toArray, List.set_cons_zero, List.set_cons_succ]
    refine takeT (i := 12) (v := ?_) rfl (by kernel_rfl) (by kernel_rfl) (by kernel_rfl) (by kernel_rfl) (fun _ _ _ h => h) hC (by rfl) ?_ ?_
    rotate_left
    · intro w hSw; (try dsimp only at hSw); go_simp; try (with_reducible rfl)
    try simp only [Act.put, List.setIfInBounds_toArray, List.set_cons_zero, List.set_cons_succ]
    refine oneT (i := 13) (by kernel_rfl) rfl (by rfl) (fun K hK => ?_)
    go_simp
    obtain ⟨X1, s, hX1, hs, b1, e0, e1, e2⟩ : ∃ (X1 : World) (s : Nat), X0.alloc (.cells #[.int .i64 (IntKind.i64.wrap ((d : Int).tmod 4)), .int .i64 n, .int .i64 N] 2) = X1 ∧ X0.heap.size = s ∧ Below X0.heap.size X0 X1 ∧ X1.cell? ⟨s, 0, none⟩ = some (.int .i64 ((d % 4 : Nat) : Int)) ∧ X1.cell? ⟨s, 1, none⟩ = some (.int .i64 n) ∧ X1.cell? ⟨s, 2, none⟩ = some (.int .i64 N) := ⟨_, _, rfl, rfl, below_new _ _, by rw [← HWD.out]; exact c_new rfl rfl, c_new rfl rfl, c_new rfl rfl⟩
    (try rw [hX1]); (try rw [hs])
    clear hX1 hs
    have hbX1 := hbX0.trans (b1.mono hbX0.size)
    refine hK.out _ _ (fun _ => HC.out X1 hbX1) ?_
    clear hK K hC
    try simp only [Act.put, List.setIfInBounds_toArray, List.set_cons_zero, List.set_cons_succ]
    have hC := HC.out X1 hbX1
    have h1 := HX.out.below hbX1
    obtain ⟨A', m', n', Y, hrun, r5, g5, l5⟩ := run_pushS h1.row (sl_three e0 e1 e2) (by simp; omega) (by simp)
    obtain ⟨h6, o6, c6, f6⟩ := h1.pushed r5 g5 l5
    have hBF : ¬ F B := fun e => by have h2 := HLT.out B e; have h3 := HZ.out; omega
    have hY : Y.cell? ⟨c, 1, none⟩ = some L ∧ Y.cell? ⟨B, 0, none⟩ = some (.int .u8 (d : Int)) ∧ Y.cell? ⟨B, 1, none⟩ = some (.int .i8 n) := ⟨c6, only_read (Only.grown F g5 fun b e => h1.fl b e) hBF hC.2.1, only_read (Only.grown F g5 fun b e => h1.fl b e) hBF hC.2.2⟩
    have HE : Hid (∃ F' L', Ce F' (Y.setCell ⟨c, 1, none⟩ (.slice A' m' n')) c ((⟨d, n⟩ : Tc).on N) (l ++ (⟨d, n⟩ : Tc).log N) L' ∧ Only F w (Y.setCell ⟨c, 1, none⟩ (.slice A' m' n')) ∧ ∀ b, F' b → F b ∨ w.heap.size ≤ b) := ⟨_, _, h6, (o1.then (Only.of_below F hbX1)).then o6, fun b e => by
      rcases e with e | e
      · exact .inl e
      · rcases l5 b e with e | e
        · exact .inl (h1.fl b e)
        · right
          have h2 := o1.size
          have h3 := hbX1.size
          omega⟩
    clear h6 o6 h1 r5 g5 l5 hC
    refine oneT (i := 14) (by kernel_rfl) rfl (by rfl) (fun K hK => ?_)
    refine Lib.wp_append_run _ (.tmp 57) (.tmp 66) _ _ rfl _ _ rfl rfl _ _ hrun ?_
    refine hK.out _ _ (fun _ => hY) ?_
    clear hK K
    try simp only [Act.put, List.setIfInBounds_toArray, List.set_cons_zero, List.set_cons_succ]
    refine oneT (i := 15) (by kernel_rfl) rfl (by rfl) (fun K hK => ?_)
    go_simp
    refine hK.out _ _ (fun _ => hY) ?_
    clear hK K
    try simp only [Act.put, List.setIfInBounds_toArray, List.set_cons_zero, List.set_cons_succ]
    refine oneT (i := 16) (by kernel_rfl) rfl (by rfl) (fun K hK => ?_)
    go_simp
    refine hK.out _ _ (fun _ => hY) ?_
    clear hK K
    try simp only [Act.put, List.setIfInBounds_toArray, List.set_cons_zero, List.set_cons_succ]
    refine oneT (i := 17) (by kernel_rfl) rfl (by rfl) (fun K hK => ?_)
    go_simp
    refine hK.out _ _ (fun h => absurd h (by decide)) ?_
    clear hK K
    refine doneT (by kernel_rfl) ?_
    clear hY HC HX hrun hbX0 hbX1 e0 e1 e2 b1 c6 f6
    generalize hZ : Y.setCell ⟨c, 1, none⟩ (.slice A' m' n') = Z at *
    clear hZ
    go_wp2
    go_ret
    exact ⟨rfl, HE.out⟩
  · have HO : Hid ((⟨d, n⟩ : Tc).on N = n) := by show _ = _; simp [Tc.on, hk]
    have e1 : ((d : Int) % 4 == 1) = false := by simp; omega
    have e2 : ((d : Int) % 4 == 2) = true := by simp; omega
    have e3 : ((d : Int) % 4 == 3) = false := by simp; omega
    go_enter Try.func35, Try.ntmps35
    go_wp2_with fail
    (try rw [hW]); (try rw [hB])
    obtain ⟨X, hX, HX, q0, q1, o1⟩ : ∃ X : World, W.setCell ⟨c, 0, none⟩ (.int .i64 n) = X ∧ Hid (Ce F X c ((⟨d, n⟩ : Tc).on N) l L) ∧ X.cell? ⟨B, 0, none⟩ = some (.int .u8 (d : Int)) ∧ X.cell? ⟨B, 1, none⟩ = some (.int .i8 n) ∧ Only F w X := ⟨_, rfl, by rw [HO.out]; exact HT.out.num _, only_read (G := (· = c)) (only_set W c 0 _) (show ¬ B = c from fun e => hcB e.symm) b0, only_read (G := (· = c)) (only_set W c 0 _) (show ¬ B = c from fun e => hcB e.symm) b1, (Only.of_below F HB.out).then (Only.set F W (p := ⟨c, 0, none⟩) HT.out.fc _)⟩
    rw [hX]
    clear b0 b1 c0 c1 f0 f1 HT hW hX
    have HC : Hid (∀ w', Below X.heap.size X w' → w'.cell? ⟨c, 1, none⟩ = some L ∧ w'.cell? ⟨B, 0, none⟩ = some (.int .u8 (d : Int)) ∧ w'.cell? ⟨B, 1, none⟩ = some (.int .i8 n)) := fun w' h => ⟨below_read h HX.out.cells.2, below_read h q0, below_read h q1⟩
    refine region_T (fun j => j == 17) (fun w' => w'.cell? ⟨c, 1, none⟩ = some L ∧ w'.cell? ⟨B, 0, none⟩ = some (.int .u8 (d : Int)) ∧ w'.cell? ⟨B, 1, none⟩ = some (.int .i8 n)) (by kernel_rfl) ?_
    obtain ⟨X0, hX0, hbX0⟩ : ∃ X0 : World, X.drew = X0 ∧ Below X.heap.size X X0 := ⟨_, rfl, (Below.refl _ X).drew⟩
    rw [hX0]
    clear hX0 q0 q1
    have hC := HC.out X0 hbX0
    refine takeT (i := 0) (v := ?_) rfl (by kernel_rfl) (by kernel_rfl) (by kernel_rfl) (by kernel_rfl) (fun _ _ _ h => h) hC (by rfl) ?_ ?_
    rotate_left
    · intro w hSw; (try dsimp only at hSw); go_simp; try (with_reducible rfl)
    try simp only [Act.put, List.setIfInBounds_toArray, List.set_cons_zero, List.set_cons_succ]
    refine takeT (i := 1) (v := ?_) rfl (by kernel_rfl) (by kernel_rfl) (by kernel_rfl) (by kernel_rfl) (fun _ _ _ h => h) hC (by rfl) ?_ ?_
    rotate_left
    · intro w hSw; (try dsimp only at hSw); go_simp; try (with_reducible rfl)
    try simp only [Act.put, List.setIfInBounds_toArray, List.set_cons_zero, List.set_cons_succ]
    refine takeT (i := 2) (v := ?_) rfl (by kernel_rfl) (by kernel_rfl) (by kernel_rfl) (by kernel_rfl) (fun _ _ _ h => h) hC (by rfl) ?_ ?_
    rotate_left
    · intro w hSw; (try dsimp only at hSw); go_simp; try (with_reducible rfl)
    try simp only [Act.put, List.setIfInBounds_toArray, List.set_cons_zero, List.set_cons_succ]
    refine takeT (i := 3) (v := ?_) rfl (by kernel_rfl) (by kernel_rfl) (by kernel_rfl) (by kernel_rfl) (fun _ _ _ h => h) hC (by rfl) ?_ ?_
    rotate_left
    · intro w hSw; (try dsimp only at hSw); go_simp; try (with_reducible rfl)
    try simp only [Act.put, List.setIfInBounds_toArray, List.set_cons_zero, List.set_cons_succ]
    refine takeT (i := 4) (v := ?_) rfl (by kernel_rfl) (by kernel_rfl) (by kernel_rfl) (by kernel_rfl) (fun _ _ _ h => h) hC (by rfl) ?_ ?_
    rotate_left
    · intro w hSw; (try dsimp only at hSw); go_simp; try (with_reducible rfl)
    try simp only [Act.put, List.setIfInBounds_toArray, List.set_cons_zero, List.set_cons_succ]
    refine takeT (i := 5) (v := ?_) rfl (by kernel_rfl) (by kernel_rfl) (by kernel_rfl) (by kernel_rfl) (fun _ _ _ h => h) hC (by rfl) ?_ ?_
    rotate_left
    · intro w hSw; (try dsimp only at hSw); go_simp; try (with_reducible rfl)
    try simp only [Act.put, List.setIfInBounds_toArray, List.set_cons_zero, List.set_cons_succ]
    refine takeT (i := 6) (v := ?_) rfl (by kernel_rfl) (by kernel_rfl) (by kernel_rfl) (by kernel_rfl) (fun _ _ _ h => h) hC (by rfl) ?_ ?_
    rotate_left
    · intro w hSw; (try dsimp only at hSw); go_simp; try (with_reducible rfl)
    try simp only [Act.put, List.setIfInBounds_toArray, List.set_cons_zero, List.set_cons_succ]
    refine takeT (i := 7) (v := ?_) rfl (by kernel_rfl) (by kernel_rfl) (by kernel_rfl) (by kernel_rfl) (fun _ _ _ h => h) hC (by rfl) ?_ ?_
    rotate_left
    · intro w hSw; (try dsimp only at hSw); go_simp; try (with_reducible rfl)
    try simp only [Act.put, List.setIfInBounds_toArray, List.set_cons_zero, List.set_cons_succ]
    refine takeT (i := 8) (v := ?_) rfl (by kernel_rfl) (by kernel_rfl) (by kernel_rfl) (by kernel_rfl) (fun _ _ _ h => h) hC (by rfl) ?_ ?_
    rotate_left
    · intro w hSw; (try dsimp only at hSw); go_simp; try (with_reducible rfl)
    try simp only [Act.put, List.setIfInBounds_toArray, List.set_cons_zero, List.set_cons_succ]
    refine takeT (i := 9) (v := ?_) rfl (by kernel_rfl) (by kernel_rfl) (by kernel_rfl) (by kernel_rfl) (fun _ _ _ h => h) hC (by rfl) ?_ ?_
    rotate_left
    · intro w hSw; (try dsimp only at hSw); go_simp; try (with_reducible rfl)
    try simp only [Act.put, List.setIfInBounds_toArray, List.set_cons_zero, List.set_cons_succ]
    refine takeT (i := 10) (v := ?_) rfl (by kernel_rfl) (by kernel_rfl) (by kernel_rfl) (by kernel_rfl) (fun _ _ _ h => h) hC (by rfl) ?_ ?_
    rotate_left
    · intro w hSw; (try dsimp only at hSw); go_simp; try (with_reducible rfl)
    try simp only [Act.put, List.setIfInBounds_toArray, List.set_cons_zero, List.set_cons_succ]
    refine takeT (i := 11) (v := ?_) rfl (by kernel_rfl) (by kernel_rfl) (by kernel_rfl) (by kernel_rfl) (fun _ _ _ h => h) hC (by rfl) ?_ ?_
    rotate_left
    · intro w hSw; (try dsimp only at hSw); go_simp; try (with_reducible rfl)
    try simp only [Act.put, List.setIfInBounds_toArray, List.set_cons_zero, List.set_cons_succ]
    refine takeT (i := 12) (v := ?_) rfl (by kernel_rfl) (by kernel_rfl) (by kernel_rfl) (by kernel_rfl) (fun _ _ _ h => h) hC (by rfl) ?_ ?_
    rotate_left
    · intro w hSw; (try dsimp only at hSw); go_simp; try (with_reducible rfl)
    try simp only [Act.put, List.setIfInBounds_toArray, List.set_cons_zero, List.set_cons_succ]
    refine oneT (i := 13) (by kernel_rfl) rfl (by rfl) (fun K hK => ?_)
    go_simp
    obtain ⟨X1, s, hX1, hs, b1, e0, e1, e2⟩ : ∃ (X1 : World) (s : Nat), X0.alloc (.cells #[.int .i64 (IntKind.i64.wrap ((d : Int).tmod 4)), .int .i64 n, .int .i64 N] 2) = X1 ∧ X0.heap.size = s ∧ Below X0.heap.size X0 X1 ∧ X1.cell? ⟨s, 0, none⟩ = some (.int .i64 ((d % 4 : Nat) : Int)) ∧ X1.cell? ⟨s, 1, none⟩ = some (.int .i64 n) ∧ X1.cell? ⟨s, 2, none⟩ = some (.int .i64 N) := ⟨_, _, rfl, rfl, below_new _ _, by rw [← HWD.out]; exact c_new rfl rfl, c_new rfl rfl, c_new rfl rfl⟩
    (try rw [hX1]); (try rw [hs])
    clear hX1 hs
    have hbX1 := hbX0.trans (b1.mono hbX0.size)
    refine hK.out _ _ (fun _ => HC.out X1 hbX1) ?_
    clear hK K hC
    try simp only [Act.put, List.setIfInBounds_toArray, List.set_cons_zero, List.set_cons_succ]
    have hC := HC.out X1 hbX1
    have h1 := HX.out.below hbX1
    obtain ⟨A', m', n', Y, hrun, r5, g5, l5⟩ := run_pushS h1.row (sl_three e0 e1 e2) (by simp; omega) (by simp)
    obtain ⟨h6, o6, c6, f6⟩ := h1.pushed r5 g5 l5
    have hBF : ¬ F B := fun e => by have h2 := HLT.out B e; have h3 := HZ.out; omega
    have hY : Y.cell? ⟨c, 1, none⟩ = some L ∧ Y.cell? ⟨B, 0, none⟩ = some (.int .u8 (d : Int)) ∧ Y.cell? ⟨B, 1, none⟩ = some (.int .i8 n) := ⟨c6, only_read (Only.grown F g5 fun b e => h1.fl b e) hBF hC.2.1, only_read (Only.grown F g5 fun b e => h1.fl b e) hBF hC.2.2⟩
    have HE : Hid (∃ F' L', Ce F' (Y.setCell ⟨c, 1, none⟩ (.slice A' m' n')) c ((⟨d, n⟩ : Tc).on N) (l ++ (⟨d, n⟩ : Tc).log N) L' ∧ Only F w (Y.setCell ⟨c, 1, none⟩ (.slice A' m' n')) ∧ ∀ b, F' b → F b ∨ w.heap.size ≤ b) := ⟨_, _, h6, (o1.then (Only.of_below F hbX1)).then o6, fun b e => by
      rcases e with e | e
      · exact .inl e
      · rcases l5 b e with e | e
        · exact .inl (h1.fl b e)
        · right
          have h2 := o1.size
          have h3 := hbX1.size
          omega⟩
    clear h6 o6 h1 r5 g5 l5 hC
    refine oneT (i := 14) (by kernel_rfl) rfl (by rfl) (fun K hK => ?_)
    refine Lib.wp_append_run _ (.tmp 57) (.tmp 66) _ _ rfl _ _ rfl rfl _ _ hrun ?_
    refine hK.out _ _ (fun _ => hY) ?_
    clear hK K
    try simp only [Act.put, List.setIfInBounds_toArray, List.set_cons_zero, List.set_cons_succ]
    refine oneT (i := 15) (by kernel_rfl) rfl (by rfl) (fun K hK => ?_)
    go_simp
    refine hK.out _ _ (fun _ => hY) ?_
    clear hK K
    try simp only [Act.put, List.setIfInBounds_toArray, List.set_cons_zero, List.set_cons_succ]
    refine oneT (i := 16) (by kernel_rfl) rfl (by rfl) (fun K hK => ?_)
    go_simp
    refine hK.out _ _ (fun _ => hY) ?_
    clear hK K
    try simp only [Act.put, List.setIfInBounds_toArray, List.set_cons_zero, List.set_cons_succ]
    refine oneT (i := 17) (by kernel_rfl) rfl (by rfl) (fun K hK => ?_)
    go_simp
    refine hK.out _ _ (fun h => absurd h (by decide)) ?_
    clear hK K
    refine doneT (by kernel_rfl) ?_
    clear hY HC HX hrun hbX0 hbX1 e0 e1 e2 b1 c6 f6
    generalize hZ : Y.setCell ⟨c, 1, none⟩ (.slice A' m' n') = Z at *
    clear hZ
    go_wp2
    go_ret
    exact ⟨rfl, HE.out⟩
  · by_cases hN : N.tmod 2 = 0
    · have HO : Hid ((⟨d, n⟩ : Tc).on N = wrap64 (wrap64 (3 * N) + n)) := by show _ = _; simp [Tc.on, hk, hN]
      have e1 : ((d : Int) % 4 == 1) = false := by simp; omega
      have e2 : ((d : Int) % 4 == 2) = false := by simp; omega
      have e3 : ((d : Int) % 4 == 3) = true := by simp; omega
      have e5 : (N.tmod 2 == 0) = true := by simp [hN]
      go_enter Try.func35, Try.ntmps35
      go_wp2_with fail
      (try rw [hW]); (try rw [hB])
      go_region
      obtain ⟨X, hX, HX, q0, q1, o1⟩ : ∃ X : World, (W.setCell ⟨c, 0, none⟩ (.int .i64 (wrap64 (wrap64 (3 * N) + n)))).drew = X ∧ Hid (Ce F X c ((⟨d, n⟩ : Tc).on N) l L) ∧ X.cell? ⟨B, 0, none⟩ = some (.int .u8 (d : Int)) ∧ X.cell? ⟨B, 1, none⟩ = some (.int .i8 n) ∧ Only F w X := ⟨_, rfl, by rw [HO.out]; exact (HT.out.num _).drew, only_read (G := (· = c)) ((only_set W c 0 _).then (only_drew _ _)) (show ¬ B = c from fun e => hcB e.symm) b0, only_read (G := (· = c)) ((only_set W c 0 _).then (only_drew _ _)) (show ¬ B = c from fun e => hcB e.symm) b1, ((Only.of_below F HB.out).then (Only.set F W (p := ⟨c, 0, none⟩) HT.out.fc _)).then (only_drew _ _)⟩
      rw [hX]
      clear b0 b1 c0 c1 f0 f1 HT hW hX
      go_wp2_with fail
      have HC : Hid (∀ w', Below X.heap.size X w' → w'.cell? ⟨c, 1, none⟩ = some L ∧ w'.cell? ⟨B, 0, none⟩ = some (.int .u8 (d : Int)) ∧ w'.cell? ⟨B, 1, none⟩ = some (.int .i8 n)) := fun w' h => ⟨below_read h HX.out.cells.2, below_read h q0, below_read h q1⟩
      refine region_T (fun j => j == 17) (fun w' => w'.cell? ⟨c, 1, none⟩ = some L ∧ w'.cell? ⟨B, 0, none⟩ = some (.int .u8 (d : Int)) ∧ w'.cell? ⟨B, 1, none⟩ = some (.int .i8 n)) (by kernel_rfl) ?_
      obtain ⟨X0, hX0, hbX0⟩ : ∃ X0 : World, X.drew = X0 ∧ Below X.heap.size X X0 := ⟨_, rfl, (Below.refl _ X).drew⟩
      rw [hX0]
      clear hX0 q0 q1
      have hC := HC.out X0 hbX0
      refine takeT (i := 0) (v := ?_) rfl (by kernel_rfl) (by kernel_rfl) (by kernel_rfl) (by kernel_rfl) (fun _ _ _ h => h) hC (by rfl) ?_ ?_
      rotate_left
      · intro w hSw; (try dsimp only at hSw); go_simp; try (with_reducible rfl)
      try simp only [Act.put, List.setIfInBounds_toArray, List.set_cons_zero, List.set_cons_succ]
      refine takeT (i := 1) (v := ?_) rfl (by kernel_rfl) (by kernel_rfl) (by kernel_rfl) (by kernel_rfl) (fun _ _ _ h => h) hC (by rfl) ?_ ?_
      rotate_left
      · intro w hSw; (try dsimp only at hSw); go_simp; try (with_reducible rfl)
      try simp only [Act.put, List.setIfInBounds_toArray, List.set_cons_zero, List.set_cons_succ]
      refine takeT (i := 2) (v := ?_) rfl (by kernel_rfl) (by kernel_rfl) (by kernel_rfl) (by kernel_rfl) (fun _ _ _ h => h) hC (by rfl) ?_ ?_
      rotate_left
      · intro w hSw; (try dsimp only at hSw); go_simp; try (with_reducible rfl)
      try simp only [Act.put, List.setIfInBounds_toArray, List.set_cons_zero, List.set_cons_succ]
      refine takeT (i := 3) (v := ?_) rfl (by kernel_rfl) (by kernel_rfl) (by kernel_rfl) (by kernel_rfl) (fun _ _ _ h => h) hC (by rfl) ?_ ?_
      rotate_left
      · intro w hSw; (try dsimp only at hSw); go_simp; try (with_reducible rfl)
      try simp only [Act.put, List.setIfInBounds_toArray, List.set_cons_zero, List.set_cons_succ]
      refine takeT (i := 4) (v := ?_) rfl (by kernel_rfl) (by kernel_rfl) (by kernel_rfl) (by kernel_rfl) (fun _ _ _ h => h) hC (by rfl) ?_ ?_
      rotate_left
      · intro w hSw; (try dsimp only at hSw); go_simp; try (with_reducible rfl)
      try simp only [Act.put, List.setIfInBounds_toArray, List.set_cons_zero, List.set_cons_succ]
      refine takeT (i := 5) (v := ?_) rfl (by kernel_rfl) (by kernel_rfl) (by kernel_rfl) (by kernel_rfl) (fun _ _ _ h => h) hC (by rfl) ?_ ?_
      rotate_left
      · intro w hSw; (try dsimp only at hSw); go_simp; try (with_reducible rfl)
      try simp only [Act.put, List.setIfInBounds_toArray, List.set_cons_zero, List.set_cons_succ]
      refine takeT (i := 6) (v := ?_) rfl (by kernel_rfl) (by kernel_rfl) (by kernel_rfl) (by kernel_rfl) (fun _ _ _ h => h) hC (by rfl) ?_ ?_
      rotate_left
      · intro w hSw; (try dsimp only at hSw); go_simp; try (with_reducible rfl)
      try simp only [Act.put, List.setIfInBounds_toArray, List.set_cons_zero, List.set_cons_succ]
      refine takeT (i := 7) (v := ?_) rfl (by kernel_rfl) (by kernel_rfl) (by kernel_rfl) (by kernel_rfl) (fun _ _ _ h => h) hC (by rfl) ?_ ?_
      rotate_left
      · intro w hSw; (try dsimp only at hSw); go_simp; try (with_reducible rfl)
      try simp only [Act.put, List.setIfInBounds_toArray, List.set_cons_zero, List.set_cons_succ]
      refine takeT (i := 8) (v := ?_) rfl (by kernel_rfl) (by kernel_rfl) (by kernel_rfl) (by kernel_rfl) (fun _ _ _ h => h) hC (by rfl) ?_ ?_
      rotate_left
      · intro w hSw; (try dsimp only at hSw); go_simp; try (with_reducible rfl)
      try simp only [Act.put, List.setIfInBounds_toArray, List.set_cons_zero, List.set_cons_succ]
      refine takeT (i := 9) (v := ?_) rfl (by kernel_rfl) (by kernel_rfl) (by kernel_rfl) (by kernel_rfl) (fun _ _ _ h => h) hC (by rfl) ?_ ?_
      rotate_left
      · intro w hSw; (try dsimp only at hSw); go_simp; try (with_reducible rfl)
      try simp only [Act.put, List.setIfInBounds_toArray, List.set_cons_zero, List.set_cons_succ]
      refine takeT (i := 10) (v := ?_) rfl (by kernel_rfl) (by kernel_rfl) (by kernel_rfl) (by kernel_rfl) (fun _ _ _ h => h) hC (by rfl) ?_ ?_
      rotate_left
      · intro w hSw; (try dsimp only at hSw); go_simp; try (with_reducible rfl)
      try simp only [Act.put, List.setIfInBounds_toArray, List.set_cons_zero, List.set_cons_succ]
      refine takeT (i := 11) (v := ?_) rfl (by kernel_rfl) (by kernel_rfl) (by kernel_rfl) (by kernel_rfl) (fun _ _ _ h => h) hC (by rfl) ?_ ?_
      rotate_left
      · intro w hSw; (try dsimp only at hSw); go_simp; try (with_reducible rfl)
      try simp only [Act.put, List.setIfInBounds_toArray, List.set_cons_zero, List.set_cons_succ]
      refine takeT (i := 12) (v := ?_) rfl (by kernel_rfl) (by kernel_rfl) (by kernel_rfl) (by kernel_rfl) (fun _ _ _ h => h) hC (by rfl) ?_ ?_
      rotate_left
      · intro w hSw; (try dsimp only at hSw); go_simp; try (with_reducible rfl)
      try simp only [Act.put, List.setIfInBounds_toArray, List.set_cons_zero, List.set_cons_succ]
      refine oneT (i := 13) (by kernel_rfl) rfl (by rfl) (fun K hK => ?_)
      go_simp
      obtain ⟨X1, s, hX1, hs, b1, e0, e1, e2⟩ : ∃ (X1 : World) (s : Nat), X0.alloc (.cells #[.int .i64 (IntKind.i64.wrap ((d : Int).tmod 4)), .int .i64 n, .int .i64 N] 2) = X1 ∧ X0.heap.size = s ∧ Below X0.heap.size X0 X1 ∧ X1.cell? ⟨s, 0, none⟩ = some (.int .i64 ((d % 4 : Nat) : Int)) ∧ X1.cell? ⟨s, 1, none⟩ = some (.int .i64 n) ∧ X1.cell? ⟨s, 2, none⟩ = some (.int .i64 N) := ⟨_, _, rfl, rfl, below_new _ _, by rw [← HWD.out]; exact c_new rfl rfl, c_new rfl rfl, c_new rfl rfl⟩
      (try rw [hX1]); (try rw [hs])
      clear hX1 hs
      have hbX1 := hbX0.trans (b1.mono hbX0.size)
      refine hK.out _ _ (fun _ => HC.out X1 hbX1) ?_
      clear hK K hC
      try simp only [Act.put, List.setIfInBounds_toArray, List.set_cons_zero, List.set_cons_succ]
      have hC := HC.out X1 hbX1
      have h1 := HX.out.below hbX1
      obtain ⟨A', m', n', Y, hrun, r5, g5, l5⟩ := run_pushS h1.row (sl_three e0 e1 e2) (by simp; omega) (by simp)
      obtain ⟨h6, o6, c6, f6⟩ := h1.pushed r5 g5 l5
      have hBF : ¬ F B := fun e => by have h2 := HLT.out B e; have h3 := HZ.out; omega
      have hY : Y.cell? ⟨c, 1, none⟩ = some L ∧ Y.cell? ⟨B, 0, none⟩ = some (.int .u8 (d : Int)) ∧ Y.cell? ⟨B, 1, none⟩ = some (.int .i8 n) := ⟨c6, only_read (Only.grown F g5 fun b e => h1.fl b e) hBF hC.2.1, only_read (Only.grown F g5 fun b e => h1.fl b e) hBF hC.2.2⟩
      have HE : Hid (∃ F' L', Ce F' (Y.setCell ⟨c, 1, none⟩ (.slice A' m' n')) c ((⟨d, n⟩ : Tc).on N) (l ++ (⟨d, n⟩ : Tc).log N) L' ∧ Only F w (Y.setCell ⟨c, 1, none⟩ (.slice A' m' n')) ∧ ∀ b, F' b → F b ∨ w.heap.size ≤ b) := ⟨_, _, h6, (o1.then (Only.of_below F hbX1)).then o6, fun b e => by
        rcases e with e | e
        · exact .inl e
        · rcases l5 b e with e | e
          · exact .inl (h1.fl b e)
          · right
            have h2 := o1.size
            have h3 := hbX1.size
            omega⟩
      clear h6 o6 h1 r5 g5 l5 hC
      refine oneT (i := 14) (by kernel_rfl) rfl (by rfl) (fun K hK => ?_)
      refine Lib.wp_append_run _ (.tmp 57) (.tmp 66) _ _ rfl _ _ rfl rfl _ _ hrun ?_
      refine hK.out _ _ (fun _ => hY) ?_
      clear hK K
      try simp only [Act.put, List.setIfInBounds_toArray, List.set_cons_zero, List.set_cons_succ]
      refine oneT (i := 15) (by kernel_rfl) rfl (by rfl) (fun K hK => ?_)
      go_simp
      refine hK.out _ _ (fun _ => hY) ?_
      clear hK K
      try simp only [Act.put, List.setIfInBounds_toArray, List.set_cons_zero, List.set_cons_succ]
      refine oneT (i := 16) (by kernel_rfl) rfl (by rfl) (fun K hK => ?_)
      go_simp
      refine hK.out _ _ (fun _ => hY) ?_
      clear hK K
      try simp only [Act.put, List.setIfInBounds_toArray, List.set_cons_zero, List.set_cons_succ]
      refine oneT (i := 17) (by kernel_rfl) rfl (by rfl) (fun K hK => ?_)
      go_simp
      refine hK.out _ _ (fun h => absurd h (by decide)) ?_
      clear hK K
      refine doneT (by kernel_rfl) ?_
      clear hY HC HX hrun hbX0 hbX1 e0 e1 e2 b1 c6 f6
      generalize hZ : Y.setCell ⟨c, 1, none⟩ (.slice A' m' n') = Z at *
      clear hZ
      go_wp2
      go_ret
      exact ⟨rfl, HE.out⟩
    · have HO : Hid ((⟨d, n⟩ : Tc).on N = N) := by show _ = _; simp [Tc.on, hk, hN]
      have e1 : ((d : Int) % 4 == 1) = false := by simp; omega
      have e2 : ((d : Int) % 4 == 2) = false := by simp; omega
      have e3 : ((d : Int) % 4 == 3) = true := by simp; omega
      have e5 : (N.tmod 2 == 0) = false := by simp [hN]
      go_enter Try.func35, Try.ntmps35
      go_wp2_with fail
      (try rw [hW]); (try rw [hB])
      obtain ⟨X, hX, HX, q0, q1, o1⟩ : ∃ X : World, W = X ∧ Hid (Ce F X c ((⟨d, n⟩ : Tc).on N) l L) ∧ X.cell? ⟨B, 0, none⟩ = some (.int .u8 (d : Int)) ∧ X.cell? ⟨B, 1, none⟩ = some (.int .i8 n) ∧ Only F w X := ⟨W, rfl, by rw [HO.out]; exact HT, b0, b1, Only.of_below F HB.out⟩
      clear b0 b1 c0 c1 f0 f1 HT hW
      subst W
      have HC : Hid (∀ w', Below X.heap.size X w' → w'.cell? ⟨c, 1, none⟩ = some L ∧ w'.cell? ⟨B, 0, none⟩ = some (.int .u8 (d : Int)) ∧ w'.cell? ⟨B, 1, none⟩ = some (.int .i8 n)) := fun w' h => ⟨below_read h HX.out.cells.2, below_read h q0, below_read h q1⟩
      refine region_T (fun j => j == 17) (fun w' => w'.cell? ⟨c, 1, none⟩ = some L ∧ w'.cell? ⟨B, 0, none⟩ = some (.int .u8 (d : Int)) ∧ w'.cell? ⟨B, 1, none⟩ = some (.int .i8 n)) (by kernel_rfl) ?_
      obtain ⟨X0, hX0, hbX0⟩ : ∃ X0 : World, X.drew = X0 ∧ Below X.heap.size X X0 := ⟨_, rfl, (Below.refl _ X).drew⟩
      rw [hX0]
      clear hX0 q0 q1
      have hC := HC.out X0 hbX0
      refine takeT (i := 0) (v := ?_) rfl (by kernel_rfl) (by kernel_rfl) (by kernel_rfl) (by kernel_rfl) (fun _ _ _ h => h) hC (by rfl) ?_ ?_
      rotate_left
      · intro w hSw; (try dsimp only at hSw); go_simp; try (with_reducible rfl)
      try simp only [Act.put, List.setIfInBounds_toArray, List.set_cons_zero, List.set_cons_succ]
      refine takeT (i := 1) (v := ?_) rfl (by kernel_rfl) (by kernel_rfl) (by kernel_rfl) (by kernel_rfl) (fun _ _ _ h => h) hC (by rfl) ?_ ?_
      rotate_left
      · intro w hSw; (try dsimp only at hSw); go_simp; try (with_reducible rfl)
      try simp only [Act.put, List.setIfInBounds_toArray, List.set_cons_zero, List.set_cons_succ]
      refine takeT (i := 2) (v := ?_) rfl (by kernel_rfl) (by kernel_rfl) (by kernel_rfl) (by kernel_rfl) (fun _ _ _ h => h) hC (by rfl) ?_ ?_
      rotate_left
      · intro w hSw; (try dsimp only at hSw); go_simp; try (with_reducible rfl)
      try simp only [Act.put, List.setIfInBounds_toArray, List.set_cons_zero, List.set_cons_succ]
      refine takeT (i := 3) (v := ?_) rfl (by kernel_rfl) (by kernel_rfl) (by kernel_rfl) (by kernel_rfl) (fun _ _ _ h => h) hC (by rfl) ?_ ?_
      rotate_left
      · intro w hSw; (try dsimp only at hSw); go_simp; try (with_reducible rfl)
      try simp only [Act.put, List.setIfInBounds_toArray, List.set_cons_zero, List.set_cons_succ]
      refine takeT (i := 4) (v := ?_) rfl (by kernel_rfl) (by kernel_rfl) (by kernel_rfl) (by kernel_rfl) (fun _ _ _ h => h) hC (by rfl) ?_ ?_
      rotate_left
      · intro w hSw; (try dsimp only at hSw); go_simp; try (with_reducible rfl)
      try simp only [Act.put, List.setIfInBounds_toArray, List.set_cons_zero, List.set_cons_succ]
      refine takeT (i := 5) (v := ?_) rfl (by kernel_rfl) (by kernel_rfl) (by kernel_rfl) (by kernel_rfl) (fun _ _ _ h => h) hC (by rfl) ?_ ?_
      rotate_left
      · intro w hSw; (try dsimp only at hSw); go_simp; try (with_reducible rfl)
      try simp only [Act.put, List.setIfInBounds_toArray, List.set_cons_zero, List.set_cons_succ]
      refine takeT (i := 6) (v := ?_) rfl (by kernel_rfl) (by kernel_rfl) (by kernel_rfl) (by kernel_rfl) (fun _ _ _ h => h) hC (by rfl) ?_ ?_
      rotate_left
      · intro w hSw; (try dsimp only at hSw); go_simp; try (with_reducible rfl)
      try simp only [Act.put, List.setIfInBounds_toArray, List.set_cons_zero, List.set_cons_succ]
      refine takeT (i := 7) (v := ?_) rfl (by kernel_rfl) (by kernel_rfl) (by kernel_rfl) (by kernel_rfl) (fun _ _ _ h => h) hC (by rfl) ?_ ?_
      rotate_left
      · intro w hSw; (try dsimp only at hSw); go_simp; try (with_reducible rfl)
      try simp only [Act.put, List.setIfInBounds_toArray, List.set_cons_zero, List.set_cons_succ]
      refine takeT (i := 8) (v := ?_) rfl (by kernel_rfl) (by kernel_rfl) (by kernel_rfl) (by kernel_rfl) (fun _ _ _ h => h) hC (by rfl) ?_ ?_
      rotate_left
      · intro w hSw; (try dsimp only at hSw); go_simp; try (with_reducible rfl)
      try simp only [Act.put, List.setIfInBounds_toArray, List.set_cons_zero, List.set_cons_succ]
      refine takeT (i := 9) (v := ?_) rfl (by kernel_rfl) (by kernel_rfl) (by kernel_rfl) (by kernel_rfl) (fun _ _ _ h => h) hC (by rfl) ?_ ?_
      rotate_left
      · intro w hSw; (try dsimp only at hSw); go_simp; try (with_reducible rfl)
      try simp only [Act.put, List.setIfInBounds_toArray, List.set_cons_zero, List.set_cons_succ]
      refine takeT (i := 10) (v := ?_) rfl (by kernel_rfl) (by kernel_rfl) (by kernel_rfl) (by kernel_rfl) (fun _ _ _ h => h) hC (by rfl) ?_ ?_
      rotate_left
      · intro w hSw; (try dsimp only at hSw); go_simp; try (with_reducible rfl)
      try simp only [Act.put, List.setIfInBounds_toArray, List.set_cons_zero, List.set_cons_succ]
      refine takeT (i := 11) (v := ?_) rfl (by kernel_rfl) (by kernel_rfl) (by kernel_rfl) (by kernel_rfl) (fun _ _ _ h => h) hC (by rfl) ?_ ?_
      rotate_left
      · intro w hSw; (try dsimp only at hSw); go_simp; try (with_reducible rfl)
      try simp only [Act.put, List.setIfInBounds_toArray, List.set_cons_zero, List.set_cons_succ]
      refine takeT (i := 12) (v := ?_) rfl (by kernel_rfl) (by kernel_rfl) (by kernel_rfl) (by kernel_rfl) (fun _ _ _ h => h) hC (by rfl) ?_ ?_
      rotate_left
      · intro w hSw; (try dsimp only at hSw); go_simp; try (with_reducible rfl)
      try simp only [Act.put, List.setIfInBounds_toArray, List.set_cons_zero, List.set_cons_succ]
      refine oneT (i := 13) (by kernel_rfl) rfl (by rfl) (fun K hK => ?_)
      go_simp
      obtain ⟨X1, s, hX1, hs, b1, e0, e1, e2⟩ : ∃ (X1 : World) (s : Nat), X0.alloc (.cells #[.int .i64 (IntKind.i64.wrap ((d : Int).tmod 4)), .int .i64 n, .int .i64 N] 2) = X1 ∧ X0.heap.size = s ∧ Below X0.heap.size X0 X1 ∧ X1.cell? ⟨s, 0, none⟩ = some (.int .i64 ((d % 4 : Nat) : Int)) ∧ X1.cell? ⟨s, 1, none⟩ = some (.int .i64 n) ∧ X1.cell? ⟨s, 2, none⟩ = some (.int .i64 N) := ⟨_, _, rfl, rfl, below_new _ _, by rw [← HWD.out]; exact c_new rfl rfl, c_new rfl rfl, c_new rfl rfl⟩
      (try rw [hX1]); (try rw [hs])
      clear hX1 hs
      have hbX1 := hbX0.trans (b1.mono hbX0.size)
      refine hK.out _ _ (fun _ => HC.out X1 hbX1) ?_
      clear hK K hC
      try simp only [Act.put, List.setIfInBounds_toArray, List.set_cons_zero, List.set_cons_succ]
      have hC := HC.out X1 hbX1
      have h1 := HX.out.below hbX1
      obtain ⟨A', m', n', Y, hrun, r5, g5, l5⟩ := run_pushS h1.row (sl_three e0 e1 e2) (by simp; omega) (by simp)
      obtain ⟨h6, o6, c6, f6⟩ := h1.pushed r5 g5 l5
      have hBF : ¬ F B := fun e => by have h2 := HLT.out B e; have h3 := HZ.out; omega
      have hY : Y.cell? ⟨c, 1, none⟩ = some L ∧ Y.cell? ⟨B, 0, none⟩ = some (.int .u8 (d : Int)) ∧ Y.cell? ⟨B, 1, none⟩ = some (.int .i8 n) := ⟨c6, only_read (Only.grown F g5 fun b e => h1.fl b e) hBF hC.2.1, only_read (Only.grown F g5 fun b e => h1.fl b e) hBF hC.2.2⟩
      have HE : Hid (∃ F' L', Ce F' (Y.setCell ⟨c, 1, none⟩ (.slice A' m' n')) c ((⟨d, n⟩ : Tc).on N) (l ++ (⟨d, n⟩ : Tc).log N) L' ∧ Only F w (Y.setCell ⟨c, 1, none⟩ (.slice A' m' n')) ∧ ∀ b, F' b → F b ∨ w.heap.size ≤ b) := ⟨_, _, h6, (o1.then (Only.of_below F hbX1)).then o6, fun b e => by
        rcases e with e | e
        · exact .inl e
        · rcases l5 b e with e | e
          · exact .inl (h1.fl b e)
          · right
            have h2 := o1.size
            have h3 := hbX1.size
            omega⟩
      clear h6 o6 h1 r5 g5 l5 hC
      refine oneT (i := 14) (by kernel_rfl) rfl (by rfl) (fun K hK => ?_)
      refine Lib.wp_append_run _ (.tmp 57) (.tmp 66) _ _ rfl _ _ rfl rfl _ _ hrun ?_
      refine hK.out _ _ (fun _ => hY) ?_
      clear hK K
      try simp only [Act.put, List.setIfInBounds_toArray, List.set_cons_zero, List.set_cons_succ]
      refine oneT (i := 15) (by kernel_rfl) rfl (by rfl) (fun K hK => ?_)
      go_simp
      refine hK.out _ _ (fun _ => hY) ?_
      clear hK K
      try simp only [Act.put, List.setIfInBounds_toArray, List.set_cons_zero, List.set_cons_succ]
      refine oneT (i := 16) (by kernel_rfl) rfl (by rfl) (fun K hK => ?_)
      go_simp
      refine hK.out _ _ (fun _ => hY) ?_
      clear hK K
      try simp only [Act.put, List.setIfInBounds_toArray, List.set_cons_zero, List.set_cons_succ]
      refine oneT (i := 17) (by kernel_rfl) rfl (by rfl) (fun K hK => ?_)
      go_simp
      refine hK.out _ _ (fun h => absurd h (by decide)) ?_
      clear hK K
      refine doneT (by kernel_rfl) ?_
      clear hY HC HX hrun hbX0 hbX1 e0 e1 e2 b1 c6 f6
      generalize hZ : Y.setCell ⟨c, 1, none⟩ (.slice A' m' n') = Z at *
      clear hZ
      go_wp2
      go_ret
      exact ⟨rfl, HE.out⟩
end
end Go.Proofs.Ytbjaojcffhkahaa
