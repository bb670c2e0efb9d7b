/-
  The document's runner: what Next answers, and what it is behind that.
-/
import Derived.Test.YtbjaojcffhkahaaWork6
namespace Go.Proofs.Ytbjaojcffhkahaa
open Go.ChangeShapes Go.WideShapes Go.ChangeAt Go.RowKit
set_option linter.unusedVariables false
set_option linter.unusedSimpArgs false
set_option maxRecDepth 20000

abbrev rnT : TypeId := 33
abbrev cellsR (P : Value) (i : Nat) (R : Value) : Array Value := #[P, .int .i64 (i : Int), R]
/-- A runner at block r: its program, how far it is, what it was told. -/
structure Rn (F : Nat → Prop) (w : World) (r : Nat) (A : Option Addr) (n cp : Nat) (i : Nat) (zs : List Int) (R : Value) : Prop where
  head : w.heap[r]? = some (.cells (cellsR (.slice A n cp) i R) rnT (0, 0))
  row : Row 2 0 w R zs
  fr : F r
  fl : ∀ b, R.ownBlock = some b → F b
  lt : ∀ b, F b → b < w.heap.size
theorem ne_int4 : rnT ≠ 2 := by decide
section
variable {F G FC : Nat → Prop} {w w' : World} {r c n cp i B0 : Nat} {N : Int} {zs l : List Int} {L R : Value} {A : Option Addr} {pr : List Tc}
theorem Rn.keep (h : Rn F w r A n cp i zs R) (hb : ∀ b, F b → w'.heap[b]? = w.heap[b]?) (hs : w.heap.size ≤ w'.heap.size) : Rn F w' r A n cp i zs R :=
  ⟨(hb r h.fr).trans h.head, own_at h.row fun b e => hb b (h.fl b e), h.fr, h.fl, fun b e => Nat.lt_of_lt_of_le (h.lt b e) hs⟩
theorem Rn.below (h : Rn F w r A n cp i zs R) (hb : Below w.heap.size w w') : Rn F w' r A n cp i zs R := h.keep (fun b hF => hb.block b (h.lt b hF)) hb.size
theorem Rn.only (h : Rn F w r A n cp i zs R) (hb : Only G w w') (hd : ∀ b, F b → ¬ G b) : Rn F w' r A n cp i zs R := h.keep (fun b hF => hb.block b (h.lt b hF) (hd b hF)) hb.size
theorem Rn.cells (h : Rn F w r A n cp i zs R) : w.cell? ⟨r, 0, none⟩ = some (.slice A n cp) ∧ w.cell? ⟨r, 1, none⟩ = some (.int .i64 (i : Int)) ∧ w.cell? ⟨r, 2, none⟩ = some R :=
  ⟨by rw [cell_of_row w r _ _ _ (0, 0) h.head]; rfl, by rw [cell_of_row w r _ _ _ (0, 0) h.head]; rfl, by rw [cell_of_row w r _ _ _ (0, 0) h.head]; rfl⟩
theorem Rn.free (h : Rn F w r A n cp i zs R) (j : Nat) : w.frozen? ⟨r, j, none⟩ = false := frozen_of_row w r j _ _ h.head
theorem Rn.far (h : Rn F w r A n cp i zs R) (j : Nat) : Rn F (w.setCell ⟨r, 1, none⟩ (.int .i64 (j : Int))) r A n cp j zs R :=
  ⟨heap_set h.head _, own_set h.row ⟨_, h.head⟩ ne_int4 _, h.fr, h.fl, fun b e => by simpa using h.lt b e⟩
theorem Rn.drewN (h : Rn F w r A n cp i zs R) (n' : Nat) : Rn F (w.drewN n') r A n cp i zs R := ⟨h.head, h.row, h.fr, h.fl, h.lt⟩
theorem Rn.pushed {ms : List Int} {Z : World} {R' : Value} (h : Rn F w r A n cp i zs R) (hr : Row 2 0 Z R' (zs ++ ms)) (hg : w.grownBy Z R.ownBlock) (hl : ∀ b, R'.ownBlock = some b → R.ownBlock = some b ∨ w.heap.size ≤ b) :
    Rn (fun b => F b ∨ R'.ownBlock = some b) (Z.setCell ⟨r, 2, none⟩ R') r A n cp i (zs ++ ms) R' ∧ Only F w (Z.setCell ⟨r, 2, none⟩ R') ∧ Z.cell? ⟨r, 2, none⟩ = some R ∧ Z.frozen? ⟨r, 2, none⟩ = false := by
  have ha : Z.heap[r]? = some (.cells (cellsR (.slice A n cp) i R) rnT (0, 0)) := (hg.block r (h.lt r h.fr) (fun e => by
    have := own_ty h.row e.symm
    exact ne_int4 ((show Ty w r rnT from ⟨_, h.head⟩).one this))).trans h.head
  refine ⟨⟨heap_set ha R', own_set hr ⟨_, ha⟩ ne_int4 R', .inl h.fr, fun b e => .inr e, fun b e => ?_⟩, (Only.grown F hg fun b e => h.fl b e).then (Only.set F Z (p := ⟨r, 2, none⟩) h.fr R'), by rw [cell_of_row Z r _ _ _ (0, 0) ha]; rfl, frozen_of_row Z r 2 _ _ ha⟩
  simp only [World.size_setCell]
  rcases e with e | e
  · exact Nat.lt_of_lt_of_le (h.lt b e) hg.size
  · exact (World.ownsRow.lt hr b e).2
theorem rn_new (w : World) (A : Option Addr) (n cp : Nat) : Rn (fun b => b = w.heap.size) (w.alloc (.cells #[.slice A n cp, .int .i64 0, .slice none 0 0] rnT)) w.heap.size A n cp 0 [] (.slice none 0 0) :=
  ⟨heap_alloc_new w _, Row.nil _ _ _, rfl, fun b e => (by cases e), fun b e => by subst e; simp⟩

/-- What is behind Next. -/
structure Nexted (FR FC : Nat → Prop) (w : World) (r c : Nat) (A : Option Addr) (n cp : Nat) (pr : List Tc) (zs : List Int) (N : Int) (l : List Int) (FR' FC' : Nat → Prop) (L' R' : Value) (w' : World) : Prop where
  rn : Rn FR' w' r A n cp (pos (nxt pr zs N l).1) (nxt pr zs N l).1 R'
  ce : Ce FC' w' c (nxt pr zs N l).2.1 (nxt pr zs N l).2.2 L'
  dis : ∀ b, FR' b → ¬ FC' b
  newF : ∀ b, FR' b → FR b ∨ w.heap.size ≤ b
  newC : ∀ b, FC' b → FC b ∨ w.heap.size ≤ b
  only : Only (fun b => FR b ∨ FC b) w w'

theorem next_none (h : Rn F w r A n cp i zs R) (hi : i = pos zs) (hin : n ≤ i) (hc : Ce FC w c N l L) (hd : ∀ b, F b → ¬ FC b) (hpg : Pg B0 w A n pr) : Calls Try.prog 13 #[ptr r, ptr c] w fun e w' => e = .returned (.bool (decide (n ≤ pos (nxt pr zs N l).1))) ∧ ∃ FR' FC' L' R', Nexted F FC w r c A n cp pr zs N l FR' FC' L' R' w' := by
  have hnn : nxt pr zs N l = (zs, N, l) := nxt_none (by have := hpg.len; omega)
  have HD : Hid (decide (n ≤ pos (nxt pr zs N l).1) = true) := by show _ = _; rw [hnn]; simp; omega
  have HE : Hid (∀ m m', ∃ FR' FC' L' R', Nexted F FC w r c A n cp pr zs N l FR' FC' L' R' ((w.drewN m).drewN m')) := fun m m' => ⟨F, FC, L, R, ⟨by rw [hnn, ← hi]; exact (h.drewN m).drewN m', by rw [hnn]; exact (hc.drewN m).drewN m', hd, fun b e => .inl e, fun b e => .inl e, (only_drewN _ _ _).then (only_drewN _ _ _)⟩⟩
  have HI := Lib.hid hi
  obtain ⟨c0, c1, c2⟩ := h.cells
  have i1 : ¬ (i : Int) < (n : Int) := by omega
  have i2 : (n : Int) ≤ (i : Int) := by omega
  have d1 : decide ((i : Int) < (n : Int)) = false := by simpa using i1
  clear h hc hpg hnn hi
  go_enter Try.func13, Try.ntmps13
  go_wp2_with fail
  go_quiet (fail)
  go_wp2_with fail
  go_quiet (fail)
  go_wp2
  go_ret
  exact ⟨by rw [HD.out]; simp [hin], HE.out _ _⟩

set_option maxHeartbeats 4000000 in
theorem next_some {t : Tc} (h : Rn F w r A n cp i zs R) (hi : i = pos zs) (hin : i < n) (hc : Ce FC w c N l L) (hl : l.length ≤ 10000) (hzl : zs.length ≤ 900) (hn : n ≤ 1000) (hd : ∀ b, F b → ¬ FC b) (hpg : Pg B0 w A n pr) (f4 : ∀ b, FC b → B0 ≤ b) (g4 : ∀ b, F b → B0 ≤ b) : Calls Try.prog 13 #[ptr r, ptr c] w fun e w' => e = .returned (.bool (decide (n ≤ pos (nxt pr zs N l).1))) ∧ ∃ FR' FC' L' R', Nexted F FC w r c A n cp pr zs N l FR' FC' L' R' w' := by
  obtain ⟨b, off, rfl, hbB, t, ht, hwf, p0, p1⟩ := hpg.at_ hin
  have f5 : ¬ FC b := fun e => by have := f4 b e; omega
  have hnn : nxt pr zs N l = (zs ++ [N], t.on N, l ++ t.log N) := nxt_some (by rw [← hi]; exact ht)
  have fr : ¬ FC r := hd r h.fr
  obtain ⟨c0, c1, c2⟩ := h.cells
  have HC : Hid (∀ w', Below w.heap.size w w' → w'.cell? ⟨r, 0, none⟩ = some (.slice (some ⟨b, off, none⟩) n cp) ∧ w'.cell? ⟨r, 1, none⟩ = some (.int .i64 (i : Int)) ∧ w'.cell? ⟨b, off + i * 2, none⟩ = some (.int .u8 (t.d : Int)) ∧ w'.cell? ⟨b, off + i * 2 + 1, none⟩ = some (.int .i8 t.n)) := fun w' h => ⟨below_read h c0, below_read h c1, below_read h p0, below_read h p1⟩
  have i1 : (0 : Int) ≤ (i : Int) := by omega
  have i2 : (i : Int) < (n : Int) := by omega
  have i3 : decide ((i : Int) < (n : Int)) = true := by simpa using i2
  have HH := Lib.hid h
  have HCE := Lib.hid hc
  have HI := Lib.hid hi
  have HN := Lib.hid hnn
  have HW := Lib.hid hwf
  obtain ⟨A', n', c', rfl⟩ := h.row.shape
  clear h hc hi hnn hpg p0 p1 hwf
  go_enter Try.func13, Try.ntmps13
  go_wp2_with fail
  go_quiet (fail)
  obtain ⟨X, hX, bX⟩ : ∃ X : World, w.drewN nq = X ∧ Below w.heap.size w X := ⟨_, rfl, below_drewN (Below.refl _ _) _⟩
  rw [hX]
  clear hX c0 c1 c2
  go_wp2_with fail
  refine region_T (fun _ => false) (fun w' => w'.cell? ⟨r, 0, none⟩ = some (.slice (some ⟨b, off, none⟩) n cp) ∧ w'.cell? ⟨r, 1, none⟩ = some (.int .i64 (i : Int)) ∧ w'.cell? ⟨b, off + i * 2, none⟩ = some (.int .u8 (t.d : Int)) ∧ w'.cell? ⟨b, off + i * 2 + 1, none⟩ = some (.int .i8 t.n)) (by kernel_rfl) ?_
  obtain ⟨X0, hX0, hbX0⟩ : ∃ X0 : World, X.drew = X0 ∧ Below w.heap.size w X0 := ⟨_, rfl, bX.drew⟩
  rw [hX0]
  clear hX0 bX
  have hC := HC.out X0 hbX0
  refine takeT (i := 0) (v := ?_) rfl (by kernel_rfl) (by kernel_rfl) (by kernel_rfl) (by kernel_rfl) (fun _ _ _ h => h) hC (by rfl) ?_ ?_
  rotate_left
  · intro w hSw; (try dsimp only at hSw); go_simp; try (with_reducible rfl)
  try simp only [Act.put, List.setIfInBounds_toArray, List.set_cons_zero, List.set_cons_succ]
  refine takeT (i := 1) (v := ?_) rfl (by kernel_rfl) (by kernel_rfl) (by kernel_rfl) (by kernel_rfl) (fun _ _ _ h => h) hC (by rfl) ?_ ?_
  rotate_left
  · intro w hSw; (try dsimp only at hSw); go_simp; try (with_reducible rfl)
  try simp only [Act.put, List.setIfInBounds_toArray, List.set_cons_zero, List.set_cons_succ]
  refine takeT (i := 2) (v := ?_) rfl (by kernel_rfl) (by kernel_rfl) (by kernel_rfl) (by kernel_rfl) (fun _ _ _ h => h) hC (by rfl) ?_ ?_
  rotate_left
  · intro w hSw; (try dsimp only at hSw); go_simp; try (with_reducible rfl)
  try simp only [Act.put, List.setIfInBounds_toArray, List.set_cons_zero, List.set_cons_succ]
  refine takeT (i := 3) (v := ?_) rfl (by kernel_rfl) (by kernel_rfl) (by kernel_rfl) (by kernel_rfl) (fun _ _ _ h => h) hC (by rfl) ?_ ?_
  rotate_left
  · intro w hSw; (try dsimp only at hSw); go_simp; try (with_reducible rfl)
  try simp only [Act.put, List.setIfInBounds_toArray, List.set_cons_zero, List.set_cons_succ]
  refine takeT (i := 4) (v := ?_) rfl (by kernel_rfl) (by kernel_rfl) (by kernel_rfl) (by kernel_rfl) (fun _ _ _ h => h) hC (by rfl) ?_ ?_
  rotate_left
  · intro w hSw; (try dsimp only at hSw); go_simp; try (with_reducible rfl)
  try simp only [Act.put, List.setIfInBounds_toArray, List.set_cons_zero, List.set_cons_succ]
  refine takeT (i := 5) (v := ?_) rfl (by kernel_rfl) (by kernel_rfl) (by kernel_rfl) (by kernel_rfl) (fun _ _ _ h => h) hC (by rfl) ?_ ?_
  rotate_left
  · intro w hSw; (try dsimp only at hSw); go_simp; try (with_reducible rfl)
  try simp only [Act.put, List.setIfInBounds_toArray, List.set_cons_zero, List.set_cons_succ]
  refine takeT (i := 6) (v := ?_) rfl (by kernel_rfl) (by kernel_rfl) (by kernel_rfl) (by kernel_rfl) (fun _ _ _ h => h) hC (by rfl) ?_ ?_
  rotate_left
  · intro w hSw; (try dsimp only at hSw); go_simp; try (with_reducible rfl)
  try simp only [Act.put, List.setIfInBounds_toArray, List.set_cons_zero, List.set_cons_succ]
  refine takeT (i := 7) (v := ?_) rfl (by kernel_rfl) (by kernel_rfl) (by kernel_rfl) (by kernel_rfl) (fun _ _ _ h => h) hC (by rfl) ?_ ?_
  rotate_left
  · intro w hSw; (try dsimp only at hSw); go_simp; try (with_reducible rfl)
  try simp only [Act.put, List.setIfInBounds_toArray, List.set_cons_zero, List.set_cons_succ]
  refine takeT (i := 8) (v := ?_) rfl (by kernel_rfl) (by kernel_rfl) (by kernel_rfl) (by kernel_rfl) (fun _ _ _ h => h) hC (by rfl) ?_ ?_
  rotate_left
  · intro w hSw; (try dsimp only at hSw); go_simp; try (with_reducible rfl)
  try simp only [Act.put, List.setIfInBounds_toArray, List.set_cons_zero, List.set_cons_succ]
  refine takeT (i := 9) (v := ?_) rfl (by kernel_rfl) (by kernel_rfl) (by kernel_rfl) (by kernel_rfl) (fun _ _ _ h => h) hC (by rfl) ?_ ?_
  rotate_left
  · intro w hSw; (try dsimp only at hSw); go_simp; try (with_reducible rfl)
  try simp only [Act.put, List.setIfInBounds_toArray, List.set_cons_zero, List.set_cons_succ]
  refine takeT (i := 10) (v := ?_) rfl (by kernel_rfl) (by kernel_rfl) (by kernel_rfl) (by kernel_rfl) (fun _ _ _ h => h) hC (by rfl) ?_ ?_
  rotate_left
  · intro w hSw; (try dsimp only at hSw); go_simp; try (with_reducible rfl)
  try simp only [Act.put, List.setIfInBounds_toArray, List.set_cons_zero, List.set_cons_succ]
  refine oneT (i := 11) (by kernel_rfl) rfl (by rfl) (fun K hK => ?_)
  go_simp
  refine (cell_done (HCE.out.below hbX0) HW.out hl).mono ?_
  rintro e X1 ⟨rfl, FC', L', k1, o1, s1⟩
  have hC1 : X1.cell? ⟨r, 0, none⟩ = some (.slice (some ⟨b, off, none⟩) n cp) ∧ X1.cell? ⟨r, 1, none⟩ = some (.int .i64 (i : Int)) ∧ X1.cell? ⟨b, off + i * 2, none⟩ = some (.int .u8 (t.d : Int)) ∧ X1.cell? ⟨b, off + i * 2 + 1, none⟩ = some (.int .i8 t.n) := ⟨only_read o1 fr hC.1, only_read o1 fr hC.2.1, only_read o1 f5 hC.2.2.1, only_read o1 f5 hC.2.2.2⟩
  refine hK.out _ _ (fun _ => hC1) ?_
  clear hK K
  try simp only [Act.put, List.setIfInBounds_toArray, List.set_cons_zero, List.set_cons_succ]
  refine oneT (i := 12) (by kernel_rfl) rfl (by rfl) (fun K hK => ?_)
  go_simp
  refine hK.out _ _ (fun _ => hC1) ?_
  clear hK K hC hC1
  refine doneT (by kernel_rfl) ?_
  have h1 := (HH.out.below hbX0).only o1 hd
  obtain ⟨W4, s, hW4, hs, b4, e4⟩ : ∃ (W4 : World) (s : Nat), X1.alloc (.cells #[.int .i64 N] 2) = W4 ∧ X1.heap.size = s ∧ Below X1.heap.size X1 W4 ∧ W4.cell? ⟨s, 0, none⟩ = some (.int .i64 N) := ⟨_, _, rfl, rfl, below_new _ _, c_new rfl rfl⟩
  have h4 := h1.below b4
  obtain ⟨A5, m5, n5, W5, hrun, r5, g5, l5⟩ := run_pushS h4.row (sl_one e4) (by simp; omega) (by simp)
  obtain ⟨h6, o6, c6, f6⟩ := h4.pushed r5 g5 l5
  obtain ⟨W6, hW6⟩ : ∃ W6 : World, W5.setCell ⟨r, 2, none⟩ (.slice A5 m5 n5) = W6 := ⟨_, rfl⟩
  rw [hW6] at h6 o6
  obtain ⟨q0, q1, q2⟩ := h1.cells
  obtain ⟨y0, y1, y2⟩ := h6.cells
  have z1 := h6.free 1
  have hNC : ∀ b, FC' b → ¬ F b := fun b e e2 => by
    rcases s1 b e with e3 | e3
    · exact hd b e2 e3
    · have e4 := HH.out.lt b e2
      have e5 := hbX0.size
      omega
  have hsz := hbX0.size
  have hsz1 := o1.size
  have hsz4 := b4.size
  have HE : Hid (∀ j : Nat, ∀ m, j = pos (zs ++ [N]) → ∀ Z, Only (fun b => F b ∨ (Value.slice A5 m5 n5).ownBlock = some b) W6 Z → Rn (fun b => F b ∨ (Value.slice A5 m5 n5).ownBlock = some b) Z r (some ⟨b, off, none⟩) n cp j (zs ++ [N]) (.slice A5 m5 n5) → ∃ FR' FC' L' R', Nexted F FC w r c (some ⟨b, off, none⟩) n cp pr zs N l FR' FC' L' R' (Z.drewN m)) := by
    intro j m hj Z oZ hZ
    have ha : Only F X1 Z := ((Only.of_below F b4).then o6).trans oZ (fun b e => by
      rcases e with e | e
      · exact .inl e
      · rcases l5 b e with e | e
        · exact .inl (h4.fl b e)
        · right; omega)
    refine ⟨_, FC', L', _, ⟨by rw [HN.out, ← hj]; exact hZ.drewN m, by rw [HN.out]; exact (k1.only ha hNC).drewN m, ?_, ?_, fun b e => (s1 b e).imp id (Nat.le_trans hsz), (((Only.of_below (fun b => F b ∨ FC b) hbX0).then (o1.mono fun b e => .inr e)).then (ha.mono fun b e => .inl e)).then (only_drewN _ _ _)⟩⟩
    · intro b e e2
      rcases e with e | e
      · exact hNC b e2 e
      · rcases l5 b e with e3 | e3
        · exact hNC b e2 (h4.fl b e3)
        · have := k1.lt b e2; omega
    · intro b e
      rcases e with e | e
      · exact .inl e
      · rcases l5 b e with e3 | e3
        · exact .inl (h4.fl b e3)
        · right; omega
  have H6 := Lib.hid h6
  clear h1 h4 h6 o6 g5 l5 k1 o1 s1 hNC b4 HC HH HCE HW r5 hbX0
  have hps := pos_snoc zs N
  rw [← HI.out] at hps
  have HPS := Lib.hid hps
  clear hps
  by_cases hz : N.tmod 2 = 0
  · have hz2 : (N.tmod 2 == 0) = true := by simp [hz]
    obtain ⟨W7, hW7, hZ, oZ⟩ : ∃ W7 : World, W6.setCell ⟨r, 1, none⟩ (.int .i64 ((i : Int) + 1)) = W7 ∧ Rn (fun b => F b ∨ (Value.slice A5 m5 n5).ownBlock = some b) W7 r (some ⟨b, off, none⟩) n cp (i + 1) (zs ++ [N]) (.slice A5 m5 n5) ∧ Only (fun b => F b ∨ (Value.slice A5 m5 n5).ownBlock = some b) W6 W7 := ⟨_, rfl, H6.out.far (i + 1), (only_set _ _ _ _).mono fun b e => by subst e; exact H6.out.fr⟩
    obtain ⟨-, -, y2'⟩ := hZ.cells
    obtain ⟨y0', y1', -⟩ := hZ.cells
    have HZ : Hid (∀ m, ∃ FR' FC' L' R', Nexted F FC w r c (some ⟨b, off, none⟩) n cp pr zs N l FR' FC' L' R' (W7.drewN m)) := fun m => HE.out _ m (by rw [HPS.out]; simp [hz]) W7 oZ hZ
    have HD : Hid (decide (n ≤ pos (nxt pr zs N l).1) = decide (n ≤ i + 1)) := by show _ = _; rw [HN.out]; show decide (n ≤ pos (zs ++ [N])) = _; rw [HPS.out]; simp [hz]
    clear hZ oZ HE H6 HPS y2'
    go_wp2_with (at_builtin; refine Lib.wpList_append_run _ rfl _ _ _ _ rfl _ _ rfl rfl _ _ hrun ?_)
    go_quiet (fail)
    go_wp2
    go_ret
    exact ⟨by rw [HD.out]; first | rfl | (simp; done) | (simp; omega), HZ.out _⟩
  · have hz2 : (N.tmod 2 == 0) = false := by simp [hz]
    obtain ⟨W7, hW7, h7, o7⟩ : ∃ W7 : World, W6.setCell ⟨r, 1, none⟩ (.int .i64 ((i : Int) + 1)) = W7 ∧ Rn (fun b => F b ∨ (Value.slice A5 m5 n5).ownBlock = some b) W7 r (some ⟨b, off, none⟩) n cp (i + 1) (zs ++ [N]) (.slice A5 m5 n5) ∧ Only (fun b => F b ∨ (Value.slice A5 m5 n5).ownBlock = some b) W6 W7 := ⟨_, rfl, H6.out.far (i + 1), (only_set _ _ _ _).mono fun b e => by subst e; exact H6.out.fr⟩
    obtain ⟨W8, hW8, hZ, o8⟩ : ∃ W8 : World, W7.setCell ⟨r, 1, none⟩ (.int .i64 ((i : Int) + 1 + 1)) = W8 ∧ Rn (fun b => F b ∨ (Value.slice A5 m5 n5).ownBlock = some b) W8 r (some ⟨b, off, none⟩) n cp (i + 2) (zs ++ [N]) (.slice A5 m5 n5) ∧ Only (fun b => F b ∨ (Value.slice A5 m5 n5).ownBlock = some b) W7 W8 := ⟨_, rfl, h7.far (i + 2), (only_set _ _ _ _).mono fun b e => by subst e; exact H6.out.fr⟩
    have oZ := o7.then o8
    obtain ⟨-, u1, -⟩ := h7.cells
    have u1' : W7.cell? ⟨r, 1, none⟩ = some (.int .i64 ((i : Int) + 1)) := u1
    have u2 := h7.free 1
    clear h7 o7 o8 u1
    obtain ⟨-, -, y2'⟩ := hZ.cells
    obtain ⟨y0', y1', -⟩ := hZ.cells
    have HZ : Hid (∀ m, ∃ FR' FC' L' R', Nexted F FC w r c (some ⟨b, off, none⟩) n cp pr zs N l FR' FC' L' R' (W8.drewN m)) := fun m => HE.out _ m (by rw [HPS.out]; simp [hz]) W8 oZ hZ
    have HD : Hid (decide (n ≤ pos (nxt pr zs N l).1) = decide (n ≤ i + 2)) := by show _ = _; rw [HN.out]; show decide (n ≤ pos (zs ++ [N])) = _; rw [HPS.out]; simp [hz]
    clear hZ oZ HE H6 HPS y2'
    go_wp2_with (at_builtin; refine Lib.wpList_append_run _ rfl _ _ _ _ rfl _ _ rfl rfl _ _ hrun ?_)
    go_quiet (fail)
    go_wp2
    go_ret
    exact ⟨by rw [HD.out]; first | rfl | (simp; done) | (simp; omega), HZ.out _⟩

theorem next_walk (h : Rn F w r A n cp i zs R) (hi : i = pos zs) (hc : Ce FC w c N l L) (hl : l.length ≤ 10000) (hzl : zs.length ≤ 900) (hn : n ≤ 1000) (hd : ∀ b, F b → ¬ FC b) (hpg : Pg B0 w A n pr) (f4 : ∀ b, FC b → B0 ≤ b) (g4 : ∀ b, F b → B0 ≤ b) : Calls Try.prog 13 #[ptr r, ptr c] w fun e w' => e = .returned (.bool (decide (n ≤ pos (nxt pr zs N l).1))) ∧ ∃ FR' FC' L' R', Nexted F FC w r c A n cp pr zs N l FR' FC' L' R' w' := by
  by_cases hin : i < n
  · exact next_some (t := ⟨0, 0⟩) h hi hin hc hl hzl hn hd hpg f4 g4
  · exact next_none h hi (by omega) hc hd hpg
end
end Go.Proofs.Ytbjaojcffhkahaa
