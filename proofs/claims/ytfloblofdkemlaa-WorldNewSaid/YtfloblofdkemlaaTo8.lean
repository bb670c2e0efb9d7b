/-
  What world's touches do: the closures that Begin, End, Make, Drop and Leave hand to the thread.
-/
import Derived.Test.YtfloblofdkemlaaWo8
import Derived.Test.YtfloblofdkemlaaTailW
namespace Go.Proofs.Ytfloblofdkemlaa
open Go.ChangeShapes Go.WideShapes Go.ChangeAt Go.RowKit
set_option linter.unusedVariables false
set_option linter.unusedSimpArgs false
set_option maxRecDepth 20000

abbrev tkT : TypeId := 85
/-- A task's cells at block B. -/
structure Tk (w : World) (B a W : Nat) (me : Nat) : Prop where
  c0 : w.cell? ⟨B, 0, none⟩ = some (ptr a)
  c1 : w.cell? ⟨B, 1, none⟩ = some (ptr W)
  c2 : w.cell? ⟨B, 2, none⟩ = some (.int .i64 (me : Int))
abbrev tkV (a W : Nat) (me : Nat) : Value := .agg #[ptr a, ptr W, .int .i64 (me : Int)]
section
variable {d : Wd} {FW : Nat → Prop} {w w' : World} {s : Sig} {B C D a me i : Nat} {n r : Int}
theorem Tk.new (w : World) (a W me : Nat) : Tk (w.alloc (.cells #[ptr a, ptr W, .int .i64 (me : Int)] tkT)) w.heap.size a W me := ⟨c_new rfl rfl, c_new rfl rfl, c_new rfl rfl⟩
theorem Tk.cells {W : Nat} (h : Tk w B a W me) (hb : w'.heap[B]? = w.heap[B]?) : Tk w' B a W me := by
  have : ∀ j, w'.cell? ⟨B, j, none⟩ = w.cell? ⟨B, j, none⟩ := fun j => by unfold World.cell?; rw [hb]
  exact ⟨(this 0).trans h.c0, (this 1).trans h.c1, (this 2).trans h.c2⟩
theorem drew_W (h : WS d FW w s) : WS d FW w.drew s := h.below ((Below.refl _ w).drew)
theorem gone_drew {s' : Sig} (h : NxW d FW w.drew s' w') : NxW d FW w s' w' := NxW.after ((Below.refl _ w).drew) h
/-- What a call of the epochs' makes of the world. -/
theorem nxW_say (h : WS d FW w s) (hi : me < s.S.length) (z : Int) : Calls Try.prog 80 #[ptr d.E, .int .i64 (me : Int), .int .i64 z] w fun e w' => e = .returned (.tuple #[]) ∧ NxW d FW w (gSay me z s).2 w' := by
  obtain ⟨FE, h1, h2, h3⟩ := h.ep
  obtain ⟨⟨y, q⟩, hy⟩ : ∃ x, s.S[me]? = some x := ⟨_, List.getElem?_eq_getElem hi⟩
  refine (say_yes h1 hy).mono ?_
  rintro e w' ⟨rfl, hn⟩
  refine ⟨rfl, ?_⟩
  have := h3 _ _ _ hn
  simp only [gSay, setSaid, hy]
  exact this
theorem say1_walk (h : WS d FW w s) (hB : Tk w B a d.W me) (hC : w.cell? ⟨C, 0, none⟩ = some (.int .i64 n)) (hi : me < s.S.length) :
    Calls Try.prog 79 #[ptr B, ptr C] w fun e w' => e = .returned (.tuple #[]) ∧ NxW d FW w (gSay me n s).2 w' := by
  have h0 := hB.c1
  have h1 := hB.c2
  have h2 := h.cells.2.2.1
  have HS := Lib.hid (nxW_say (drew_W h) hi n)
  have hC0 : w.drew.cell? ⟨B, 1, none⟩ = some (ptr d.W) ∧ w.drew.cell? ⟨B, 2, none⟩ = some (.int .i64 (me : Int)) ∧ w.drew.cell? ⟨C, 0, none⟩ = some (.int .i64 n) ∧ w.drew.cell? ⟨d.W, 2, none⟩ = some (ptr d.E) := ⟨h0, h1, hC, h2⟩
  clear hB h h0 h1 h2 hC
  go_enter Try.func79, Try.ntmps79
  refine region_T (fun k => k == 8) (fun w' => w'.cell? ⟨B, 1, none⟩ = some (ptr d.W) ∧ w'.cell? ⟨B, 2, none⟩ = some (.int .i64 (me : Int)) ∧ w'.cell? ⟨C, 0, none⟩ = some (.int .i64 n) ∧ w'.cell? ⟨d.W, 2, none⟩ = some (ptr d.E)) (by kernel_rfl) ?_
  have hC := hC0
  refine takeW (i := 0) (v := ?_) rfl (by kernel_rfl) (by kernel_rfl) (by kernel_rfl) (by kernel_rfl) (by kernel_rfl) (fun _ _ _ h => h) hC (by rfl) ?_ ?_
  rotate_left
  · intro w hSw; (try dsimp only at hSw); go_simp; try (with_reducible rfl)
  try simp only [Act.put, List.setIfInBounds_toArray, List.set_cons_zero, List.set_cons_succ]
  refine takeW (i := 1) (v := ?_) rfl (by kernel_rfl) (by kernel_rfl) (by kernel_rfl) (by kernel_rfl) (by kernel_rfl) (fun _ _ _ h => h) hC (by rfl) ?_ ?_
  rotate_left
  · intro w hSw; (try dsimp only at hSw); go_simp; try (with_reducible rfl)
  try simp only [Act.put, List.setIfInBounds_toArray, List.set_cons_zero, List.set_cons_succ]
  refine takeW (i := 2) (v := ?_) rfl (by kernel_rfl) (by kernel_rfl) (by kernel_rfl) (by kernel_rfl) (by kernel_rfl) (fun _ _ _ h => h) hC (by rfl) ?_ ?_
  rotate_left
  · intro w hSw; (try dsimp only at hSw); go_simp; try (with_reducible rfl)
  try simp only [Act.put, List.setIfInBounds_toArray, List.set_cons_zero, List.set_cons_succ]
  refine takeW (i := 3) (v := ?_) rfl (by kernel_rfl) (by kernel_rfl) (by kernel_rfl) (by kernel_rfl) (by kernel_rfl) (fun _ _ _ h => h) hC (by rfl) ?_ ?_
  rotate_left
  · intro w hSw; (try dsimp only at hSw); go_simp; try (with_reducible rfl)
  try simp only [Act.put, List.setIfInBounds_toArray, List.set_cons_zero, List.set_cons_succ]
  refine takeW (i := 4) (v := ?_) rfl (by kernel_rfl) (by kernel_rfl) (by kernel_rfl) (by kernel_rfl) (by kernel_rfl) (fun _ _ _ h => h) hC (by rfl) ?_ ?_
  rotate_left
  · intro w hSw; (try dsimp only at hSw); go_simp; try (with_reducible rfl)
  try simp only [Act.put, List.setIfInBounds_toArray, List.set_cons_zero, List.set_cons_succ]
  refine takeW (i := 5) (v := ?_) rfl (by kernel_rfl) (by kernel_rfl) (by kernel_rfl) (by kernel_rfl) (by kernel_rfl) (fun _ _ _ h => h) hC (by rfl) ?_ ?_
  rotate_left
  · intro w hSw; (try dsimp only at hSw); go_simp; try (with_reducible rfl)
  try simp only [Act.put, List.setIfInBounds_toArray, List.set_cons_zero, List.set_cons_succ]
  refine takeW (i := 6) (v := ?_) rfl (by kernel_rfl) (by kernel_rfl) (by kernel_rfl) (by kernel_rfl) (by kernel_rfl) (fun _ _ _ h => h) hC (by rfl) ?_ ?_
  rotate_left
  · intro w hSw; (try dsimp only at hSw); go_simp; try (with_reducible rfl)
  try simp only [Act.put, List.setIfInBounds_toArray, List.set_cons_zero, List.set_cons_succ]
  refine takeW (i := 7) (v := ?_) rfl (by kernel_rfl) (by kernel_rfl) (by kernel_rfl) (by kernel_rfl) (by kernel_rfl) (fun _ _ _ h => h) hC (by rfl) ?_ ?_
  rotate_left
  · intro w hSw; (try dsimp only at hSw); go_simp; try (with_reducible rfl)
  try simp only [Act.put, List.setIfInBounds_toArray, List.set_cons_zero, List.set_cons_succ]
  refine oneT (i := 8) (by kernel_rfl) rfl (by rfl) (fun K hK => ?_)
  go_simp
  refine HS.out.mono ?_
  rintro e w' ⟨rfl, hn⟩
  refine hK.out _ _ (fun h => absurd h (by decide)) ?_
  clear hK K
  refine doneT (by kernel_rfl) ?_
  (try simp only [Exit.inBlock, Exit.then])
  refine bodyPost_end (results_none rfl _ _ _) rfl ?_
  exact ⟨rfl, gone_drew hn⟩

theorem nxW_said (h : WS d FW w s) (hi : i < s.S.length) : Calls Try.prog 38 #[ptr d.E, .int .i64 (i : Int)] w fun e w' => e = .returned (.int .i64 (gSaid i s).1) ∧ w = w' := by
  obtain ⟨FE, h1, h2, h3⟩ := h.ep
  obtain ⟨⟨y, q⟩, hy⟩ : ∃ x, s.S[i]? = some x := ⟨_, List.getElem?_eq_getElem hi⟩
  refine (said_yes h1 hy).mono ?_
  rintro e w' ⟨rfl, rfl⟩
  refine ⟨?_, rfl⟩
  simp only [gSaid, saidOf, hy]
theorem nxW_now (h : WS d FW w s) : Calls Try.prog 19 #[ptr d.E] w fun e w' => e = .returned (.int .i64 s.now) ∧ w = w' := by
  obtain ⟨FE, h1, h2, h3⟩ := h.ep
  exact now_walk h1
theorem nxW_len (h : WS d FW w s) : Calls Try.prog 18 #[ptr d.E] w fun e w' => e = .returned (.int .i64 (s.S.length : Int)) ∧ w = w' := by
  obtain ⟨FE, h1, h2, h3⟩ := h.ep
  exact len_walk h1
theorem nxW_swap (h : WS d FW w s) (hf : Fit s) (n : Int) : Calls Try.prog 61 #[ptr d.E, .int .i64 n] w fun e w' => ∃ b, e = .returned (.bool b) ∧ b2i b = (gSwap n s).1 ∧ NxW d FW w (gSwap n s).2 w' := by
  obtain ⟨FE, h1, h2, h3⟩ := h.ep
  by_cases hn : s.now = n
  · subst hn
    refine (swap_yes h1 (IntWalk.i64_in _ (by have := hf.now; omega))).mono ?_
    rintro e w' ⟨rfl, hn⟩
    refine ⟨true, rfl, ?_, ?_⟩
    · simp [gSwap, b2i]
    · simp only [gSwap, if_true]
      exact h3 _ _ _ hn
  · refine (swap_no h1 hn).mono ?_
    rintro e w' ⟨rfl, rfl⟩
    refine ⟨false, rfl, ?_, ?_⟩
    · simp [gSwap, b2i, hn]
    · simp only [gSwap, if_neg hn]
      exact NxW.same h
theorem nxW_ready (h : WS d FW w s) (hf : Fit s) (hi : me < s.S.length) (hn : n ≤ 9223372036854775807) : Calls Try.prog 84 #[ptr d.E, .int .i64 (me : Int), .int .i64 n] w fun e w' => e = .returned (.int .i64 (gRdy me n s).1) ∧ NxW d FW w (gRdy me n s).2 w' := by
  obtain ⟨FE, h1, h2, h3⟩ := h.ep
  obtain ⟨⟨y, q⟩, hy⟩ : ∃ x, s.S[me]? = some x := ⟨_, List.getElem?_eq_getElem hi⟩
  have hq := (hf.que _ (List.mem_of_getElem? hy)).2
  cases q with
  | nil =>
    refine (rd_empty h1 n hy).mono ?_
    rintro e w' ⟨rfl, rfl⟩
    simp only [gRdy, hy]
    exact ⟨by first | rfl | trivial, NxW.same h⟩
  | cons p q =>
    have hp := hq p (List.mem_cons_self ..)
    cases hr : rdy p.2 n with
    | false =>
      refine (rd_wait h1 n hy hp.2.1 hn hr).mono ?_
      rintro e w' ⟨rfl, hb⟩
      simp only [gRdy, hy, hr]
      exact ⟨by first | rfl | trivial, NxW.of_below h hb⟩
    | true =>
      refine (rd_take h1 n hy hp.2.1 hn hr).mono ?_
      rintro e w' ⟨rfl, hn⟩
      simp only [gRdy, hy, hr, if_true]
      exact ⟨by trivial, h3 _ _ _ hn⟩
theorem hit_some {S : As} {p : Pa} (h : S.hit r = some (i, p)) : S.pls[i]? = some p ∧ p.used = true ∧ mk i p.cnt = r := by
  unfold As.hit at h
  split at h
  · rename_i q hq
    split at h
    · rename_i hh
      injection h with h
      injection h with h1 h2
      subst h1 h2
      exact ⟨hq, hh.1, hh.2⟩
    · cases h
  · cases h
theorem hit_none {S : As} (hok : Ok S) (h : S.hit r = none) : ∀ i, ¬ Hit S r i := by
  rintro i ⟨p, h1, h2, h3⟩
  have hl := (List.getElem?_eq_some_iff.1 h1).1
  have := pl_of_mk (i := i) (by have := hok.len; omega) h3
  have e : (pl r).toNat = i := by omega
  unfold As.hit at h
  rw [e, h1] at h
  simp only at h
  rw [if_pos ⟨h2, h3⟩] at h
  cases h
theorem nxW_free (h : WS d FW w s) (hok : Ok s.ar) (r : Int) : Calls Try.prog 85 #[ptr d.A, .int .i64 r] w fun e w' => ∃ b, e = .returned (.bool b) ∧ b2i b = (gFree r s).1 ∧ NxW d FW w (gFree r s).2 w' := by
  obtain ⟨FA, h1, h2, h3⟩ := h.ar
  cases hh : s.ar.hit r with
  | some ip =>
    obtain ⟨i, p⟩ := ip
    obtain ⟨k1, k2, k3⟩ := hit_some hh
    refine (free_yes h1 hok k1 k2 k3).mono ?_
    rintro e w' ⟨rfl, hn⟩
    refine ⟨true, rfl, ?_, ?_⟩
    · simp [gFree, As.drop, hh, b2i]
    · simp only [gFree, As.drop, hh]
      exact h3 _ _ hn
  | none =>
    refine (free_no h1 hok (hit_none hok hh)).mono ?_
    rintro e w' ⟨rfl, k1, k2⟩
    refine ⟨false, rfl, ?_, ?_⟩
    · simp [gFree, As.drop, hh, b2i]
    · simp only [gFree, As.drop, hh]
      exact h3 _ _ (Nx.of k1 k2)

/-- The closures themselves. -/
theorem said1_walk (h : WS d FW w s) (hB : Tk w B a d.W me) (hC : w.cell? ⟨C, 0, none⟩ = some (.int .i64 (i : Int))) (hi : i < s.S.length) :
    Calls Try.prog 81 #[ptr B, ptr C] w fun e w' => e = .returned (.int .i64 (gSaid i s).1) ∧ NxW d FW w (gSaid i s).2 w' := by
  have h0 := hB.c1
  have h2 := h.cells.2.2.1
  have HS := Lib.hid (nxW_said (drew_W h) hi)
  have HN := Lib.hid (gone_drew (NxW.same (drew_W h)))
  have hC0 : w.drew.cell? ⟨B, 1, none⟩ = some (ptr d.W) ∧ w.drew.cell? ⟨C, 0, none⟩ = some (.int .i64 (i : Int)) ∧ w.drew.cell? ⟨d.W, 2, none⟩ = some (ptr d.E) := ⟨h0, hC, h2⟩
  clear hB h h0 h2 hC
  go_enter Try.func81, Try.ntmps81
  go_wp2_with fail
  refine region_T (fun k => Nat.ble 6 k) (fun w' => w'.cell? ⟨B, 1, none⟩ = some (ptr d.W) ∧ w'.cell? ⟨C, 0, none⟩ = some (.int .i64 (i : Int)) ∧ w'.cell? ⟨d.W, 2, none⟩ = some (ptr d.E)) (by kernel_rfl) ?_
  have hC := hC0
  refine takeW (i := 0) (v := ?_) rfl (by kernel_rfl) (by kernel_rfl) (by kernel_rfl) (by kernel_rfl) (by kernel_rfl) (fun _ _ _ h => h) hC (by rfl) ?_ ?_
  rotate_left
  · intro w hSw; (try dsimp only at hSw); go_simp; try (with_reducible rfl)
  try simp only [Act.put, List.setIfInBounds_toArray, List.set_cons_zero, List.set_cons_succ]
  refine takeW (i := 1) (v := ?_) rfl (by kernel_rfl) (by kernel_rfl) (by kernel_rfl) (by kernel_rfl) (by kernel_rfl) (fun _ _ _ h => h) hC (by rfl) ?_ ?_
  rotate_left
  · intro w hSw; (try dsimp only at hSw); go_simp; try (with_reducible rfl)
  try simp only [Act.put, List.setIfInBounds_toArray, List.set_cons_zero, List.set_cons_succ]
  refine takeW (i := 2) (v := ?_) rfl (by kernel_rfl) (by kernel_rfl) (by kernel_rfl) (by kernel_rfl) (by kernel_rfl) (fun _ _ _ h => h) hC (by rfl) ?_ ?_
  rotate_left
  · intro w hSw; (try dsimp only at hSw); go_simp; try (with_reducible rfl)
  try simp only [Act.put, List.setIfInBounds_toArray, List.set_cons_zero, List.set_cons_succ]
  refine takeW (i := 3) (v := ?_) rfl (by kernel_rfl) (by kernel_rfl) (by kernel_rfl) (by kernel_rfl) (by kernel_rfl) (fun _ _ _ h => h) hC (by rfl) ?_ ?_
  rotate_left
  · intro w hSw; (try dsimp only at hSw); go_simp; try (with_reducible rfl)
  try simp only [Act.put, List.setIfInBounds_toArray, List.set_cons_zero, List.set_cons_succ]
  refine takeW (i := 4) (v := ?_) rfl (by kernel_rfl) (by kernel_rfl) (by kernel_rfl) (by kernel_rfl) (by kernel_rfl) (fun _ _ _ h => h) hC (by rfl) ?_ ?_
  rotate_left
  · intro w hSw; (try dsimp only at hSw); go_simp; try (with_reducible rfl)
  try simp only [Act.put, List.setIfInBounds_toArray, List.set_cons_zero, List.set_cons_succ]
  refine takeW (i := 5) (v := ?_) rfl (by kernel_rfl) (by kernel_rfl) (by kernel_rfl) (by kernel_rfl) (by kernel_rfl) (fun _ _ _ h => h) hC (by rfl) ?_ ?_
  rotate_left
  · intro w hSw; (try dsimp only at hSw); go_simp; try (with_reducible rfl)
  try simp only [Act.put, List.setIfInBounds_toArray, List.set_cons_zero, List.set_cons_succ]
  refine oneT (i := 6) (by kernel_rfl) rfl (by rfl) (fun K hK => ?_)
  go_simp
  refine HS.out.mono ?_
  rintro e w' ⟨rfl, rfl⟩
  refine hK.out _ _ (fun h => absurd h (by decide)) ?_
  clear hK K
  try simp only [Act.put, List.setIfInBounds_toArray, List.set_cons_zero, List.set_cons_succ]
  refine oneT (i := 7) (by kernel_rfl) rfl (by rfl) (fun K hK => ?_)
  go_simp
  refine hK.out _ _ (fun h => absurd h (by decide)) ?_
  clear hK K
  try simp only [Act.put, List.setIfInBounds_toArray, List.set_cons_zero, List.set_cons_succ]
  refine doneT (by kernel_rfl) ?_
  go_wp2
  go_ret
  exact ⟨rfl, HN.out⟩
theorem swap1_walk (h : WS d FW w s) (hf : Fit s) (hB : Tk w B a d.W me) (hC : w.cell? ⟨C, 0, none⟩ = some (.int .i64 n)) :
    Calls Try.prog 60 #[ptr B, ptr C] w fun e w' => ∃ b, e = .returned (.bool b) ∧ b2i b = (gSwap n s).1 ∧ NxW d FW w (gSwap n s).2 w' := by
  have h0 := hB.c1
  have h2 := h.cells.2.2.1
  have HS := Lib.hid (nxW_swap (drew_W h) hf n)
  have hC0 : w.drew.cell? ⟨B, 1, none⟩ = some (ptr d.W) ∧ w.drew.cell? ⟨C, 0, none⟩ = some (.int .i64 n) ∧ w.drew.cell? ⟨d.W, 2, none⟩ = some (ptr d.E) := ⟨h0, hC, h2⟩
  clear hB h h0 h2 hC
  go_enter Try.func60, Try.ntmps60
  go_wp2_with fail
  refine region_T (fun k => Nat.ble 6 k) (fun w' => w'.cell? ⟨B, 1, none⟩ = some (ptr d.W) ∧ w'.cell? ⟨C, 0, none⟩ = some (.int .i64 n) ∧ w'.cell? ⟨d.W, 2, none⟩ = some (ptr d.E)) (by kernel_rfl) ?_
  have hC := hC0
  refine takeW (i := 0) (v := ?_) rfl (by kernel_rfl) (by kernel_rfl) (by kernel_rfl) (by kernel_rfl) (by kernel_rfl) (fun _ _ _ h => h) hC (by rfl) ?_ ?_
  rotate_left
  · intro w hSw; (try dsimp only at hSw); go_simp; try (with_reducible rfl)
  try simp only [Act.put, List.setIfInBounds_toArray, List.set_cons_zero, List.set_cons_succ]
  refine takeW (i := 1) (v := ?_) rfl (by kernel_rfl) (by kernel_rfl) (by kernel_rfl) (by kernel_rfl) (by kernel_rfl) (fun _ _ _ h => h) hC (by rfl) ?_ ?_
  rotate_left
  · intro w hSw; (try dsimp only at hSw); go_simp; try (with_reducible rfl)
  try simp only [Act.put, List.setIfInBounds_toArray, List.set_cons_zero, List.set_cons_succ]
  refine takeW (i := 2) (v := ?_) rfl (by kernel_rfl) (by kernel_rfl) (by kernel_rfl) (by kernel_rfl) (by kernel_rfl) (fun _ _ _ h => h) hC (by rfl) ?_ ?_
  rotate_left
  · intro w hSw; (try dsimp only at hSw); go_simp; try (with_reducible rfl)
  try simp only [Act.put, List.setIfInBounds_toArray, List.set_cons_zero, List.set_cons_succ]
  refine takeW (i := 3) (v := ?_) rfl (by kernel_rfl) (by kernel_rfl) (by kernel_rfl) (by kernel_rfl) (by kernel_rfl) (fun _ _ _ h => h) hC (by rfl) ?_ ?_
  rotate_left
  · intro w hSw; (try dsimp only at hSw); go_simp; try (with_reducible rfl)
  try simp only [Act.put, List.setIfInBounds_toArray, List.set_cons_zero, List.set_cons_succ]
  refine takeW (i := 4) (v := ?_) rfl (by kernel_rfl) (by kernel_rfl) (by kernel_rfl) (by kernel_rfl) (by kernel_rfl) (fun _ _ _ h => h) hC (by rfl) ?_ ?_
  rotate_left
  · intro w hSw; (try dsimp only at hSw); go_simp; try (with_reducible rfl)
  try simp only [Act.put, List.setIfInBounds_toArray, List.set_cons_zero, List.set_cons_succ]
  refine takeW (i := 5) (v := ?_) rfl (by kernel_rfl) (by kernel_rfl) (by kernel_rfl) (by kernel_rfl) (by kernel_rfl) (fun _ _ _ h => h) hC (by rfl) ?_ ?_
  rotate_left
  · intro w hSw; (try dsimp only at hSw); go_simp; try (with_reducible rfl)
  try simp only [Act.put, List.setIfInBounds_toArray, List.set_cons_zero, List.set_cons_succ]
  refine oneT (i := 6) (by kernel_rfl) rfl (by rfl) (fun K hK => ?_)
  go_simp
  refine HS.out.mono ?_
  rintro e w' ⟨b, rfl, hb, hn⟩
  refine hK.out _ _ (fun h => absurd h (by decide)) ?_
  clear hK K hC hC0 HS
  have HB := Lib.hid hb
  have HN := Lib.hid (gone_drew hn)
  clear hb hn
  try simp only [Act.put, List.setIfInBounds_toArray, List.set_cons_zero, List.set_cons_succ]
  refine oneT (i := 7) (by kernel_rfl) rfl (by rfl) (fun K hK => ?_)
  go_simp
  refine hK.out _ _ (fun h => absurd h (by decide)) ?_
  clear hK K
  try simp only [Act.put, List.setIfInBounds_toArray, List.set_cons_zero, List.set_cons_succ]
  refine doneT (by kernel_rfl) ?_
  go_wp2
  go_ret
  exact ⟨b, rfl, HB.out, HN.out⟩
end
end Go.Proofs.Ytfloblofdkemlaa
