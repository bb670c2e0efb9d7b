/-
  What the document's Many and Take return, and what its epochs are behind them.
-/
import Derived.Test.YtcainkobdkaaeaaDe7
namespace Go.Proofs.Ytcainkobdkaaeaa
open Go.ChangeShapes Go.WideShapes Go.ChangeAt Go.RowKit
set_option linter.unusedVariables false
set_option linter.unusedSimpArgs false
set_option maxRecDepth 20000

section
variable {F G : Nat → Prop} {w w' : World} {d i : Nat} {now t n : Int} {S : List Tq} {q : List (Int × Int)} {s : Int}
set_option maxHeartbeats 1000000 in
theorem many_walk (h : DeS F w d now S) (hS : Few S) : Calls Try.prog 21 #[ptr d] w fun e w' => e = .returned (.int .i64 (tot S : Int)) ∧ w = w' := by
  obtain ⟨l, Sv, L, k0, rfl⟩ := h
  have HK := Lib.hid k0
  have HF := Lib.hid hS
  obtain ⟨c0, c1, c2⟩ := k0.cells
  have hl64 : l.length ≤ 64 := by have := hS.1; simpa using this
  obtain ⟨A, c, rfl⟩ := k0.qs.shape
  clear k0 hS c0 c1
  obtain ⟨m, hm⟩ : ∃ m, l.length = m := ⟨_, rfl⟩
  rw [hm] at c2 HK hl64
  have HN := Lib.hid hm
  clear hm
  go_enter Try.func21, Try.ntmps21
  go_wp2_with fail
  go_loopg [11, 3] m (fun gk i v wr => ∃ (k : Nat), k + gk = m ∧ i = .int .i64 (k : Int) ∧ v = .int .i64 ((tot ((l.map (·.1)).take k) : Nat) : Int) ∧ w = wr)
  case atStart => exact ⟨0, by omega, rfl, rfl, rfl⟩
  case round =>
    obtain ⟨k, hk, rfl, rfl, rfl⟩ := hrel
    by_cases hlt : k < m
    case neg =>
      have i1 : ¬ ((k : Int) < (m : Int)) := by omega
      have HE : Hid (((tot ((l.map (·.1)).take k) : Nat) : Int) = ((tot (l.map (·.1)) : Nat) : Int)) := by
        show _ = _
        rw [List.take_of_length_le (by rw [List.length_map, HN.out]; omega)]
      clear HK HF HN
      go_wp2
      go_ret
      exact ⟨ret_int HE.out, rfl⟩
    obtain ⟨x, hx⟩ : ∃ x, l[k]? = some x := ⟨_, List.getElem?_eq_getElem (by have := HN.out; omega)⟩
    have hx1 : (l.map (·.1))[k]? = some x.1 := by rw [List.getElem?_map, hx]; rfl
    obtain ⟨g, c', hT, -, -, -, d1, -⟩ := HK.out.qAt hx
    injection hT with hT _ _
    subst hT
    obtain ⟨B, dd, hv⟩ := (HK.out.qs.que x (List.mem_of_getElem? hx)).form
    rw [hv] at d1
    have h1 := tot_take hx1
    have h2 := tot_few HF.out (k + 1)
    generalize hm1 : tot ((l.map (·.1)).take k) = m1 at *
    generalize hm2 : tot ((l.map (·.1)).take (k + 1)) = m2 at *
    have H2 := Lib.hid hm2
    generalize x.1.2.length = y at *
    have i0 : (0 : Int) ≤ (k : Int) := by omega
    have i1 : (k : Int) < (m : Int) := by omega
    have hkw : IntKind.i64.wrap ((k : Int) + 1) = (k : Int) + 1 := IntWalk.i64_in _ (by omega)
    have hmw : IntKind.i64.wrap ((m1 : Int) + (y : Int)) = (m2 : Int) := by
      rw [h1, Int.natCast_add]
      exact IntWalk.i64_in _ (by omega)
    clear hv hm1 hm2 HK HF hx hx1 h1
    go_wp2
    go_roundg (gk - 1)
    case measure => omega
    case rel => exact ⟨k + 1, by omega, by go_num, by rw [H2.out], rfl⟩
theorem take_no (h : DeS F w d now S) (ht : t < 0 ∨ (S.length : Int) ≤ t) : Calls Try.prog 17 #[ptr d, .int .i64 t, .int .i64 n] w fun e w' => e = .returned (.int .i64 0) ∧ w = w' := by
  obtain ⟨l, Sv, L, h, rfl⟩ := h
  rw [List.length_map] at ht
  obtain ⟨c0, c1, c2⟩ := h.cells
  obtain ⟨A, m, c, rfl⟩ := h.said.shape
  have hm := h.said.sl.len
  rw [List.length_map] at hm
  rw [← hm] at ht
  clear h c0 c2 hm
  by_cases h0 : t < 0
  · go_enter Try.func17, Try.ntmps17
    go_wp2
    go_ret
    exact ⟨rfl, rfl⟩
  · have h2 : decide (t < 0) = false := by simpa using h0
    have h3 : (m : Int) ≤ t := by omega
    clear ht
    go_enter Try.func17, Try.ntmps17
    go_wp2
    go_ret
    exact ⟨rfl, rfl⟩
theorem take_empty (h : DeS F w d now S) (hi : S[i]? = some (s, [])) : Calls Try.prog 17 #[ptr d, .int .i64 (i : Int), .int .i64 n] w fun e w' => e = .returned (.int .i64 0) ∧ w = w' := by
  obtain ⟨l, Sv, L, x, k, rfl, hx, hxy⟩ := h.at_ hi
  clear h
  obtain ⟨c0, c1, c2⟩ := k.cells
  obtain ⟨A, m, c, rfl⟩ := k.said.shape
  have hm := k.said.sl.len
  rw [List.length_map] at hm
  obtain ⟨g, c', hT, -, -, hil, d1, -⟩ := k.qAt hx
  have hqu := k.qs.que x (List.mem_of_getElem? hx)
  rw [hxy] at hqu
  obtain ⟨B, dd, hv⟩ := hqu.form
  rw [hv] at d1
  simp only [List.length_nil] at d1
  rw [hT, ← hm] at c2
  have i0 : (0 : Int) ≤ (i : Int) := by omega
  have i1 : (i : Int) < (m : Int) := by omega
  have i2 : decide ((i : Int) < 0) = false := by simp
  clear k hqu hv hT hi hx hxy c0 hil hm
  go_enter Try.func17, Try.ntmps17
  go_wp2
  go_ret
  exact ⟨rfl, rfl⟩
set_option maxHeartbeats 1000000 in
theorem take_wait (h : DeS F w d now S) {p : Int × Int} (hi : S[i]? = some (s, p :: q)) (h1 : -9223372036854775808 ≤ p.2) (h2 : n ≤ 9223372036854775807) (hr : rdy p.2 n = false) : Calls Try.prog 17 #[ptr d, .int .i64 (i : Int), .int .i64 n] w fun e w' => e = .returned (.int .i64 0) ∧ w = w' := by
  obtain ⟨l, Sv, L, x, k, rfl, hx, hxy⟩ := h.at_ hi
  clear h
  obtain ⟨c0, c1, c2⟩ := k.cells
  obtain ⟨A, m, c, rfl⟩ := k.said.shape
  have hm := k.said.sl.len
  rw [List.length_map] at hm
  obtain ⟨g, c', hT, -, -, hil, d1, -⟩ := k.qAt hx
  have hqu := k.qs.que x (List.mem_of_getElem? hx)
  rw [hxy] at hqu
  obtain ⟨g1, off, dd, hv, hd, b0, b1⟩ := hqu.first
  rw [hv] at d1
  rw [hT, ← hm] at c2
  have HR := Lib.hid hr
  have HD := Lib.hid (dready_walk p.2 n w h1 h2)
  have i0 : (0 : Int) ≤ (i : Int) := by omega
  have i1 : (i : Int) < (m : Int) := by omega
  have i2 : decide ((i : Int) < 0) = false := by simp
  generalize q.length = y at *
  have m1 : ((y : Int) + 1 == 0) = false := by simp; omega
  have m2 : (0 : Int) < ((y : Int) + 1) := by omega
  have m3 : (((y + 1 : Nat) : Int) == 0) = false := by simp; omega
  clear k hqu hv hT hi hx hxy c0 hil hm hr h1 h2
  obtain ⟨p1, p2⟩ := p
  simp only at b0 b1 HR HD
  go_enter Try.func17, Try.ntmps17
  go_wp2_with fail
  refine HD.out.mono ?_
  rintro e w1 ⟨rfl, rfl⟩
  rw [HR.out]
  go_wp2
  go_ret
  exact ⟨rfl, rfl⟩
set_option maxHeartbeats 2000000 in
theorem take_yes (h : DeS F w d now S) {p : Int × Int} (hi : S[i]? = some (s, p :: q)) (h1 : -9223372036854775808 ≤ p.2) (h2 : n ≤ 9223372036854775807) (hr : rdy p.2 n = true) (hql : q.length ≤ 1000) : Calls Try.prog 17 #[ptr d, .int .i64 (i : Int), .int .i64 n] w fun e w' => e = .returned (.int .i64 p.1) ∧ NxD F w d now (S.set i (s, q)) w' := by
  obtain ⟨l, Sv, L, x, k, rfl, hx, hxy⟩ := h.at_ hi
  clear h
  obtain ⟨c0, c1, c2⟩ := k.cells
  obtain ⟨A, m, c, rfl⟩ := k.said.shape
  have hm := k.said.sl.len
  rw [List.length_map] at hm
  obtain ⟨g, c', hT, -, -, hil, d1, -⟩ := k.qAt hx
  have hqu := k.qs.que x (List.mem_of_getElem? hx)
  rw [hxy] at hqu
  obtain ⟨g1, off, dd, hv, hd, b0, b1⟩ := hqu.first
  have HV := Lib.hid hv
  rw [hv] at d1 hqu
  obtain ⟨A', d', hq2, hqb, hrun⟩ := hqu.tail paD
  have HQ2 := Lib.hid hq2
  have HT := Lib.hid hT
  have HM := Lib.hid hm
  have HX := Lib.hid hx
  have HXY := Lib.hid hxy
  have KK := Lib.hid k
  rw [hT, ← hm] at c2
  have HR := Lib.hid hr
  have HD := Lib.hid (dready_walk p.2 n w h1 h2)
  have i0 : (0 : Int) ≤ (i : Int) := by omega
  have i1 : (i : Int) < (m : Int) := by omega
  have i2 : decide ((i : Int) < 0) = false := by simp
  have m1 : ((q.length : Int) + 1 == 0) = false := by simp; omega
  have m2 : (0 : Int) < ((q.length : Int) + 1) := by omega
  have m3 : (((q.length + 1 : Nat) : Int) == 0) = false := by simp; omega
  clear k hqu hv hT hi hx hxy c0 hil hm hr h1 h2 hqb hq2
  obtain ⟨p1, p2⟩ := p
  simp only at b0 b1 HR HD HXY
  go_enter Try.func17, Try.ntmps17
  go_wp2_with fail
  refine HD.out.mono ?_
  rintro e w1 ⟨rfl, rfl⟩
  rw [HR.out]
  go_wp2_with fail
  refine region_T (fun j => j == 16) (fun w' => w'.cell? ⟨d, 2, none⟩ = some (.slice (some ⟨g, 0, none⟩) m c') ∧ w'.cell? ⟨g, i, none⟩ = some (.slice (some ⟨g1, off, none⟩) (q.length + 1) dd)) (by kernel_rfl) ?_
  obtain ⟨X0, hX0, b0'⟩ : ∃ X0 : World, w.drew = X0 ∧ Below w.heap.size w X0 := ⟨_, rfl, (Below.refl _ w).drew⟩
  rw [hX0]
  have HC : Hid (∀ X, Below w.heap.size w X → X.cell? ⟨d, 2, none⟩ = some (.slice (some ⟨g, 0, none⟩) m c') ∧ X.cell? ⟨g, i, none⟩ = some (.slice (some ⟨g1, off, none⟩) (q.length + 1) dd)) := fun X hX => ⟨below_read hX c2, below_read hX d1⟩
  have hC := HC.out X0 b0'
  clear hX0 b0 b1 c1 c2 d1
  refine takeT (i := 0) (v := ?_) rfl (by kernel_rfl) (by kernel_rfl) (by kernel_rfl) (by kernel_rfl) (fun _ _ _ h => h) hC (by rfl) ?_ ?_
  rotate_left
  · intro w hSw; (try dsimp only at hSw); go_simp; try (with_reducible rfl)
  try simp only [Act.put, List.setIfInBounds_toArray, List.set_cons_zero, List.set_cons_succ]
  refine takeT (i := 1) (v := ?_) rfl (by kernel_rfl) (by kernel_rfl) (by kernel_rfl) (by kernel_rfl) (fun _ _ _ h => h) hC (by rfl) ?_ ?_
  rotate_left
  · intro w hSw; (try dsimp only at hSw); go_simp; try (with_reducible rfl)
  try simp only [Act.put, List.setIfInBounds_toArray, List.set_cons_zero, List.set_cons_succ]
  refine takeT (i := 2) (v := ?_) rfl (by kernel_rfl) (by kernel_rfl) (by kernel_rfl) (by kernel_rfl) (fun _ _ _ h => h) hC (by rfl) ?_ ?_
  rotate_left
  · intro w hSw; (try dsimp only at hSw); go_simp; try (with_reducible rfl)
  try simp only [Act.put, List.setIfInBounds_toArray, List.set_cons_zero, List.set_cons_succ]
  refine takeT (i := 3) (v := ?_) rfl (by kernel_rfl) (by kernel_rfl) (by kernel_rfl) (by kernel_rfl) (fun _ _ _ h => h) hC (by rfl) ?_ ?_
  rotate_left
  · intro w hSw; (try dsimp only at hSw); go_simp; try (with_reducible rfl)
  try simp only [Act.put, List.setIfInBounds_toArray, List.set_cons_zero, List.set_cons_succ]
  refine takeT (i := 4) (v := ?_) rfl (by kernel_rfl) (by kernel_rfl) (by kernel_rfl) (by kernel_rfl) (fun _ _ _ h => h) hC (by rfl) ?_ ?_
  rotate_left
  · intro w hSw; (try dsimp only at hSw); go_simp; try (with_reducible rfl)
  try simp only [Act.put, List.setIfInBounds_toArray, List.set_cons_zero, List.set_cons_succ]
  refine takeT (i := 6) (v := ?_) rfl (by kernel_rfl) (by kernel_rfl) (by kernel_rfl) (by kernel_rfl) (fun _ _ _ h => h) hC (by rfl) ?_ ?_
  rotate_left
  · intro w hSw; (try dsimp only at hSw); go_simp; try (with_reducible rfl)
  try simp only [Act.put, List.setIfInBounds_toArray, List.set_cons_zero, List.set_cons_succ]
  refine takeT (i := 7) (v := ?_) rfl (by kernel_rfl) (by kernel_rfl) (by kernel_rfl) (by kernel_rfl) (fun _ _ _ h => h) hC (by rfl) ?_ ?_
  rotate_left
  · intro w hSw; (try dsimp only at hSw); go_simp; try (with_reducible rfl)
  try simp only [Act.put, List.setIfInBounds_toArray, List.set_cons_zero, List.set_cons_succ]
  refine takeT (i := 8) (v := ?_) rfl (by kernel_rfl) (by kernel_rfl) (by kernel_rfl) (by kernel_rfl) (fun _ _ _ h => h) hC (by rfl) ?_ ?_
  rotate_left
  · intro w hSw; (try dsimp only at hSw); go_simp; try (with_reducible rfl)
  try simp only [Act.put, List.setIfInBounds_toArray, List.set_cons_zero, List.set_cons_succ]
  refine takeT (i := 9) (v := ?_) rfl (by kernel_rfl) (by kernel_rfl) (by kernel_rfl) (by kernel_rfl) (fun _ _ _ h => h) hC (by rfl) ?_ ?_
  rotate_left
  · intro w hSw; (try dsimp only at hSw); go_simp; try (with_reducible rfl)
  try simp only [Act.put, List.setIfInBounds_toArray, List.set_cons_zero, List.set_cons_succ]
  refine takeT (i := 10) (v := ?_) rfl (by kernel_rfl) (by kernel_rfl) (by kernel_rfl) (by kernel_rfl) (fun _ _ _ h => h) hC (by rfl) ?_ ?_
  rotate_left
  · intro w hSw; (try dsimp only at hSw); go_simp; try (with_reducible rfl)
  try simp only [Act.put, List.setIfInBounds_toArray, List.set_cons_zero, List.set_cons_succ]
  refine takeT (i := 11) (v := ?_) rfl (by kernel_rfl) (by kernel_rfl) (by kernel_rfl) (by kernel_rfl) (fun _ _ _ h => h) hC (by rfl) ?_ ?_
  rotate_left
  · intro w hSw; (try dsimp only at hSw); go_simp; try (with_reducible rfl)
  try simp only [Act.put, List.setIfInBounds_toArray, List.set_cons_zero, List.set_cons_succ]
  refine takeT (i := 12) (v := ?_) rfl (by kernel_rfl) (by kernel_rfl) (by kernel_rfl) (by kernel_rfl) (fun _ _ _ h => h) hC (by rfl) ?_ ?_
  rotate_left
  · intro w hSw; (try dsimp only at hSw); go_simp; try (with_reducible rfl)
  try simp only [Act.put, List.setIfInBounds_toArray, List.set_cons_zero, List.set_cons_succ]
  refine takeT (i := 13) (v := ?_) rfl (by kernel_rfl) (by kernel_rfl) (by kernel_rfl) (by kernel_rfl) (fun _ _ _ h => h) hC (by rfl) ?_ ?_
  rotate_left
  · intro w hSw; (try dsimp only at hSw); go_simp; try (with_reducible rfl)
  try simp only [Act.put, List.setIfInBounds_toArray, List.set_cons_zero, List.set_cons_succ]
  clear hC
  refine oneT (i := 5) (by kernel_rfl) rfl (by rfl) (fun K hK => ?_)
  go_simp
  obtain ⟨X1, gw, hX1, hgw, hb1', hblk⟩ : ∃ (X1 : World) (gw : Nat), X0.alloc (.cells #[] gdT) = X1 ∧ X0.heap.size = gw ∧ Below X0.heap.size X0 X1 ∧ X1.heap[gw]? = some (.cells #[] gdT (0, 0)) := ⟨_, _, rfl, rfl, below_new _ _, heap_alloc_new X0 _⟩
  rw [hX1, hgw]
  have hbX1 := b0'.trans (hb1'.mono b0'.size)
  refine hK.out _ _ (fun _ => HC.out X1 hbX1) ?_
  clear hK K hX1
  try simp only [Act.put, List.setIfInBounds_toArray, List.set_cons_zero, List.set_cons_succ]
  obtain ⟨v4, X2, hr4, hq4, hgr4, hb4⟩ := (HQ2.out.at_ (w' := X1) fun b e => hbX1.block b (HQ2.out.lt e)).copy paD 0 hblk (by omega)
  have hr4' : ∀ ty, (Builtin.append_ #[slT, slT] ty #[.slice (some ⟨gw, 0, none⟩) 0 0, .slice A' q.length d']).run Try.prog X1 = .ok v4 X2 := fun ty => hr4
  obtain ⟨F4, f4, rfl⟩ := hq4.form
  have hgwY : w.heap.size ≤ gw := by have := b0'.size; omega
  have hbX2 : Below w.heap.size w X2 := hbX1.grown hgr4 hbX1.size (fun b e => by injection e with e; subst e; exact hgwY)
  refine oneT (i := 14) (by kernel_rfl) rfl (by rfl) (fun K hK => ?_)
  refine Lib.wp_append_run (P := Try.prog) X1 (.tmp 60) (.tmp 68) slT slT rfl (.slice (some ⟨gw, 0, none⟩) 0 0) (.slice A' q.length d') rfl rfl _ X2 (hr4' _) ?_
  refine hK.out _ _ (fun _ => HC.out X2 hbX2) ?_
  clear hK K
  try simp only [Act.put, List.setIfInBounds_toArray, List.set_cons_zero, List.set_cons_succ]
  have hC := HC.out X2 hbX2
  refine oneT (i := 15) (by kernel_rfl) rfl (by rfl) (fun K hK => ?_)
  go_simp
  refine hK.out _ _ (fun _ => hC) ?_
  clear hK K
  try simp only [Act.put, List.setIfInBounds_toArray, List.set_cons_zero, List.set_cons_succ]
  clear hC
  obtain ⟨hn, e1, e2⟩ := KK.out.queue HX.out (grown_below hbX2 _) hq4 (fun b e => .inr (by rcases hb4 b e with e | e; omega; exact Nat.le_trans hbX1.size e)) HT.out rfl
  rw [HXY.out] at hn
  rw [HV.out] at e1
  have HE := Lib.hid hn
  clear hn hq4 hb4 hr4 hr4' hgr4
  refine oneT (i := 16) (by kernel_rfl) rfl (by rfl) (fun K hK => ?_)
  go_simp
  refine hK.out _ _ (fun e => by cases e) ?_
  clear hK K
  try simp only [Act.put, List.setIfInBounds_toArray, List.set_cons_zero, List.set_cons_succ]
  refine doneT (by kernel_rfl) ?_
  clear e1 e2 HC
  go_wp2
  go_ret
  exact ⟨rfl, HE.out⟩
end
end Go.Proofs.Ytcainkobdkaaeaa
