/-
  LlxStill's two threads side by side, in whatever order.
-/
import Derived.Test.YtoeilogakfggfaaZb10
import Derived.Test.YtoeilogakfggfaaRe10
namespace Go.Proofs.Ytoeilogakfggfaa
open Go.ChangeShapes Go.WideShapes Go.ChangeAt Go.RowKit
set_option linter.unusedVariables false
set_option linter.unusedSimpArgs false
set_option maxRecDepth 20000

section
variable {nds : List (Int × Nd)} {X : Nat → Nat} {c : Nat} {L : Nat}
theorem kl_rd (k : Nat) : kpL nds 40 (tRd k) := by
  induction k with
  | zero => exact trivial
  | succ k ih => exact kpL_bind (kl_loads [] twoN) fun y => kl_if (kpL_bind (kl_still _) fun b => kl_if trivial ih) ih
theorem good_rd (k : Nat) : ∀ s, good (tRd k) s := by
  induction k with
  | zero => exact fun s => trivial
  | succ k ih =>
    intro s
    refine good_bind (good_loads [] twoN s) fun y s' _ => ?_
    split
    · refine good_bind (good_still _ s') fun b s2 _ => ?_
      split
      · exact trivial
      · exact ih s2
    · exact ih s'
theorem tj_rd (k : Nat) : tj nds 40 L (tRd k) := by
  induction k with
  | zero => exact trivial
  | succ k ih => exact tj_bind (tj_loads [] twoN) fun y => tj_if (tj_bind (tj_still _) fun b => tj_if trivial ih) ih
theorem kl_wr (k : Nat) : ∀ i, i + k ≤ 50 → kpL nds 40 (tWr X i k) := by
  induction k with
  | zero => exact fun i hi => trivial
  | succ k ih =>
    intro i hi
    refine kpL_bindR (kl_loads [] _) (rets_loads [] _) fun y hy => kl_if (kpL_bind (kl_store (by simp at hy; omega) (in64_small (by omega))) fun z => kl_if (ih (i + 1) (by omega)) trivial) trivial
theorem good_wr (k : Nat) : ∀ i s, good (tWr X i k) s := by
  induction k with
  | zero => exact fun i s => trivial
  | succ k ih =>
    intro i s
    refine good_bind (good_loads [] _ s) fun y s' _ => ?_
    split
    · refine good_bind (good_store _ _ _ _ _ _ s') fun z s2 _ => ?_
      split
      · exact ih (i + 1) s2
      · exact trivial
    · exact trivial
theorem tj_wr (k : Nat) : ∀ i, tj nds 40 L (tWr X i k) := by
  induction k with
  | zero => exact fun i => trivial
  | succ k ih => exact fun i => tj_bind (tj_loads [] _) fun y => tj_if (tj_bind (tj_store (by omega) _) fun z => tj_if (ih (i + 1)) trivial) trivial
end
/-- What is left of a thread, at time t. -/
def zT (X : Nat → Nat) (c : Nat) (wr : Bool) (Q : List Int → Nat → Prop) : Ts → Nat → Nat → Prop
  | .run u, t, n => zG X c wr (fun v t _ => Q v t) u t n ∧ n ≤ 100
  | .fin b, t, n => Q b t
section
variable {α : Type} {X : Nat → Nat} {c : Nat} {wr : Bool} {t t' n n' : Nat} {Q : List Int → Nat → Prop} {o : Ts} {R : α → Nat → Nat → Prop}
theorem zG_nrm (u : Tr α) (h : zG X c wr R u t n) : zG X c wr R (nrm u (zS X t)) t n := by
  induction u with
  | ret v => exact h
  | tch g K ih => exact h
  | lk m K ih => exact ih _ h
theorem zT.step (h : zT X c wr Q o t n) (hn : ∀ u, o = .run u → nl u) (ht : t ≤ 5 * c) : ∃ t2 n2, (nxT o (zS X t)).2 = zS X t2 ∧ zGu c wr t t2 ∧ zT X c wr Q (nxT o (zS X t)).1 t2 n2 := by
  cases o with
  | fin b => exact ⟨t, n, rfl, ⟨ht, .inl rfl⟩, h⟩
  | run u =>
    cases u with
    | ret v => exact ⟨t, n, rfl, ⟨ht, .inl rfl⟩, h.1⟩
    | lk m K => exact (hn _ rfl).elim
    | tch g K =>
      obtain ⟨t2, n2, e1, e2, e3, e4, e5⟩ := h.1 t (zRl.refl ht)
      refine ⟨t2, n2, e1, e2, ?_⟩
      show zT X c wr Q (ofTr (nrm (K (g (zS X t)).1) (g (zS X t)).2)) t2 n2
      rw [e1]
      have h6 := zG_nrm _ e5
      have hn2 := nl_nrm (K (g (zS X t)).1) (zS X t2)
      cases hK : nrm (K (g (zS X t)).1) (zS X t2) with
      | ret v => rw [hK] at h6; exact h6
      | tch g' K' => rw [hK] at h6; exact ⟨h6, e3⟩
      | lk m K' => rw [hK] at hn2; exact hn2.elim
theorem zT.rely (h : zT X c wr Q o t n) (hn : ∀ u, o = .run u → nl u) (hr : zRl c wr t t') (hQ : ∀ v, Q v t → Q v t') : zT X c wr Q o t' n := by
  cases o with
  | fin b => exact hQ _ h
  | run u =>
    cases u with
    | ret v => exact ⟨hQ _ h.1, h.2⟩
    | lk m K => exact (hn _ rfl).elim
    | tch g K => exact ⟨fun t2 h2 => h.1 t2 (hr.trans h2), h.2⟩
theorem zG_ev (u : Tr α) : ∀ t n, zG X c wr R u t n → (wr = true ∨ t = 5 * c) → t ≤ 5 * c → ∃ t' n', R (ev u (zS X t)).1 t' n' ∧ (ev u (zS X t)).2.1 = zS X t' ∧ (ev u (zS X t)).2.2 + n' ≤ n ∧ t ≤ t' ∧ t' ≤ 5 * c := by
  induction u with
  | ret v => exact fun t n h hq ht => ⟨t, n, h, rfl, by simp [ev], Nat.le_refl _, ht⟩
  | lk m K ih => exact fun t n h hq ht => ih _ t n h hq ht
  | tch g K ih =>
    intro t n h hq ht
    obtain ⟨t2, n2, e1, e2, e3, e4, e5⟩ := h t (zRl.refl ht)
    have l1 : t ≤ t2 := by rcases e2.2 with e | e <;> omega
    obtain ⟨t3, n3, k1, k2, k3, k4, k5⟩ := ih _ t2 n2 e5 (hq.imp id fun e => by have := e2.1; omega) e2.1
    have e6 := e4 hq
    simp only [ev, e1]
    exact ⟨t3, n3, k1, k2, by omega, by omega, k5⟩
theorem zGu.rl (h : zGu c wr t t') (ht : t ≤ 5 * c) : zRl c (!wr) t t' := by
  obtain ⟨h1, h2⟩ := h
  cases wr with
  | true => exact ⟨by omega, h1, fun q => by cases q⟩
  | false =>
    refine ⟨by omega, h1, fun _ => ?_⟩
    rcases h2 with rfl | ⟨rfl, h3⟩
    · omega
    · have := h3 rfl; omega
end
def zQw (c : Nat) (v : List Int) (t : Nat) : Prop := v = [1] ∧ t = 5 * c
def zQr (X : Nat → Nat) (c : Nat) (v : List Int) (t : Nat) : Prop := zAns X c v
/-- Behind j Steps. -/
def EZ (W : World) (v : Value) (cs : List (Nat × Nat × Value)) (d : Wd) (X : Nat → Nat) (c : Nat) (A0 A1 j : Nat) (w : World) : Prop := ∃ oa ob t na nb, RG W v cs d 2 j (zS X t) w [(A0, oa), (A1, ob)] ∧ RP 2 (800 - j) oa ob (zS X t) ∧ t ≤ 5 * c ∧ zT X c true (zQw c) oa t na ∧ zT X c false (zQr X c) ob t nb
/-- The writer is at its end. -/
def FZ (W : World) (v : Value) (cs : List (Nat × Nat × Value)) (d : Wd) (X : Nat → Nat) (c : Nat) (A0 A1 : Nat) (w : World) : Prop := ∃ ob T nb, RG W v cs d 2 T (zS X (5 * c)) w [(A0, .fin [1]), (A1, ob)] ∧ RP 2 450 (.fin [1]) ob (zS X (5 * c)) ∧ zT X c false (zQr X c) ob (5 * c) nb ∧ T ≤ 320
/-- Both are. -/
def GZ (W : World) (v : Value) (cs : List (Nat × Nat × Value)) (d : Wd) (X : Nat → Nat) (c : Nat) (A0 A1 : Nat) (w : World) : Prop := ∃ b s T, RG W v cs d 2 T s w [(A0, .fin [1]), (A1, .fin b)] ∧ zAns X c b
section
variable {W w : World} {v : Value} {cs : List (Nat × Nat × Value)} {d : Wd} {X : Nat → Nat} {c A0 A1 j k T : Nat} {s : Sig} {ps : List (Nat × Ts)}
theorem zAns.len {b : List Int} (h : zAns X c b) : b.length ≤ 2 := by
  rcases h with ⟨rfl, -⟩ | ⟨k, -, rfl⟩
  · simp
  · simp
theorem zS_0 : zS X 0 = sN 2 2 ns0 [] := rfl
theorem RP.beginZ {B : Nat} (hc : c ≤ 6) (hB : B ≤ 900) : RP 2 B (.run (nrm (tWr X 0 c) (zS X 0))) (.run (nrm (tRd 12) (zS X 0))) (zS X 0) := by
  have hS : Stt (ndsN 2) 40 (zS X 0) := by
    rw [zS_0]
    exact stt_sN (by omega) (fun j hj => ⟨in64_small (z := 200 + 10 * (j : Int)) (by omega), in64_small (z := 201 + 10 * (j : Int)) (by omega)⟩) (fun x hx => (by cases hx)) (by simp)
  refine ⟨hS, by rw [zS_0]; exact inv_ns0 2 2 B (by omega) (by omega) hB [] (by simp), fun u e => ?_, fun u e => ?_⟩
  · injection e with e; subst e; exact RJ.begin_ (tj_wr c 0) (kl_wr c 0 (by omega)) (good_wr c 0 _) hS
  · injection e with e; subst e; exact RJ.begin_ (tj_rd 12) (kl_rd 12) (good_rd 12 _) hS
theorem EZ.begin_ (hX : ∀ j, X j < 2) (hc : c ≤ 6) (h : RG W v cs d 2 0 (zS X 0) w [(A0, .run (nrm (tWr X 0 c) (zS X 0))), (A1, .run (nrm (tRd 12) (zS X 0)))]) : EZ W v cs d X c A0 A1 0 w :=
  ⟨_, _, 0, 98, 98, h, RP.beginZ hc (by omega), by omega, ⟨zG_nrm _ (zG_wr hX (by omega) c 0 98 (by omega) (by omega) (by omega)), by omega⟩, zG_nrm _ (zG_rd hX 12 0 98 (.inl (by omega)) (by omega) (by omega) (by omega)), by omega⟩
theorem EZ.step0 (h : EZ W v cs d X c A0 A1 j w) (hj : j < 200) :
    Calls Try.prog 36 #[ptr A0] w fun e w' => (∃ b, e = .returned (.bool b)) ∧ EZ W v cs d X c A0 A1 (j + 1) w' := by
  obtain ⟨oa, ob, t, na, nb, h1, h2, h3, h4, h5⟩ := h
  refine (h1.step (i := 0) rfl (fun _ => ⟨h2.stt, h2.inv.fit⟩) h2.stO (by omega)).mono ?_
  rintro e w' ⟨rfl, k1⟩
  refine ⟨⟨_, rfl⟩, ?_⟩
  obtain ⟨t2, n2, e1, e2, e3⟩ := h4.step (fun u e => (h2.ra u e).nl) h3
  have h6 := (h2.mono (m := (800 - (j + 1)) + 1) (by omega)).step
  rw [e1] at k1 h6
  exact ⟨_, ob, t2, n2, nb, k1, h6, e2.1, e3, h5.rely (fun u e => (h2.rb u e).nl) (e2.rl h3) fun v q => q⟩
theorem EZ.step1 (h : EZ W v cs d X c A0 A1 j w) (hj : j < 200) :
    Calls Try.prog 36 #[ptr A1] w fun e w' => (∃ b, e = .returned (.bool b)) ∧ EZ W v cs d X c A0 A1 (j + 1) w' := by
  obtain ⟨oa, ob, t, na, nb, h1, h2, h3, h4, h5⟩ := h
  refine (h1.step (i := 1) rfl (fun _ => ⟨h2.stt, h2.inv.fit⟩) h2.swap.stO (by omega)).mono ?_
  rintro e w' ⟨rfl, k1⟩
  refine ⟨⟨_, rfl⟩, ?_⟩
  obtain ⟨t2, n2, e1, e2, e3⟩ := h5.step (fun u e => (h2.rb u e).nl) h3
  have h6 := ((h2.mono (m := (800 - (j + 1)) + 1) (by omega)).swap.step).swap
  rw [e1] at k1 h6
  exact ⟨oa, _, t2, na, n2, k1, h6, e2.1, h4.rely (fun u e => (h2.ra u e).nl) (e2.rl h3) (fun v q => ⟨q.1, by have := e2.1; have := q.2; rcases e2.2 with q | q <;> omega⟩), e3⟩
theorem EZ.alone (h : EZ W v cs d X c A0 A1 j w) (hj : j ≤ 200) :
    Calls Try.prog 11 #[ptr A0] w (AloneR (FZ W v cs d X c A0 A1)) := by
  obtain ⟨oa, ob, t, na, nb, h1, h2, h3, h4, h5⟩ := h
  cases oa with
  | fin b =>
    obtain ⟨rfl, rfl⟩ := h4
    refine (h1.alone_fin (i := 0) rfl (by omega) (by simp)).mono ?_
    rintro e w' ⟨A, q, c, z, rfl, k1⟩
    exact ⟨A, q, c, z, rfl, ob, _, nb, k1, h2.mono (by omega), h5, by omega⟩
  | run u =>
    have hr := h2.ra u rfl
    obtain ⟨t2, n2, g1, g2, g3, g4, g5⟩ := zG_ev u t na h4.1 (.inl rfl) h3
    obtain ⟨g6, g7⟩ : (ev u (zS X t)).1 = [1] ∧ t2 = 5 * c := g1
    have hna := h4.2
    refine (h1.alone (i := 0) (M := 100) rfl hr (h2.inv.mono (by omega)) h2.stt g6 (by omega) (by omega) (by simp)).mono ?_
    rintro e w' ⟨A, q, c', z, rfl, k1⟩
    have h6 := RP.aloneM (B := 450) (ob := ob) 100 u (zS X t) (by omega) (h2.mono (by omega))
    rw [g2, g7] at k1
    rw [g6, g2, g7] at h6
    refine ⟨A, q, c', z, rfl, ob, _, nb, k1, h6, h5.rely (fun u e => (h2.rb u e).nl) ⟨h3, Nat.le_refl _, fun q => by cases q⟩ fun v q => q, by omega⟩
theorem FZ.alone (h : FZ W v cs d X c A0 A1 w) :
    Calls Try.prog 11 #[ptr A1] w (AloneR (GZ W v cs d X c A0 A1)) := by
  obtain ⟨ob, T, nb, h1, h2, h3, h4⟩ := h
  cases ob with
  | fin b =>
    have hz : zAns X c b := h3
    refine (h1.alone_fin (i := 1) rfl (by omega) (by have := hz.len; omega)).mono ?_
    rintro e w' ⟨A, q, c, z, rfl, k1⟩
    exact ⟨A, q, c, z, rfl, _, _, _, k1, hz⟩
  | run u =>
    have hr := h2.rb u rfl
    obtain ⟨t2, n2, g1, g2, g3, g4, g5⟩ := zG_ev u (5 * c) nb h3.1 (.inr rfl) (Nat.le_refl _)
    have hz : zAns X c (ev u (zS X (5 * c))).1 := g1
    have hna := h3.2
    refine (h1.alone (i := 1) (M := 100) rfl hr (h2.inv.mono (by omega)) h2.stt rfl (by omega) (by omega) (by have := hz.len; omega)).mono ?_
    rintro e w' ⟨A, q, c', z, rfl, k1⟩
    exact ⟨A, q, c', z, rfl, _, _, _, k1, hz⟩
/-- A thread is started. -/
theorem RG.start {me f : Nat} {cap : Array Value} {u : Tr (List Int)} (h : RG W v cs d k T s w ps) (hj : ∀ Y : Nat → Prop, RowX Y rfT w v (refN k) → (∀ c ∈ cs, Y c.1 ∧ w.cell? ⟨c.1, c.2.1, none⟩ = some c.2.2) → Job d (fun q => q < W.heap.size ∨ Y q) w f me cap (Stt (ndsN k) 40) u idO)
    (hen : ∀ (a : Nat) (W : World), (callFunc f (#[tkV a d.W me] ++ cap)).run Try.prog W = .ok (.enter f (#[tkV a d.W me] ++ cap)) W) (hh : hd u s) :
    Calls Try.prog 20 #[ptr d.W, .int .i64 (me : Int), .func (.func f) #[] cap] w fun e w' => ∃ a, e = .returned (ptr a) ∧ RG W v cs d k T s w' (ps ++ [(a, .run (nrm u s))]) ∧ Below w.heap.size w w' := by
  obtain ⟨Y, hs, os, h1, h2, h3, h5⟩ := h
  refine (h1.me.start (me := me) (f := f) (cap := cap) (Pr := Stt (ndsN k) 40) (hj Y h2 h3) hen hh).mono ?_
  rintro e w1 ⟨a, rfl, k1, k2⟩
  have hMB : MB W Y d (ps.length + 1) T (upd hs ps.length ⟨a, me, f, cap, u, Stt (ndsN k) 40⟩) (upd os ps.length (.run (nrm u s))) s w1 := ⟨k1, h1.bel.trans (k2.mono h1.bel.size)⟩
  exact ⟨a, rfl, ⟨Y, _, _, by rw [List.length_append]; exact hMB, h2.kp (h1.kb k2), fun c e => ⟨(h3 c e).1, below_read k2 (h3 c e).2⟩, h5.snoc (x := ⟨a, me, _, _, _, _⟩) rfl⟩, k2⟩
theorem RG.out {i a : Nat} {b : List Int} (h : RG W v cs d k T s w ps) (hi : ps[i]? = some (a, .fin b)) (hl : b.length ≤ 1000) :
    Calls Try.prog 27 #[ptr a] w fun e w' => ∃ A m q, e = .returned (.slice A m q) ∧ Row 2 w.heap.size w' (.slice A m q) b ∧ Below w.heap.size w w' := by
  obtain ⟨Y, hs, os, h1, h2, h3, h5⟩ := h
  obtain ⟨g1, g2, g3⟩ := h5 i a _ hi
  have := h1.me.out (List.getElem?_eq_some_iff.1 hi).1 g1 hl
  rw [g2] at this
  exact this
end
end Go.Proofs.Ytoeilogakfggfaa
