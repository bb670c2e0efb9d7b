/-
  LlxRace's threads in whatever order.
-/
import Derived.Test.YtoeilogakfggfaaRm10
namespace Go.Proofs.Ytoeilogakfggfaa
open Go.ChangeShapes Go.WideShapes Go.ChangeAt Go.RowKit
set_option linter.unusedVariables false
set_option linter.unusedSimpArgs false
set_option maxRecDepth 20000

section
variable {k B : Nat} {ta tb : Tr (List Int)} {tA tB : List (List Loc)} {S : Nat → Sig} {dA dB : List (List Row4)} {ls : List (List Ent)} {oa ob : Ts} {s : Sig} {m n : Nat}
theorem InL.mono (h : InL ta tb tA tB S dA dB m oa ob s) (hm : m ≤ n) : InL ta tb tA tB S dA dB n oa ob s := by
  obtain ⟨ls, l, e, h1, h2, h3⟩ := h
  exact ⟨ls, l, e, h1, by omega, h3⟩
theorem RP.mono (h : RP k n oa ob s) (hm : m ≤ n) : RP k m oa ob s := ⟨h.stt, h.inv.mono hm, h.ra, h.rb⟩
theorem RP.aloneM : ∀ (M : Nat) (u : Tr (List Int)) (s : Sig), (ev u s).2.2 ≤ M → RP k (B + M + 1) (.run u) ob s → RP k B (.fin (ev u s).1) ob (ev u s).2.1 := by
  intro M
  induction M with
  | zero =>
    intro u s hm h
    rcases nxT_ev (s := s) (h.ra u rfl).nl with ⟨v, s', e1, q1, q2, q3⟩ | ⟨u', s', e1, q0, q1, q2, q3, q4⟩
    · have := h.step (B := B)
      rw [e1] at this
      rw [q1, q2]; exact this
    · omega
  | succ M ih =>
    intro u s hm h
    rcases nxT_ev (s := s) (h.ra u rfl).nl with ⟨v, s', e1, q1, q2, q3⟩ | ⟨u', s', e1, q0, q1, q2, q3, q4⟩
    · have := (h.mono (m := B + 1) (by omega)).step (B := B)
      rw [e1] at this
      rw [q1, q2]; exact this
    · have := (h.mono (m := (B + M + 1) + 1) (by omega)).step
      rw [e1] at this
      rw [q1, q2]
      exact ih u' s' (by omega) this
theorem RP.begin_ (hk : 1 ≤ k ∧ k ≤ 20) (hB : B ≤ 900) {x y : Int} (hx : in64 x) (hy : in64 y) : RP k B (.run (nrm (tRace (ndsN k) x) (sN 2 k ns0 []))) (.run (nrm (tRace (ndsN k) y) (sN 2 k ns0 []))) (sN 2 k ns0 []) := by
  have hS : Stt (ndsN k) 40 (sN 2 k ns0 []) := stt_sN (by omega) (fun j hj => ⟨in64_small (z := 200 + 10 * (j : Int)) (by omega), in64_small (z := 201 + 10 * (j : Int)) (by omega)⟩) (fun x hx => (by cases hx)) (by simp)
  refine ⟨hS, inv_ns0 2 k B (by omega) (by omega) hB [] (by simp), fun u e => ?_, fun u e => ?_⟩
  · injection e with e; subst e; exact RJ.begin_ (tj_race _ _) (kl_race (by rw [ndsN_len]; omega) hx) (good_race _ _ _) hS
  · injection e with e; subst e; exact RJ.begin_ (tj_race _ _) (kl_race (by rw [ndsN_len]; omega) hy) (good_race _ _ _) hS
/-- Behind j Steps. -/
def ERc (W : World) (v : Value) (cs : List (Nat × Nat × Value)) (d : Wd) (k : Nat) (ta tb : Tr (List Int)) (tA tB : List (List Loc)) (S : Nat → Sig) (dA dB : List (List Row4)) (A0 A1 j : Nat) (w : World) : Prop := ∃ oa ob s m, RG W v cs d k j s w [(A0, oa), (A1, ob)] ∧ RP k (400 - j) oa ob s ∧ InL ta tb tA tB S dA dB m oa ob s ∧ m ≤ 65
/-- The first is at its end. -/
def FRc (W : World) (v : Value) (cs : List (Nat × Nat × Value)) (d : Wd) (k : Nat) (ta tb : Tr (List Int)) (tA tB : List (List Loc)) (S : Nat → Sig) (dA dB : List (List Row4)) (A0 A1 : Nat) (w : World) : Prop := ∃ x ob s m T, RG W v cs d k T s w [(A0, .fin [x]), (A1, ob)] ∧ RP k 150 (.fin [x]) ob s ∧ InL ta tb tA tB S dA dB m (.fin [x]) ob s ∧ m ≤ 65 ∧ T ≤ 200
/-- Both are. -/
def GRc (W : World) (v : Value) (cs : List (Nat × Nat × Value)) (d : Wd) (k : Nat) (A0 A1 : Nat) (w : World) : Prop := ∃ x y s T, RG W v cs d k T s w [(A0, .fin [x]), (A1, .fin [y])] ∧ Fit s ∧ goodE x y (way0 s) = true
theorem one_len {b : List Int} (h : b.length = 1) : ∃ x, b = [x] := by
  match b, h with
  | [x], _ => exact ⟨x, rfl⟩
theorem fin_stay {b : List Int} {s : Sig} : nxT (.fin b) s = (.fin b, s) := rfl
variable {W w : World} {v : Value} {cs : List (Nat × Nat × Value)} {d : Wd} {A0 A1 j : Nat}
theorem ERc.step0 (ht : TabOk k ta tb tA tB S dA dB ls) (h : ERc W v cs d k ta tb tA tB S dA dB A0 A1 j w) (hj : j < 120) :
    Calls Try.prog 36 #[ptr A0] w fun e w' => (∃ b, e = .returned (.bool b)) ∧ ERc W v cs d k ta tb tA tB S dA dB A0 A1 (j + 1) w' := by
  obtain ⟨oa, ob, s, m, h1, h2, h3, h4⟩ := h
  refine (h1.step (i := 0) rfl (fun _ => ⟨h2.stt, h2.inv.fit⟩) h2.stO (by omega)).mono ?_
  rintro e w' ⟨rfl, k1⟩
  refine ⟨⟨_, rfl⟩, ?_⟩
  have h5 := (h2.mono (m := (400 - (j + 1)) + 1) (by omega)).step
  cases oa with
  | fin b => exact ⟨.fin b, ob, s, m, k1, h5, h3, h4⟩
  | run u =>
    obtain ⟨m', e1, h6⟩ := h3.stepA ht.a rfl
    exact ⟨_, ob, _, m', k1, h5, h6, by omega⟩
theorem ERc.step1 (ht : TabOk k ta tb tA tB S dA dB ls) (h : ERc W v cs d k ta tb tA tB S dA dB A0 A1 j w) (hj : j < 120) :
    Calls Try.prog 36 #[ptr A1] w fun e w' => (∃ b, e = .returned (.bool b)) ∧ ERc W v cs d k ta tb tA tB S dA dB A0 A1 (j + 1) w' := by
  obtain ⟨oa, ob, s, m, h1, h2, h3, h4⟩ := h
  refine (h1.step (i := 1) rfl (fun _ => ⟨h2.stt, h2.inv.fit⟩) h2.swap.stO (by omega)).mono ?_
  rintro e w' ⟨rfl, k1⟩
  refine ⟨⟨_, rfl⟩, ?_⟩
  have h5 := ((h2.mono (m := (400 - (j + 1)) + 1) (by omega)).swap.step).swap
  cases ob with
  | fin b => exact ⟨oa, .fin b, s, m, k1, h5, h3, h4⟩
  | run u =>
    obtain ⟨m', e1, h6⟩ := h3.stepB ht.b rfl
    exact ⟨oa, _, _, m', k1, h5, h6, by omega⟩
theorem ERc.alone (ht : TabOk k ta tb tA tB S dA dB ls) (h : ERc W v cs d k ta tb tA tB S dA dB A0 A1 j w) (hj : j ≤ 120) :
    Calls Try.prog 11 #[ptr A0] w (AloneR (FRc W v cs d k ta tb tA tB S dA dB A0 A1)) := by
  obtain ⟨oa, ob, s, m, h1, h2, h3, h4⟩ := h
  cases oa with
  | fin b =>
    obtain ⟨x, rfl⟩ := one_len h3.len
    refine (h1.alone_fin (i := 0) rfl (by omega) (by simp)).mono ?_
    rintro e w' ⟨A, q, c, z, rfl, k1⟩
    exact ⟨A, q, c, z, rfl, x, ob, s, m, _, k1, h2.mono (by omega), h3, h4, by omega⟩
  | run u =>
    have hr := h2.ra u rfl
    obtain ⟨g1, g2⟩ := h3.aloneA ht m u s hr.nl
    obtain ⟨x, hx⟩ := one_len g2.len
    refine (h1.alone (i := 0) (M := 66) rfl hr (h2.inv.mono (by omega)) h2.stt hx (by omega) (by omega) (by simp)).mono ?_
    rintro e w' ⟨A, q, c, z, rfl, k1⟩
    have h5 := RP.aloneM (B := 150) (ob := ob) 66 u s (by omega) (h2.mono (by omega))
    rw [hx] at h5 g2
    exact ⟨A, q, c, z, rfl, x, ob, _, m, _, k1, h5, g2, h4, by omega⟩
theorem FRc.alone (ht : TabOk k ta tb tA tB S dA dB ls) (h : FRc W v cs d k ta tb tA tB S dA dB A0 A1 w) :
    Calls Try.prog 11 #[ptr A1] w (AloneR (GRc W v cs d k A0 A1)) := by
  obtain ⟨x, ob, s, m, T, h1, h2, h3, h4, h5⟩ := h
  cases ob with
  | fin b =>
    obtain ⟨x', y', e1, e2, hg⟩ := h3.fin
    injection e1 with e1
    subst e1 e2
    refine (h1.alone_fin (i := 1) rfl (by omega) (by simp)).mono ?_
    rintro e w' ⟨A, q, c, z, rfl, k1⟩
    exact ⟨A, q, c, z, rfl, _, _, s, _, k1, h2.inv.fit, hg⟩
  | run u =>
    have hr := h2.rb u rfl
    obtain ⟨g1, g2⟩ := h3.aloneB ht m u s hr.nl
    obtain ⟨x', y', e1, e2, hg⟩ := g2.fin
    injection e1 with e1
    subst e1
    refine (h1.alone (i := 1) (M := 66) rfl hr (h2.inv.mono (by omega)) h2.stt e2 (by omega) (by omega) (by simp)).mono ?_
    rintro e w' ⟨A, q, c, z, rfl, k1⟩
    have h6 := RP.aloneM (B := 10) (ob := .fin [x]) 66 u s (by omega) (h2.swap.mono (by omega))
    exact ⟨A, q, c, z, rfl, x, y', _, _, k1, h6.inv.fit, hg⟩
end
end Go.Proofs.Ytoeilogakfggfaa
