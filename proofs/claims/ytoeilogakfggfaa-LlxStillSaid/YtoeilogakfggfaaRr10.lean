/-
  All states that two threads come to, by tables: what is checked of them, and what follows.
-/
import Derived.Test.YtoeilogakfggfaaRg10
namespace Go.Proofs.Ytoeilogakfggfaa
open Go.ChangeShapes Go.WideShapes Go.ChangeAt Go.RowKit
set_option linter.unusedVariables false
set_option linter.unusedSimpArgs false
set_option maxRecDepth 20000

section
variable {nds : List (Int × Nd)} {M L B k : Nat} {u : Tr (List Int)} {s : Sig} {oa ob : Ts}
theorem RJ.stepG (h : RJ nds M L u s) (hI : Inv L (B + 1) s) (hS : Stt nds M s) : Stt nds M (nxT (.run u) s).2 ∧ Inv L B (nxT (.run u) s).2 ∧ Le s (nxT (.run u) s).2 ∧ ∀ u', (nxT (.run u) s).1 = .run u' → RJ nds M L u' (nxT (.run u) s).2 := by
  cases u with
  | ret v => exact ⟨hS, hI.mono (by omega), Le.refl s, fun u' e => by cases e⟩
  | lk n K => exact h.nl.elim
  | tch g K =>
    have hi := h.tj.1 B s hI hS
    have h1 := h.tj.2 _ hi.2
    have h2 := h.kp.2 (g s).1
    have hg := h.gd s (Le.refl s)
    have hS2 := h.kp.1 s hS
    refine ⟨hS2, hi.1, hg.1, fun u' e => ?_⟩
    have h4 := RJ.begin_ h1 h2 hg.2 hS2
    have e : ofTr (nrm (K (g s).1) (g s).2) = .run u' := e
    cases hK : nrm (K (g s).1) (g s).2 with
    | ret v => rw [hK] at e; cases e
    | tch g' K' =>
      rw [hK] at e h4
      injection e with e
      rw [← e]; exact h4
    | lk n K' =>
      have hn2 := nl_nrm (K (g s).1) (g s).2
      rw [hK] at hn2; exact hn2.elim
/-- What holds of two threads all along. -/
structure RP (k B : Nat) (oa ob : Ts) (s : Sig) : Prop where
  stt : Stt (ndsN k) 40 s
  inv : Inv 2 B s
  ra : ∀ u, oa = .run u → RJ (ndsN k) 40 2 u s
  rb : ∀ u, ob = .run u → RJ (ndsN k) 40 2 u s
theorem RP.swap (h : RP k B oa ob s) : RP k B ob oa s := ⟨h.stt, h.inv, h.rb, h.ra⟩
theorem RP.step (h : RP k (B + 1) oa ob s) : RP k B (nxT oa s).1 ob (nxT oa s).2 := by
  cases oa with
  | fin b => exact ⟨h.stt, h.inv.mono (by omega), (fun u e => by cases e), h.rb⟩
  | run u =>
    obtain ⟨h1, h2, h3, h4⟩ := (h.ra u rfl).stepG h.inv h.stt
    exact ⟨h1, h2, h4, fun u' e => (h.rb u' e).le h3⟩
theorem RP.stO (h : RP k B oa ob s) : stO oa s := by
  cases oa with
  | fin b => exact trivial
  | run u => exact (h.ra u rfl).stO
end
/-- A state: both threads, what is shared; where each thread's Step stands in its table, and among the next states. -/
abbrev Ent := Nat × Nat × Nat × Nat × Nat × Nat × Nat
abbrev Row4 := Nat × Nat × Nat × Nat
abbrev Loc := List Int × Nat × Int
def fnd {α : Type} (l : List (List α)) (r : Nat) : Option α := match l[r / 60]? with
  | some c => c[r % 60]?
  | none => none
def locA (tab : List (List Loc)) (x : Nat) : Loc := at2 ([], 0, 0) tab x
def okE (tab : List (List Loc)) (d : List (List Row4)) (nx : List Ent) (x i r j : Nat) (sel oth : Ent → Nat) (y : Nat) : Bool :=
  if (locA tab x).2.2 = -9 then (match fnd d r with
    | some p => (match nx[j]? with
      | some e' => p.1 == x && (p.2.1 == i && (sel e' == p.2.2.1 && (oth e' == y && e'.2.2.1 == p.2.2.2)))
      | none => false)
    | none => false) else true
def way0 (s : Sig) : Option Int := match s.ar.hit (rfN 0) with
  | some (_, p) => some (wayAt p 0)
  | none => none
def goodE (x y : Int) (w : Option Int) : Bool := if x = 1 then decide (y ≠ 1) && w == some 61 else decide (y = 1) && w == some 62
def finE (tA tB : List (List Loc)) (S : Nat → Sig) (e : Ent) : Bool := if (locA tA e.1).2.2 = -9 then true else if (locA tB e.2.1).2.2 = -9 then true else goodE (locA tA e.1).2.2 (locA tB e.2.1).2.2 (way0 (S e.2.2.1))
def chkE (tA tB : List (List Loc)) (S : Nat → Sig) (dA dB : List (List Row4)) (nx : List Ent) (e : Ent) : Bool :=
  okE tA dA nx e.1 e.2.2.1 e.2.2.2.1 e.2.2.2.2.1 (fun e => e.1) (fun e => e.2.1) e.2.1 && (okE tB dB nx e.2.1 e.2.2.1 e.2.2.2.2.2.1 e.2.2.2.2.2.2 (fun e => e.2.1) (fun e => e.1) e.1 && finE tA tB S e)
def chkL (tA tB : List (List Loc)) (S : Nat → Sig) (dA dB : List (List Row4)) : List (List Ent) → Bool
  | [] => true
  | l :: ls => l.all (chkE tA tB S dA dB (ls.headD [])) && chkL tA tB S dA dB ls
/-- The tables are right. -/
structure TabOk (k : Nat) (ta tb : Tr (List Int)) (tA tB : List (List Loc)) (S : Nat → Sig) (dA dB : List (List Row4)) (ls : List (List Ent)) : Prop where
  a : ∀ c ∈ dA, c.map (fun p => nxT (mkT ta S (locA tA p.1)) (S p.2.1)) = c.map (fun p => (mkT ta S (locA tA p.2.2.1), S p.2.2.2))
  b : ∀ c ∈ dB, c.map (fun p => nxT (mkT tb S (locA tB p.1)) (S p.2.1)) = c.map (fun p => (mkT tb S (locA tB p.2.2.1), S p.2.2.2))
  chk : chkL tA tB S dA dB ls = true
/-- A state that is listed, so many levels ahead of the end. -/
def InL (ta tb : Tr (List Int)) (tA tB : List (List Loc)) (S : Nat → Sig) (dA dB : List (List Row4)) (m : Nat) (oa ob : Ts) (s : Sig) : Prop := ∃ (ls : List (List Ent)) (l : List Ent) (e : Ent), chkL tA tB S dA dB (l :: ls) = true ∧ ls.length ≤ m ∧ e ∈ l ∧ oa = mkT ta S (locA tA e.1) ∧ ob = mkT tb S (locA tB e.2.1) ∧ s = S e.2.2.1
section
variable {k m : Nat} {ta tb : Tr (List Int)} {tA tB : List (List Loc)} {S : Nat → Sig} {dA dB : List (List Row4)} {ls : List (List Ent)} {oa ob : Ts} {s : Sig}
theorem fnd_mem {α : Type} {l : List (List α)} {r : Nat} {p : α} (h : fnd l r = some p) : ∃ c ∈ l, p ∈ c := by
  unfold fnd at h
  cases hc : l[r / 60]? with
  | none => rw [hc] at h; cases h
  | some c => rw [hc] at h; exact ⟨c, List.mem_of_getElem? hc, List.mem_of_getElem? h⟩
theorem mkT_run {t : Tr (List Int)} {e : Loc} (h : e.2.2 = -9) : ∃ u, mkT t S e = .run u := ⟨_, by unfold mkT; rw [if_pos h]⟩
theorem mkT_fin {t : Tr (List Int)} {e : Loc} (h : ¬ e.2.2 = -9) : mkT t S e = .fin [e.2.2] := by unfold mkT; rw [if_neg h]
theorem chkL_at {l : List Ent} {e : Ent} (h : chkL tA tB S dA dB (l :: ls) = true) (he : e ∈ l) : chkE tA tB S dA dB (ls.headD []) e = true ∧ chkL tA tB S dA dB ls = true := by
  simp only [chkL, Bool.and_eq_true] at h
  exact ⟨List.all_eq_true.1 h.1 e he, h.2⟩
theorem okE_step {tab : List (List Loc)} {d : List (List Row4)} {nx : List Ent} {t : Tr (List Int)} {x i r j y : Nat} {sel oth : Ent → Nat} (h : okE tab d nx x i r j sel oth y = true) (hd : ∀ c ∈ d, c.map (fun p => nxT (mkT t S (locA tab p.1)) (S p.2.1)) = c.map (fun p => (mkT t S (locA tab p.2.2.1), S p.2.2.2))) (hr : (locA tab x).2.2 = -9) :
    ∃ e' ∈ nx, nxT (mkT t S (locA tab x)) (S i) = (mkT t S (locA tab (sel e')), S e'.2.2.1) ∧ oth e' = y := by
  unfold okE at h
  rw [if_pos hr] at h
  cases hp : fnd d r with
  | none => rw [hp] at h; cases h
  | some p =>
    rw [hp] at h
    simp only at h
    cases hj : nx[j]? with
    | none => rw [hj] at h; cases h
    | some e' =>
      rw [hj] at h
      simp only [Bool.and_eq_true, beq_iff_eq] at h
      obtain ⟨h1, h2, h3, h4, h5⟩ := h
      obtain ⟨c, hc, hpc⟩ := fnd_mem hp
      have := List.map_eq_map_iff.1 (hd c hc) p hpc
      rw [h1, h2, ← h3, ← h5] at this
      exact ⟨e', List.mem_of_getElem? hj, this, h4⟩
theorem InL.stepA (ha : ∀ c ∈ dA, c.map (fun p => nxT (mkT ta S (locA tA p.1)) (S p.2.1)) = c.map (fun p => (mkT ta S (locA tA p.2.2.1), S p.2.2.2))) (h : InL ta tb tA tB S dA dB m oa ob s) (hr : oa.done = false) : ∃ m', m = m' + 1 ∧ InL ta tb tA tB S dA dB m' (nxT oa s).1 ob (nxT oa s).2 := by
  obtain ⟨ls, l, e, h1, h2, h3, rfl, rfl, rfl⟩ := h
  obtain ⟨h4, h5⟩ := chkL_at h1 h3
  have hrn : (locA tA e.1).2.2 = -9 := by
    by_cases hq : (locA tA e.1).2.2 = -9
    · exact hq
    · rw [mkT_fin hq] at hr; cases hr
  simp only [chkE, Bool.and_eq_true] at h4
  obtain ⟨e', he', hn, ho⟩ := okE_step (sel := fun e => e.1) (oth := fun e => e.2.1) h4.1 ha hrn
  cases ls with
  | nil => cases he'
  | cons l' ls' =>
    refine ⟨m - 1, by simp at h2; omega, ls', l', e', h5, by simp at h2; omega, he', by rw [hn], by rw [← ho], by rw [hn]⟩
theorem InL.stepB (hb : ∀ c ∈ dB, c.map (fun p => nxT (mkT tb S (locA tB p.1)) (S p.2.1)) = c.map (fun p => (mkT tb S (locA tB p.2.2.1), S p.2.2.2))) (h : InL ta tb tA tB S dA dB m oa ob s) (hr : ob.done = false) : ∃ m', m = m' + 1 ∧ InL ta tb tA tB S dA dB m' oa (nxT ob s).1 (nxT ob s).2 := by
  obtain ⟨ls, l, e, h1, h2, h3, rfl, rfl, rfl⟩ := h
  obtain ⟨h4, h5⟩ := chkL_at h1 h3
  have hrn : (locA tB e.2.1).2.2 = -9 := by
    by_cases hq : (locA tB e.2.1).2.2 = -9
    · exact hq
    · rw [mkT_fin hq] at hr; cases hr
  simp only [chkE, Bool.and_eq_true] at h4
  obtain ⟨e', he', hn, ho⟩ := okE_step (sel := fun e => e.2.1) (oth := fun e => e.1) h4.2.1 hb hrn
  cases ls with
  | nil => cases he'
  | cons l' ls' =>
    refine ⟨m - 1, by simp at h2; omega, ls', l', e', h5, by simp at h2; omega, he', by rw [← ho], by rw [hn], by rw [hn]⟩
theorem InL.fin {va vb : List Int} (h : InL ta tb tA tB S dA dB m (.fin va) (.fin vb) s) : ∃ x y, va = [x] ∧ vb = [y] ∧ goodE x y (way0 s) = true := by
  obtain ⟨ls, l, e, h1, h2, h3, ea, eb, rfl⟩ := h
  obtain ⟨h4, h5⟩ := chkL_at h1 h3
  have ha : ¬ (locA tA e.1).2.2 = -9 := fun f => by obtain ⟨u, hu⟩ := mkT_run (S := S) (t := ta) f; rw [hu] at ea; cases ea
  have hb : ¬ (locA tB e.2.1).2.2 = -9 := fun f => by obtain ⟨u, hu⟩ := mkT_run (S := S) (t := tb) f; rw [hu] at eb; cases eb
  rw [mkT_fin ha] at ea
  rw [mkT_fin hb] at eb
  injection ea with ea
  injection eb with eb
  simp only [chkE, Bool.and_eq_true] at h4
  have h6 := h4.2.2
  unfold finE at h6
  rw [if_neg ha, if_neg hb] at h6
  exact ⟨_, _, ea, eb, h6⟩
theorem InL.len {b : List Int} (h : InL ta tb tA tB S dA dB m (.fin b) ob s) : b.length = 1 := by
  obtain ⟨ls, l, e, h1, h2, h3, ea, eb, rfl⟩ := h
  by_cases hq : (locA tA e.1).2.2 = -9
  · obtain ⟨u, hu⟩ := mkT_run (S := S) (t := ta) hq; rw [hu] at ea; cases ea
  · rw [mkT_fin hq] at ea; injection ea with ea; rw [ea]; rfl
theorem InL.lenB {b : List Int} (h : InL ta tb tA tB S dA dB m oa (.fin b) s) : b.length = 1 := by
  obtain ⟨ls, l, e, h1, h2, h3, ea, eb, rfl⟩ := h
  by_cases hq : (locA tB e.2.1).2.2 = -9
  · obtain ⟨u, hu⟩ := mkT_run (S := S) (t := tb) hq; rw [hu] at eb; cases eb
  · rw [mkT_fin hq] at eb; injection eb with eb; rw [eb]; rfl
/-- Alone, the first comes to its end, at a state that is listed. -/
theorem InL.aloneA (ht : TabOk k ta tb tA tB S dA dB ls) : ∀ (m : Nat) (u : Tr (List Int)) (s : Sig), nl u → InL ta tb tA tB S dA dB m (.run u) ob s → (ev u s).2.2 ≤ m + 1 ∧ InL ta tb tA tB S dA dB m (.fin (ev u s).1) ob (ev u s).2.1 := by
  intro m
  induction m with
  | zero =>
    intro u s hn h
    obtain ⟨m', h1, -⟩ := h.stepA ht.a rfl
    omega
  | succ m ih =>
    intro u s hn h
    obtain ⟨m', h1, h2⟩ := h.stepA ht.a rfl
    obtain rfl : m = m' := by omega
    rcases nxT_ev (s := s) hn with ⟨v, s', e1, q1, q2, q3⟩ | ⟨u', s', e1, q0, q1, q2, q3, q4⟩
    · rw [e1] at h2
      obtain ⟨ls, l, e, g1, g2, g3⟩ := h2
      exact ⟨by omega, ls, l, e, g1, by omega, by rw [q1, q2]; exact g3⟩
    · rw [e1] at h2
      obtain ⟨g1, ls, l, e, g2, g3, g4⟩ := ih u' s' q0 h2
      exact ⟨by omega, ls, l, e, g2, by omega, by rw [q1, q2]; exact g4⟩
theorem InL.aloneB (ht : TabOk k ta tb tA tB S dA dB ls) : ∀ (m : Nat) (u : Tr (List Int)) (s : Sig), nl u → InL ta tb tA tB S dA dB m oa (.run u) s → (ev u s).2.2 ≤ m + 1 ∧ InL ta tb tA tB S dA dB m oa (.fin (ev u s).1) (ev u s).2.1 := by
  intro m
  induction m with
  | zero =>
    intro u s hn h
    obtain ⟨m', h1, -⟩ := h.stepB ht.b rfl
    omega
  | succ m ih =>
    intro u s hn h
    obtain ⟨m', h1, h2⟩ := h.stepB ht.b rfl
    obtain rfl : m = m' := by omega
    rcases nxT_ev (s := s) hn with ⟨v, s', e1, q1, q2, q3⟩ | ⟨u', s', e1, q0, q1, q2, q3, q4⟩
    · rw [e1] at h2
      obtain ⟨ls, l, e, g1, g2, g3⟩ := h2
      exact ⟨by omega, ls, l, e, g1, by omega, by rw [q1, q2]; exact g3⟩
    · rw [e1] at h2
      obtain ⟨g1, ls, l, e, g2, g3, g4⟩ := ih u' s' q0 h2
      exact ⟨by omega, ls, l, e, g2, by omega, by rw [q1, q2]; exact g4⟩
end
end Go.Proofs.Ytoeilogakfggfaa
