/-
  Law LlxStale: what each thread is told, and what is left of one that was told something.
-/
import Derived.Test.YtoeilogakfggfaaSl10
import Derived.Test.YtoeilogakfggfaaLS10
namespace Go.Proofs.Ytoeilogakfggfaa
open Go.ChangeShapes Go.WideShapes Go.ChangeAt Go.RowKit
set_option linter.unusedVariables false
set_option linter.unusedSimpArgs false
set_option maxRecDepth 20000

section
variable {nds : List (Int × Nd)} {M L : Nat} {u u' t : Tr (List Int)} {s s' : Sig}
theorem tj_nrm (h : tj nds M L t) (hS : Stt nds M s) : tj nds M L (nrm t s) := by
  induction t with
  | ret v => exact h
  | tch g K ih => exact h
  | lk n K ih => exact ih _ (h _ (hS.rc n).1 (hS.rc n).2)
theorem kpL_nrm (h : kpL nds M t) (hS : Stt nds M s) : kpL nds M (nrm t s) := by
  induction t with
  | ret v => exact h
  | tch g K ih => exact h
  | lk n K ih => exact ih _ (h _ (hS.rc n).1 (hS.rc n).2)
/-- What is left of work: it keeps what the whole kept. -/
structure RJ (nds : List (Int × Nd)) (M L : Nat) (u : Tr (List Int)) (s : Sig) : Prop where
  nl : nl u
  tj : tj nds M L u
  kp : kpL nds M u
  gd : good u s
theorem RJ.begin_ (h1 : Go.Proofs.Ytoeilogakfggfaa.tj nds M L t) (h2 : kpL nds M t) (h3 : good t s) (hS : Stt nds M s) : RJ nds M L (nrm t s) s := ⟨nl_nrm t s, tj_nrm h1 hS, kpL_nrm h2 hS, good_nrm h3⟩
theorem RJ.next (h : RJ nds M L u s) (hI : Inv L 1 s) (hS : Stt nds M s) (e : nxT (.run u) s = (.run u', s)) : RJ nds M L u' s := by
  cases u with
  | ret v => cases e
  | lk n K => exact h.nl.elim
  | tch g K =>
    simp only [nxT] at e
    have h1 := h.tj.2 _ (h.tj.1 0 s hI hS).2
    have h2 := h.kp.2 (g s).1
    have h3 := (h.gd s (Le.refl s)).2
    have hS2 := h.kp.1 s hS
    cases hK : nrm (K (g s).1) (g s).2 with
    | ret v => rw [hK] at e; cases e
    | tch g' K' =>
      have h4 := RJ.begin_ h1 h2 h3 hS2
      rw [hK] at e h4
      injection e with e1 e2
      injection e1 with e1
      rw [← e1, ← e2]
      rw [e2] at h4 ⊢
      exact h4
    | lk n K' =>
      have hn2 := nl_nrm (K (g s).1) (g s).2
      rw [hK] at hn2; exact hn2.elim
theorem RJ.le (h : RJ nds M L u s) (hl : Le s s') : RJ nds M L u s' := ⟨h.nl, h.tj, h.kp, good_le h.gd hl⟩
theorem RJ.stO (h : RJ nds M L u s) : stO (.run u) s := okT_stO (good_okT h.gd) h.nl
end
/-- So many Steps read alone, and none is the last. -/
def runsP (s : Sig) : Nat → Ts → Prop
  | 0, _ => True
  | j + 1, o => (∃ u', nxT o s = (.run u', s)) ∧ runsP s j (nxT o s).1
theorem runsP_at {s : Sig} {m : Nat} {o : Ts} (h : runsP s m o) {j : Nat} (hj : j < m) : ∃ u', nxT (itN s j o) s = (.run u', s) := by
  induction m generalizing o j with
  | zero => omega
  | succ m ih =>
    cases j with
    | zero => exact h.1
    | succ j => exact ih h.2 (by omega)
theorem runsP_rj {nds : List (Int × Nd)} {M L m : Nat} {s : Sig} {u : Tr (List Int)} (h : runsP s m (.run u)) (hr : RJ nds M L u s) (hI : Inv L 1 s) (hS : Stt nds M s) : ∀ j, j ≤ m → ∃ u', itN s j (.run u) = .run u' ∧ RJ nds M L u' s := by
  intro j
  induction j with
  | zero => exact fun _ => ⟨u, rfl, hr⟩
  | succ j ih =>
    intro hj
    obtain ⟨u1, h1, h2⟩ := ih (by omega)
    obtain ⟨u2, h3⟩ := runsP_at h (j := j) (by omega)
    rw [h1] at h3
    exact ⟨u2, by rw [itN_succ, h1, h3], h2.next hI hS h3⟩
def s0L (k : Nat) : Sig := sN 2 k ns0 []
abbrev tLt (k : Nat) : Tr (List Int) := tChange 40 (ndsN k) 1 0 200 50
abbrev tSt (k : Nat) : Tr (List Int) := tStl (ndsN k)
abbrev tQk (i : Nat) : Tr (List Int) := tChange 40 [(rfN i, nodeNd i)] 1 1 (201 + 10 * (i : Int)) 51
def rsd : Ts → Tr (List Int)
  | .run u => u
  | .fin v => .ret v
def oLt (k j : Nat) : Ts := itN (s0L k) j (.run (nrm (tLt k) (s0L k)))
def oSt (k j : Nat) : Ts := itN (s0L k) j (.run (nrm (tSt k) (s0L k)))
def sQk (k i : Nat) : Sig := (ev (tQk i) (s0L k)).2.1
def sLt (k i : Nat) : Sig := (ev (rsd (oLt k (7 * k))) (sQk k i)).2.1
def sSt (k i : Nat) : Sig := (ev (rsd (oSt k (7 * k))) (sLt k i)).2.1
theorem kcases {k : Nat} {Q : Nat → Prop} (h : 1 ≤ k ∧ k ≤ 4) (h1 : Q 1) (h2 : Q 2) (h3 : Q 3) (h4 : Q 4) : Q k := by
  have : k = 1 ∨ k = 2 ∨ k = 3 ∨ k = 4 := by omega
  rcases this with rfl | rfl | rfl | rfl <;> assumption
theorem kicases {k i : Nat} {Q : Nat → Nat → Prop} (h : 1 ≤ k ∧ k ≤ 4) (hi : i < k) (h10 : Q 1 0) (h20 : Q 2 0) (h21 : Q 2 1) (h30 : Q 3 0) (h31 : Q 3 1) (h32 : Q 3 2) (h40 : Q 4 0) (h41 : Q 4 1) (h42 : Q 4 2) (h43 : Q 4 3) : Q k i := by
  have h1 : k = 1 ∨ k = 2 ∨ k = 3 ∨ k = 4 := by omega
  have h2 : i = 0 ∨ i = 1 ∨ i = 2 ∨ i = 3 := by omega
  rcases h1 with rfl | rfl | rfl | rfl <;> rcases h2 with rfl | rfl | rfl | rfl <;> first | assumption | omega
theorem runs_lt {k : Nat} (h : 1 ≤ k ∧ k ≤ 4) : runsP (s0L k) (7 * k) (.run (nrm (tLt k) (s0L k))) := by
  refine kcases (Q := fun k => runsP (s0L k) (7 * k) (.run (nrm (tLt k) (s0L k)))) h ?_ ?_ ?_ ?_
  · exact ⟨⟨_, rfl⟩, ⟨_, rfl⟩, ⟨_, rfl⟩, ⟨_, rfl⟩, ⟨_, rfl⟩, ⟨_, rfl⟩, ⟨_, rfl⟩, trivial⟩
  · exact ⟨⟨_, rfl⟩, ⟨_, rfl⟩, ⟨_, rfl⟩, ⟨_, rfl⟩, ⟨_, rfl⟩, ⟨_, rfl⟩, ⟨_, rfl⟩, ⟨_, rfl⟩, ⟨_, rfl⟩, ⟨_, rfl⟩, ⟨_, rfl⟩, ⟨_, rfl⟩, ⟨_, rfl⟩, ⟨_, rfl⟩, trivial⟩
  · exact ⟨⟨_, rfl⟩, ⟨_, rfl⟩, ⟨_, rfl⟩, ⟨_, rfl⟩, ⟨_, rfl⟩, ⟨_, rfl⟩, ⟨_, rfl⟩, ⟨_, rfl⟩, ⟨_, rfl⟩, ⟨_, rfl⟩, ⟨_, rfl⟩, ⟨_, rfl⟩, ⟨_, rfl⟩, ⟨_, rfl⟩, ⟨_, rfl⟩, ⟨_, rfl⟩, ⟨_, rfl⟩, ⟨_, rfl⟩, ⟨_, rfl⟩, ⟨_, rfl⟩, ⟨_, rfl⟩, trivial⟩
  · exact ⟨⟨_, rfl⟩, ⟨_, rfl⟩, ⟨_, rfl⟩, ⟨_, rfl⟩, ⟨_, rfl⟩, ⟨_, rfl⟩, ⟨_, rfl⟩, ⟨_, rfl⟩, ⟨_, rfl⟩, ⟨_, rfl⟩, ⟨_, rfl⟩, ⟨_, rfl⟩, ⟨_, rfl⟩, ⟨_, rfl⟩, ⟨_, rfl⟩, ⟨_, rfl⟩, ⟨_, rfl⟩, ⟨_, rfl⟩, ⟨_, rfl⟩, ⟨_, rfl⟩, ⟨_, rfl⟩, ⟨_, rfl⟩, ⟨_, rfl⟩, ⟨_, rfl⟩, ⟨_, rfl⟩, ⟨_, rfl⟩, ⟨_, rfl⟩, ⟨_, rfl⟩, trivial⟩
theorem runs_st {k : Nat} (h : 1 ≤ k ∧ k ≤ 4) : runsP (s0L k) (7 * k) (.run (nrm (tSt k) (s0L k))) := by
  refine kcases (Q := fun k => runsP (s0L k) (7 * k) (.run (nrm (tSt k) (s0L k)))) h ?_ ?_ ?_ ?_
  · exact ⟨⟨_, rfl⟩, ⟨_, rfl⟩, ⟨_, rfl⟩, ⟨_, rfl⟩, ⟨_, rfl⟩, ⟨_, rfl⟩, ⟨_, rfl⟩, trivial⟩
  · exact ⟨⟨_, rfl⟩, ⟨_, rfl⟩, ⟨_, rfl⟩, ⟨_, rfl⟩, ⟨_, rfl⟩, ⟨_, rfl⟩, ⟨_, rfl⟩, ⟨_, rfl⟩, ⟨_, rfl⟩, ⟨_, rfl⟩, ⟨_, rfl⟩, ⟨_, rfl⟩, ⟨_, rfl⟩, ⟨_, rfl⟩, trivial⟩
  · exact ⟨⟨_, rfl⟩, ⟨_, rfl⟩, ⟨_, rfl⟩, ⟨_, rfl⟩, ⟨_, rfl⟩, ⟨_, rfl⟩, ⟨_, rfl⟩, ⟨_, rfl⟩, ⟨_, rfl⟩, ⟨_, rfl⟩, ⟨_, rfl⟩, ⟨_, rfl⟩, ⟨_, rfl⟩, ⟨_, rfl⟩, ⟨_, rfl⟩, ⟨_, rfl⟩, ⟨_, rfl⟩, ⟨_, rfl⟩, ⟨_, rfl⟩, ⟨_, rfl⟩, ⟨_, rfl⟩, trivial⟩
  · exact ⟨⟨_, rfl⟩, ⟨_, rfl⟩, ⟨_, rfl⟩, ⟨_, rfl⟩, ⟨_, rfl⟩, ⟨_, rfl⟩, ⟨_, rfl⟩, ⟨_, rfl⟩, ⟨_, rfl⟩, ⟨_, rfl⟩, ⟨_, rfl⟩, ⟨_, rfl⟩, ⟨_, rfl⟩, ⟨_, rfl⟩, ⟨_, rfl⟩, ⟨_, rfl⟩, ⟨_, rfl⟩, ⟨_, rfl⟩, ⟨_, rfl⟩, ⟨_, rfl⟩, ⟨_, rfl⟩, ⟨_, rfl⟩, ⟨_, rfl⟩, ⟨_, rfl⟩, ⟨_, rfl⟩, ⟨_, rfl⟩, ⟨_, rfl⟩, ⟨_, rfl⟩, trivial⟩
theorem ev_qk {k i : Nat} (h : 1 ≤ k ∧ k ≤ 4) (hi : i < k) : (ev (tQk i) (s0L k)).1 = [1] ∧ (ev (tQk i) (s0L k)).2.2 ≤ 40 :=
  kicases (Q := fun k i => (ev (tQk i) (s0L k)).1 = [1] ∧ (ev (tQk i) (s0L k)).2.2 ≤ 40) h hi (⟨rfl, Nat.le_of_ble_eq_true rfl⟩) (⟨rfl, Nat.le_of_ble_eq_true rfl⟩) (⟨rfl, Nat.le_of_ble_eq_true rfl⟩) (⟨rfl, Nat.le_of_ble_eq_true rfl⟩) (⟨rfl, Nat.le_of_ble_eq_true rfl⟩) (⟨rfl, Nat.le_of_ble_eq_true rfl⟩) (⟨rfl, Nat.le_of_ble_eq_true rfl⟩) (⟨rfl, Nat.le_of_ble_eq_true rfl⟩) (⟨rfl, Nat.le_of_ble_eq_true rfl⟩) (⟨rfl, Nat.le_of_ble_eq_true rfl⟩)
theorem ev_lt {k i : Nat} (h : 1 ≤ k ∧ k ≤ 4) (hi : i < k) : (ev (rsd (oLt k (7 * k))) (sQk k i)).1 = [0] ∧ (ev (rsd (oLt k (7 * k))) (sQk k i)).2.2 ≤ 60 :=
  kicases (Q := fun k i => (ev (rsd (oLt k (7 * k))) (sQk k i)).1 = [0] ∧ (ev (rsd (oLt k (7 * k))) (sQk k i)).2.2 ≤ 60) h hi (⟨rfl, Nat.le_of_ble_eq_true rfl⟩) (⟨rfl, Nat.le_of_ble_eq_true rfl⟩) (⟨rfl, Nat.le_of_ble_eq_true rfl⟩) (⟨rfl, Nat.le_of_ble_eq_true rfl⟩) (⟨rfl, Nat.le_of_ble_eq_true rfl⟩) (⟨rfl, Nat.le_of_ble_eq_true rfl⟩) (⟨rfl, Nat.le_of_ble_eq_true rfl⟩) (⟨rfl, Nat.le_of_ble_eq_true rfl⟩) (⟨rfl, Nat.le_of_ble_eq_true rfl⟩) (⟨rfl, Nat.le_of_ble_eq_true rfl⟩)
theorem ev_st {k i : Nat} (h : 1 ≤ k ∧ k ≤ 4) (hi : i < k) : (ev (rsd (oSt k (7 * k))) (sLt k i)).1 = [1] ∧ (ev (rsd (oSt k (7 * k))) (sLt k i)).2.2 ≤ 60 :=
  kicases (Q := fun k i => (ev (rsd (oSt k (7 * k))) (sLt k i)).1 = [1] ∧ (ev (rsd (oSt k (7 * k))) (sLt k i)).2.2 ≤ 60) h hi (⟨rfl, Nat.le_of_ble_eq_true rfl⟩) (⟨rfl, Nat.le_of_ble_eq_true rfl⟩) (⟨rfl, Nat.le_of_ble_eq_true rfl⟩) (⟨rfl, Nat.le_of_ble_eq_true rfl⟩) (⟨rfl, Nat.le_of_ble_eq_true rfl⟩) (⟨rfl, Nat.le_of_ble_eq_true rfl⟩) (⟨rfl, Nat.le_of_ble_eq_true rfl⟩) (⟨rfl, Nat.le_of_ble_eq_true rfl⟩) (⟨rfl, Nat.le_of_ble_eq_true rfl⟩) (⟨rfl, Nat.le_of_ble_eq_true rfl⟩)
theorem end_st {k i : Nat} (h : 1 ≤ k ∧ k ≤ 4) (hi : i < k) : (∃ p, (sSt k i).ar.hit (rfN 0) = some (2, p) ∧ wayAt p 0 = 200) ∧ (∃ p, (sSt k i).ar.hit (rfN i) = some (2 + i, p) ∧ wayAt p 1 = 51) ∧ ∃ j x, rcAt (sSt k i).rs 2 = some (j, x) ∧ x.st = 0 :=
  kicases (Q := fun k i => (∃ p, (sSt k i).ar.hit (rfN 0) = some (2, p) ∧ wayAt p 0 = 200) ∧ (∃ p, (sSt k i).ar.hit (rfN i) = some (2 + i, p) ∧ wayAt p 1 = 51) ∧ ∃ j x, rcAt (sSt k i).rs 2 = some (j, x) ∧ x.st = 0) h hi (⟨⟨_, rfl, rfl⟩, ⟨_, rfl, rfl⟩, _, _, rfl, rfl⟩) (⟨⟨_, rfl, rfl⟩, ⟨_, rfl, rfl⟩, _, _, rfl, rfl⟩) (⟨⟨_, rfl, rfl⟩, ⟨_, rfl, rfl⟩, _, _, rfl, rfl⟩) (⟨⟨_, rfl, rfl⟩, ⟨_, rfl, rfl⟩, _, _, rfl, rfl⟩) (⟨⟨_, rfl, rfl⟩, ⟨_, rfl, rfl⟩, _, _, rfl, rfl⟩) (⟨⟨_, rfl, rfl⟩, ⟨_, rfl, rfl⟩, _, _, rfl, rfl⟩) (⟨⟨_, rfl, rfl⟩, ⟨_, rfl, rfl⟩, _, _, rfl, rfl⟩) (⟨⟨_, rfl, rfl⟩, ⟨_, rfl, rfl⟩, _, _, rfl, rfl⟩) (⟨⟨_, rfl, rfl⟩, ⟨_, rfl, rfl⟩, _, _, rfl, rfl⟩) (⟨⟨_, rfl, rfl⟩, ⟨_, rfl, rfl⟩, _, _, rfl, rfl⟩)
end Go.Proofs.Ytoeilogakfggfaa
