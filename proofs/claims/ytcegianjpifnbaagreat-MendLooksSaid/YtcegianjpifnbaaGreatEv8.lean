/-
  What Begin comes to, alone: which touches, and what all share behind them. No function of the program in sight.
-/
import Derived.Test.YtcegianjpifnbaaGreatPg
namespace Go.Proofs.YtcegianjpifnbaaGreat
set_option linter.unusedVariables false
set_option linter.unusedSimpArgs false
set_option maxRecDepth 20000

/-- Did each of r threads from j on announce now, or nothing? -/
def allB (now : Int) (S : List Tq) : Nat → Nat → Bool
  | 0, _ => true
  | r + 1, j => if saidOf S j ≠ now ∧ saidOf S j ≠ -1 then false else allB now S r (j + 1)
/-- How many were asked. -/
def allN (now : Int) (S : List Tq) : Nat → Nat → Nat
  | 0, _ => 0
  | r + 1, j => if saidOf S j ≠ now ∧ saidOf S j ≠ -1 then 1 else allN now S r (j + 1) + 1
section
variable {s : Sig} {now n : Int} {N L i : Nat}
theorem ev_tAll (now : Int) (r j : Nat) (s : Sig) : ev (tAll now r j) s = (allB now s.S r j, s, allN now s.S r j) := by
  induction r generalizing j with
  | zero => rfl
  | succ r ih =>
    have e1 : (gSaid j s).1 = saidOf s.S j := rfl
    have e2 : (gSaid j s).2 = s := rfl
    simp only [tAll, ev]
    rw [e2]
    simp only [e1, allB, allN]
    by_cases h : saidOf s.S j ≠ now ∧ saidOf s.S j ≠ -1
    · rw [if_pos h, if_pos h, if_pos h]; rfl
    · rw [if_neg h, if_neg h, if_neg h, ih]
theorem ev_tSwap (b : Bool) (now : Int) (s : Sig) (h : s.now = now) : ev (tSwap b now) s = ((), if b then { s with now := now + 1 } else s, if b then 1 else 0) := by
  cases b with
  | false => rfl
  | true => simp only [tSwap, if_true, ev, gSwap, h]
theorem say_now (i : Nat) (z : Int) (s : Sig) : (gSay i z s).2.now = s.now := rfl
theorem say_ar (i : Nat) (z : Int) (s : Sig) : (gSay i z s).2.ar = s.ar := rfl
/-- What all share behind Begin's first touches. -/
def bgS (L i : Nat) (s : Sig) : Sig := if allB s.now (gSay i s.now s).2.S L 0 then { (gSay i s.now s).2 with now := s.now + 1 } else (gSay i s.now s).2
def bgN (L i : Nat) (s : Sig) : Nat := 3 + allN s.now (gSay i s.now s).2.S L 0 + if allB s.now (gSay i s.now s).2.S L 0 then 1 else 0
theorem ev_tBegin (N L i : Nat) (s : Sig) : ev (tBegin N L i) s = ((), (ev (tFree i (bgS L i s).now N) (bgS L i s)).2.1, bgN L i s + (ev (tFree i (bgS L i s).now N) (bgS L i s)).2.2) := by
  simp only [tBegin, ev, gNow, ev_bind, ev_tAll]
  rw [ev_tSwap _ _ _ (say_now i s.now s)]
  have e : (if allB s.now (gSay i s.now s).2.S L 0 = true then { (gSay i s.now s).2 with now := s.now + 1 } else (gSay i s.now s).2) = bgS L i s := rfl
  simp only [e]
  refine Prod.ext rfl (Prod.ext rfl ?_)
  simp only [bgN]
  omega
/-- Nothing waits. -/
theorem ev_tFree0 (i : Nat) (n : Int) (N : Nat) (s : Sig) (h : ∀ x, s.S[i]? = some x → x.2 = []) : ev (tFree i n (N + 1)) s = ((), s, 1) := by
  have e : gRdy i n s = (0, s) := by
    unfold gRdy
    split
    · rename_i y p q hx; have := h _ hx; cases this
    · rfl
  have e2 : gReady i n s = (0, s) := by simp only [gReady, e, if_true]
  simp only [tFree, ev, e2, if_true]
theorem said_at (i : Nat) (z : Int) (S : List Tq) (j : Nat) : (setSaid S i z)[j]? = if i = j then (S[j]?).map fun x => (z, x.2) else S[j]? := by
  unfold setSaid
  cases h : S[i]? with
  | none =>
    simp only
    split
    · rename_i e; subst e; rw [h]; rfl
    · rfl
  | some x =>
    simp only
    rw [List.getElem?_set]
    split
    · rename_i e
      subst e
      have := (List.getElem?_eq_some_iff.1 h).1
      rw [if_pos this, h]; rfl
    · rfl
theorem bgS_S (L i : Nat) (s : Sig) : (bgS L i s).S = setSaid s.S i s.now := by unfold bgS; split <;> rfl
theorem bgS_ar (L i : Nat) (s : Sig) : (bgS L i s).ar = s.ar := by unfold bgS; split <;> rfl
theorem bgS_now (L i : Nat) (s : Sig) : (bgS L i s).now = s.now + (if allB s.now (gSay i s.now s).2.S L 0 then 1 else 0) := by unfold bgS; split <;> simp [gSay]
theorem saidOf_set (i : Nat) (z : Int) (S : List Tq) (j : Nat) (hi : i < S.length) : saidOf (setSaid S i z) j = if i = j then z else saidOf S j := by
  unfold saidOf
  rw [said_at]
  by_cases e : i = j
  · subst e
    rw [if_pos rfl, if_pos rfl, List.getElem?_eq_getElem hi]; rfl
  · rw [if_neg e, if_neg e]
/-- Begin of a thread that let nothing go. -/
theorem ev_begin0 (N L i : Nat) (s : Sig) (h : ∀ x, s.S[i]? = some x → x.2 = []) : ev (tBegin (N + 1) L i) s = ((), bgS L i s, bgN L i s + 1) := by
  rw [ev_tBegin, ev_tFree0]
  intro x hx
  rw [bgS_S, said_at, if_pos rfl] at hx
  cases hs : s.S[i]? with
  | none => rw [hs] at hx; cases hx
  | some y =>
    rw [hs] at hx
    simp at hx
    subst hx
    exact h y hs
theorem new_empty (m L : Nat) (i : Nat) : ∀ x, (newSig m L).S[i]? = some x → x.2 = [] := by
  intro x hx
  have := List.mem_of_getElem? hx
  obtain ⟨_, rfl⟩ := List.mem_replicate.1 this
  rfl
end
end Go.Proofs.YtcegianjpifnbaaGreat
