/-
  Threads that begin and end, in any order of their touches: where each is, and what holds of all. No function of the program in sight.
-/
import Derived.Test.YtmnbdhngadjmiaaLawE
namespace Go.Proofs.Ytmnbdhngadjmiaa
set_option linter.unusedVariables false
set_option linter.unusedSimpArgs false
set_option maxRecDepth 20000

/-- Where a thread is that begins and ends: at its first touch; it read the epoch e; it announced e and has passed j threads; it is behind that; it read the epoch again; it is at its last touch. -/
inductive Pc where
  | p0
  | p1 (e : Int)
  | p2 (e : Int) (j : Nat)
  | p3 (e : Int)
  | p4 (e n : Int)
  | p5 (e : Int)
def trP (L k : Nat) : Pc → Tr Unit
  | .p0 => tBE 1000 L k
  | .p1 e => (kSay 1000 L k e).bind fun _ => tEnd k
  | .p2 e j => ((tAll e (L - j) j).bind fun b => kAll 1000 k e b).bind fun _ => tEnd k
  | .p3 _ => (kNow 1000 k).bind fun _ => tEnd k
  | .p4 _ n => (tFree k n 1000).bind fun _ => tEnd k
  | .p5 _ => tEnd k
def ann : Pc → Int
  | .p0 => -1
  | .p1 _ => -1
  | .p2 e _ => e
  | .p3 e => e
  | .p4 e _ => e
  | .p5 e => e
def annO : Option Pc → Int
  | none => -1
  | some p => ann p
/-- What a Step makes of where a thread is, and of what all share. -/
def nxP (L k : Nat) : Pc → Sig → Option Pc × Sig
  | .p0, s => (some (.p1 s.now), s)
  | .p1 e, s => (some (.p2 e 0), (gSay k e s).2)
  | .p2 e j, s => if j < L then (if saidOf s.S j ≠ e ∧ saidOf s.S j ≠ -1 then (some (.p3 e), s) else (some (.p2 e (j + 1)), s)) else (some (.p3 e), (gSwap e s).2)
  | .p3 e, s => (some (.p4 e s.now), s)
  | .p4 e _, s => (some (.p5 e), s)
  | .p5 _, s => (none, (gSay k (-1) s).2)
/-- p2 passes no more threads than there are. -/
def okP (L : Nat) : Pc → Prop
  | .p2 _ j => j ≤ L
  | _ => True
section
variable {L k : Nat} {s : Sig}
theorem tch_tAll (e : Int) (L j : Nat) (h : j < L) : tAll e (L - j) j = .tch (gSaid j) fun z => if z ≠ e ∧ z ≠ -1 then .ret false else tAll e (L - (j + 1)) (j + 1) := by
  obtain ⟨r, hr⟩ : ∃ r, L - j = r + 1 := ⟨L - j - 1, by omega⟩
  rw [hr, tAll, show L - (j + 1) = r from by omega]
theorem trP_tch (pc : Pc) (hL : 1 ≤ L) (hok : okP L pc) : ∃ g K, trP L k pc = .tch g K := by
  cases pc with
  | p0 => exact ⟨_, _, rfl⟩
  | p1 e => exact ⟨_, _, rfl⟩
  | p2 e j =>
    by_cases hj : j < L
    · simp only [trP]; rw [tch_tAll e L j hj]; exact ⟨_, _, rfl⟩
    · have hjL : j = L := by have : j ≤ L := hok; omega
      subst hjL
      simp only [trP]; rw [Nat.sub_self]; exact ⟨_, _, rfl⟩
  | p3 e => exact ⟨_, _, rfl⟩
  | p4 e n => exact ⟨_, _, rfl⟩
  | p5 e => exact ⟨_, _, rfl⟩
theorem stp_more' {g : Sig → Int × Sig} {K : Int → Tr Unit} {g' : Sig → Int × Sig} {K' : Int → Tr Unit} (h : K (g s).1 = .tch g' K') : stp (.tch g K) s = .more (g s).1 (g s).2 := by
  simp only [stp, h]
/-- A Step as a tree's touch. -/
theorem stp_P (pc : Pc) (hL : 1 ≤ L) (hok : okP L pc) (hq : ∀ x, s.S[k]? = some x → x.2 = []) :
    (∃ pc' g K, nxP L k pc s = (some pc', (g s).2) ∧ trP L k pc = .tch g K ∧ K (g s).1 = trP L k pc' ∧ stp (trP L k pc) s = .more (g s).1 (g s).2) ∨
    (∃ s', nxP L k pc s = (none, s') ∧ stp (trP L k pc) s = .done () s') := by
  have key : ∀ pc' g K, okP L pc' → nxP L k pc s = (some pc', (g s).2) → trP L k pc = .tch g K → K (g s).1 = trP L k pc' → ∃ pc' g K, nxP L k pc s = (some pc', (g s).2) ∧ trP L k pc = .tch g K ∧ K (g s).1 = trP L k pc' ∧ stp (trP L k pc) s = .more (g s).1 (g s).2 := by
    intro pc' g K h1 h2 h3 h4
    obtain ⟨g', K', h5⟩ := trP_tch (k := k) pc' hL h1
    exact ⟨pc', g, K, h2, h3, h4, by rw [h3]; exact stp_more' (h4.trans h5)⟩
  cases pc with
  | p0 => exact .inl (key (.p1 s.now) gNow _ trivial rfl rfl rfl)
  | p1 e => exact .inl (key (.p2 e 0) (gSay k e) _ (Nat.zero_le _) rfl rfl rfl)
  | p2 e j =>
    by_cases hj : j < L
    · have h3 : trP L k (.p2 e j) = .tch (gSaid j) (fun z => ((if z ≠ e ∧ z ≠ -1 then .ret false else tAll e (L - (j + 1)) (j + 1) : Tr Bool).bind fun b => kAll 1000 k e b).bind fun _ => tEnd k) := by
        simp only [trP]; rw [tch_tAll e L j hj]; rfl
      have e1 : (gSaid j s).1 = saidOf s.S j := rfl
      by_cases hz : saidOf s.S j ≠ e ∧ saidOf s.S j ≠ -1
      · refine .inl (key (.p3 e) (gSaid j) _ trivial ?_ h3 ?_)
        · simp only [nxP]; rw [if_pos hj, if_pos hz]; rfl
        · rw [e1, if_pos hz]; rfl
      · refine .inl (key (.p2 e (j + 1)) (gSaid j) _ (by show j + 1 ≤ L; omega) ?_ h3 ?_)
        · simp only [nxP]; rw [if_pos hj, if_neg hz]; rfl
        · rw [e1, if_neg hz]; rfl
    · have hjL : j = L := by have : j ≤ L := hok; omega
      subst hjL
      refine .inl (key (.p3 e) (gSwap e) (fun _ => (kNow 1000 k).bind fun _ => tEnd k) trivial ?_ ?_ rfl)
      · simp only [nxP]; rw [if_neg hj]
      · simp only [trP]; rw [Nat.sub_self]; rfl
  | p3 e => exact .inl (key (.p4 e s.now) gNow _ trivial rfl rfl rfl)
  | p4 e n =>
    have e1 : gRdy k n s = (0, s) := by
      unfold gRdy
      split
      · rename_i y p q hx; have := hq _ hx; cases this
      · rfl
    have e2 : gReady k n s = (0, s) := by simp only [gReady, e1, if_true]
    refine .inl (key (.p5 e) (gReady k n) (fun z => (if z = 0 then .ret () else tFree k n 999 : Tr Unit).bind fun _ => tEnd k) trivial ?_ rfl ?_)
    · simp only [nxP, e2]
    · rw [e2]; rfl
  | p5 e => exact .inr ⟨_, rfl, rfl⟩
end

/-- Thread i is elsewhere. -/
def upd {α : Type} (f : Nat → α) (i : Nat) (x : α) : Nat → α := fun k => if k = i then x else f k
theorem upd_at {α : Type} (f : Nat → α) (i : Nat) (x : α) : upd f i x i = x := if_pos rfl
theorem upd_ne {α : Type} (f : Nat → α) {i k : Nat} (x : α) (h : k ≠ i) : upd f i x k = f k := if_neg h
/-- What each announced. -/
def annS8 (L : Nat) (f : Nat → Int) : List Tq := (List.range L).map fun k => (f k, [])
theorem annS8_at {L k : Nat} (f : Nat → Int) (h : k < L) : (annS8 L f)[k]? = some (f k, []) := by simp [annS8, h]
theorem annS8_said {L k : Nat} (f : Nat → Int) (h : k < L) : saidOf (annS8 L f) k = f k := by unfold saidOf; rw [annS8_at f h]
theorem annS8_set {L i : Nat} (f : Nat → Int) (h : i < L) (z : Int) : setSaid (annS8 L f) i z = annS8 L (upd f i z) := by
  apply List.ext_getElem?
  intro j
  rw [said_at]
  by_cases hj : j < L
  · rw [annS8_at _ hj, annS8_at _ hj]
    by_cases e : i = j
    · subst e; rw [if_pos rfl, upd_at]; rfl
    · rw [if_neg e, upd_ne f z (fun h => e h.symm)]
  · have e1 : (annS8 L f)[j]? = none := by simp [annS8]; omega
    have e2 : (annS8 L (upd f i z))[j]? = none := by simp [annS8]; omega
    rw [e1, e2]
    split <;> rfl
theorem upd_ann (pcs : Nat → Option Pc) (i : Nat) (o : Option Pc) : (fun k => annO (upd pcs i o k)) = upd (fun k => annO (pcs k)) i (annO o) := by
  funext k
  unfold upd
  split <;> rfl
theorem upd_same {α : Type} (f : Nat → α) (i : Nat) : upd f i (f i) = f := by funext k; unfold upd; split; (rename_i h; rw [h]); rfl
/-- What a thread read. -/
def readP : Pc → Option Int
  | .p0 => none
  | .p1 e => some e
  | .p2 e _ => some e
  | .p3 e => some e
  | .p4 e _ => some e
  | .p5 e => some e
/-- What holds of all. -/
structure Jn (L : Nat) (pcs : Nat → Option Pc) (since : Nat → Int) (T : Nat) (s : Sig) : Prop where
  S : s.S = annS8 L fun k => annO (pcs k)
  ar : s.ar = (newSig 5 L).ar
  now : 0 ≤ s.now ∧ s.now ≤ T
  rd : ∀ k, k < L → ∀ pc, pcs k = some pc → okP L pc ∧ ∀ e, readP pc = some e → 0 ≤ e ∧ e ≤ s.now
  snc : ∀ k, k < L → annO (pcs k) ≠ -1 → annO (pcs k) ≤ since k ∧ since k ≤ s.now ∧ s.now ≤ since k + 1
  pass : ∀ j, j < L → ∀ e c, pcs j = some (.p2 e c) → e = s.now → ∀ k, k < c → k < L → annO (pcs k) ≠ -1 → since k = s.now
  big : ∀ k, 0 ≤ since k ∧ since k ≤ T
/-- What the law keeps as since. -/
def since' (pcs : Nat → Option Pc) (since : Nat → Int) (i : Nat) (o : Option Pc) (n : Int) : Nat → Int := if annO (pcs i) = -1 ∧ annO o ≠ -1 then upd since i n else since
section
variable {L T i : Nat} {pcs : Nat → Option Pc} {since : Nat → Int} {s : Sig}
theorem Jn.start (h : Jn L pcs since T s) (hi : pcs i = none) : Jn L (upd pcs i (some .p0)) since T s := by
  have ha : (fun k => annO (upd pcs i (some .p0) k)) = fun k => annO (pcs k) := by
    rw [upd_ann]
    have : annO (some .p0) = annO (pcs i) := by rw [hi]; rfl
    rw [this]
    exact upd_same (fun k => annO (pcs k)) i
  have hk : ∀ k, annO (upd pcs i (some .p0) k) = annO (pcs k) := fun k => congrFun ha k
  refine ⟨by rw [ha]; exact h.S, h.ar, h.now, ?_, ?_, ?_, h.big⟩
  · intro k hkL pc hpc
    by_cases e : k = i
    · subst e
      rw [upd_at] at hpc
      injection hpc with hpc
      subst hpc
      exact ⟨trivial, fun e he => by cases he⟩
    · rw [upd_ne _ _ e] at hpc
      exact h.rd k hkL pc hpc
  · intro k hkL hn
    rw [hk] at hn ⊢
    exact h.snc k hkL hn
  · intro j hj e c hp he k hkc hkL hn
    rw [hk] at hn
    by_cases e1 : j = i
    · subst e1
      rw [upd_at] at hp
      cases hp
    · rw [upd_ne _ _ e1] at hp
      exact h.pass j hj e c hp he k hkc hkL hn
/-- A Step that neither announces, nor goes on with the epoch, and passes nobody. -/
theorem Jn.quiet (h : Jn L pcs since T s) {pc pc' : Pc} (hi : pcs i = some pc) (ha : ann pc' = ann pc) (hok : okP L pc') (hr : ∀ e, readP pc' = some e → 0 ≤ e ∧ e ≤ s.now) (hp : ∀ e c, pc' = .p2 e c → e = s.now → ∀ k, k < c → k < L → annO (pcs k) ≠ -1 → since k = s.now) :
    Jn L (upd pcs i (some pc')) since (T + 1) s := by
  have ha : (fun k => annO (upd pcs i (some pc') k)) = fun k => annO (pcs k) := by
    rw [upd_ann]
    have : annO (some pc') = annO (pcs i) := by rw [hi]; exact ha
    rw [this]
    exact upd_same (fun k => annO (pcs k)) i
  have hk : ∀ k, annO (upd pcs i (some pc') k) = annO (pcs k) := fun k => congrFun ha k
  refine ⟨by rw [ha]; exact h.S, h.ar, by have := h.now; omega, ?_, ?_, ?_, fun k => by have := h.big k; omega⟩
  · intro k hkL q hq
    by_cases e : k = i
    · subst e
      rw [upd_at] at hq
      injection hq with hq
      subst hq
      exact ⟨hok, hr⟩
    · rw [upd_ne _ _ e] at hq
      exact h.rd k hkL q hq
  · intro k hkL hn
    rw [hk] at hn ⊢
    exact h.snc k hkL hn
  · intro j hj e c hpp he k hkc hkL hn
    rw [hk] at hn
    by_cases e1 : j = i
    · subst e1
      rw [upd_at] at hpp
      injection hpp with hpp
      exact hp e c hpp he k hkc hkL hn
    · rw [upd_ne _ _ e1] at hpp
      exact h.pass j hj e c hpp he k hkc hkL hn
theorem Jn.step (h : Jn L pcs since T s) (hiL : i < L) {pc : Pc} (hi : pcs i = some pc) :
    Jn L (upd pcs i (nxP L i pc s).1) (since' pcs since i (nxP L i pc s).1 (nxP L i pc s).2.now) (T + 1) (nxP L i pc s).2 := by
  obtain ⟨hok, hrd⟩ := h.rd i hiL pc hi
  have hq : ∀ pc', ann pc' = ann pc → since' pcs since i (some pc') s.now = since := fun pc' e => by
    unfold since'
    rw [if_neg]
    rintro ⟨e1, e2⟩
    rw [hi] at e1
    exact e2 (e.trans e1)
  cases pc with
  | p0 =>
    simp only [nxP]
    rw [hq (.p1 s.now) rfl]
    exact h.quiet hi rfl trivial (fun e he => by injection he with he; have := h.now; omega) (fun e c hc => by cases hc)
  | p1 e =>
    have he := hrd e rfl
    have hne : e ≠ -1 := by omega
    have hs : since' pcs since i (some (.p2 e 0)) s.now = upd since i s.now := by
      unfold since'
      rw [if_pos]
      exact ⟨by rw [hi]; rfl, hne⟩
    simp only [nxP]
    show Jn L (upd pcs i (some (.p2 e 0))) (since' pcs since i (some (.p2 e 0)) s.now) (T + 1) _
    rw [hs]
    have hn := h.now
    refine ⟨?_, h.ar, by show 0 ≤ s.now ∧ s.now ≤ ((T + 1 : Nat) : Int); omega, ?_, ?_, ?_, ?_⟩
    · show setSaid s.S i e = _
      rw [h.S, annS8_set _ hiL, upd_ann]
      rfl
    · intro k hkL q hq'
      show okP L q ∧ ∀ e, readP q = some e → 0 ≤ e ∧ e ≤ s.now
      by_cases e1 : k = i
      · subst e1
        rw [upd_at] at hq'
        injection hq' with hq'
        subst hq'
        exact ⟨Nat.zero_le _, fun e' he' => by injection he' with he'; subst he'; exact he⟩
      · rw [upd_ne _ _ e1] at hq'
        exact h.rd k hkL q hq'
    · intro k hkL hann
      show annO (upd pcs i (some (.p2 e 0)) k) ≤ upd since i s.now k ∧ upd since i s.now k ≤ s.now ∧ s.now ≤ upd since i s.now k + 1
      by_cases e1 : k = i
      · subst e1
        rw [upd_at, upd_at]
        show e ≤ s.now ∧ _
        omega
      · rw [upd_ne _ _ e1] at hann ⊢
        rw [upd_ne _ _ e1]
        exact h.snc k hkL hann
    · intro j hj e' c hp he' k hkc hkL hann
      have he' : e' = s.now := he'
      show upd since i s.now k = s.now
      by_cases e1 : k = i
      · subst e1; rw [upd_at]
      · rw [upd_ne _ _ e1] at hann ⊢
        by_cases e2 : j = i
        · subst e2
          rw [upd_at] at hp
          injection hp with hp
          injection hp with _ hp
          omega
        · rw [upd_ne _ _ e2] at hp
          exact h.pass j hj e' c hp he' k hkc hkL hann
    · intro k
      by_cases e1 : k = i
      · subst e1; rw [upd_at]; omega
      · rw [upd_ne _ _ e1]; have := h.big k; omega
  | p2 e j =>
    have he := hrd e rfl
    by_cases hj : j < L
    · by_cases hz : saidOf s.S j ≠ e ∧ saidOf s.S j ≠ -1
      · have e0 : nxP L i (.p2 e j) s = (some (.p3 e), s) := by simp only [nxP]; rw [if_pos hj, if_pos hz]
        rw [e0]
        simp only
        rw [hq (.p3 e) rfl]
        exact h.quiet hi rfl trivial (fun e' he' => by injection he' with he'; subst he'; exact he) (fun e c hc => by cases hc)
      · have e0 : nxP L i (.p2 e j) s = (some (.p2 e (j + 1)), s) := by simp only [nxP]; rw [if_pos hj, if_neg hz]
        rw [e0]
        simp only
        rw [hq (.p2 e (j + 1)) rfl]
        refine h.quiet hi rfl (by show j + 1 ≤ L; omega) (fun e' he' => by injection he' with he'; subst he'; exact he) ?_
        intro e' c hc he' k hkc hkL hann
        injection hc with hc1 hc2
        subst hc1 hc2
        by_cases e1 : k < j
        · exact h.pass i hiL e j hi he' k e1 hkL hann
        · have hkj : k = j := by omega
          subst hkj
          have hsd : saidOf s.S k = annO (pcs k) := by rw [h.S]; exact annS8_said _ hkL
          rw [hsd] at hz
          have hee : annO (pcs k) = e := by
            by_cases e3 : annO (pcs k) = e
            · exact e3
            · exact absurd ⟨e3, hann⟩ hz
          have := h.snc k hkL hann
          omega
    · have e0 : nxP L i (.p2 e j) s = (some (.p3 e), (gSwap e s).2) := by simp only [nxP]; rw [if_neg hj]
      rw [e0]
      simp only
      by_cases hn : s.now = e
      · have e1 : (gSwap e s).2 = { s with now := e + 1 } := by unfold gSwap; rw [if_pos hn]
        rw [e1]
        have hs : since' pcs since i (some (.p3 e)) (e + 1) = since := by
          unfold since'
          rw [if_neg]
          rintro ⟨e3, e4⟩
          rw [hi] at e3
          exact e4 e3
        simp only
        rw [hs]
        have ha : (fun k => annO (upd pcs i (some (.p3 e)) k)) = fun k => annO (pcs k) := by
          rw [upd_ann]
          have : annO (some (.p3 e)) = annO (pcs i) := by rw [hi]; rfl
          rw [this]
          exact upd_same (fun k => annO (pcs k)) i
        have hk : ∀ k, annO (upd pcs i (some (.p3 e)) k) = annO (pcs k) := fun k => congrFun ha k
        have hnow := h.now
        have hjL : j = L := by have : j ≤ L := hok; omega
        refine ⟨by rw [ha]; exact h.S, h.ar, by simp only; omega, ?_, ?_, ?_, fun k => by have := h.big k; omega⟩
        · intro k hkL q hq'
          simp only
          by_cases e2 : k = i
          · subst e2
            rw [upd_at] at hq'
            injection hq' with hq'
            subst hq'
            exact ⟨trivial, fun e' he' => by injection he' with he'; omega⟩
          · rw [upd_ne _ _ e2] at hq'
            obtain ⟨r1, r2⟩ := h.rd k hkL q hq'
            exact ⟨r1, fun e' he' => by have := r2 e' he'; omega⟩
        · intro k hkL hann
          rw [hk] at hann ⊢
          simp only
          have h1 := h.snc k hkL hann
          have h2 := h.pass i hiL e j hi hn.symm k (by omega) hkL hann
          omega
        · intro j' hj' e' c hp he' k hkc hkL hann
          simp only at he' ⊢
          by_cases e2 : j' = i
          · subst e2
            rw [upd_at] at hp
            cases hp
          · rw [upd_ne _ _ e2] at hp
            obtain ⟨r1, r2⟩ := h.rd j' hj' _ hp
            have := r2 e' rfl
            omega
      · have e1 : (gSwap e s).2 = s := by unfold gSwap; rw [if_neg hn]
        rw [e1, hq (.p3 e) rfl]
        exact h.quiet hi rfl trivial (fun e' he' => by injection he' with he'; subst he'; exact he) (fun e c hc => by cases hc)
  | p3 e =>
    have he := hrd e rfl
    simp only [nxP]
    rw [hq (.p4 e s.now) rfl]
    exact h.quiet hi rfl trivial (fun e' he' => by injection he' with he'; subst he'; exact he) (fun e c hc => by cases hc)
  | p4 e n =>
    have he := hrd e rfl
    simp only [nxP]
    rw [hq (.p5 e) rfl]
    exact h.quiet hi rfl trivial (fun e' he' => by injection he' with he'; subst he'; exact he) (fun e c hc => by cases hc)
  | p5 e =>
    simp only [nxP]
    have hs : ∀ n, since' pcs since i none n = since := fun n => by
      unfold since'
      rw [if_neg]
      rintro ⟨_, e2⟩
      exact e2 rfl
    rw [hs]
    have hnow := h.now
    refine ⟨?_, h.ar, by show 0 ≤ s.now ∧ s.now ≤ ((T + 1 : Nat) : Int); omega, ?_, ?_, ?_, fun k => by have := h.big k; omega⟩
    · show setSaid s.S i (-1) = _
      rw [h.S, annS8_set _ hiL, upd_ann]
      rfl
    · intro k hkL q hq'
      show okP L q ∧ ∀ e, readP q = some e → 0 ≤ e ∧ e ≤ s.now
      by_cases e1 : k = i
      · subst e1
        rw [upd_at] at hq'
        cases hq'
      · rw [upd_ne _ _ e1] at hq'
        exact h.rd k hkL q hq'
    · intro k hkL hann
      show annO (upd pcs i none k) ≤ since k ∧ since k ≤ s.now ∧ s.now ≤ since k + 1
      by_cases e1 : k = i
      · subst e1
        rw [upd_at] at hann
        exact absurd rfl hann
      · rw [upd_ne _ _ e1] at hann ⊢
        exact h.snc k hkL hann
    · intro j hj e' c hp he' k hkc hkL hann
      show since k = s.now
      by_cases e1 : k = i
      · subst e1
        rw [upd_at] at hann
        exact absurd rfl hann
      · rw [upd_ne _ _ e1] at hann
        by_cases e2 : j = i
        · subst e2
          rw [upd_at] at hp
          cases hp
        · rw [upd_ne _ _ e2] at hp
          exact h.pass j hj e' c hp he' k hkc hkL hann
end
end Go.Proofs.Ytmnbdhngadjmiaa
