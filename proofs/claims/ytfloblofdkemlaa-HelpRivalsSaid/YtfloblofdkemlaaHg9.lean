/-
  Taking nodes, marking them, changing a way: what stays, and what holds behind. No function of the program in sight.
-/
import Derived.Test.YtfloblofdkemlaaLk9
namespace Go.Proofs.Ytfloblofdkemlaa
set_option linter.unusedVariables false
set_option linter.unusedSimpArgs false
set_option maxRecDepth 20000

section
variable {n : Int} {b i k : Nat}
theorem oTk_same (l : List (Nat × Int)) (f : Nat → Ns) (i : Nat) : ((oTk n l f).1 i).w0 = (f i).w0 ∧ ((oTk n l f).1 i).w1 = (f i).w1 ∧ ((oTk n l f).1 i).mark = (f i).mark := by
  induction l generalizing f with
  | nil => exact ⟨rfl, rfl, rfl⟩
  | cons p l ih =>
    simp only [oTk]
    split
    · have := ih (upd f p.1 { f p.1 with inf := n })
      simp only
      rw [this.1, this.2.1, this.2.2]
      by_cases e : i = p.1
      · subst e; rw [upd_at]; exact ⟨rfl, rfl, rfl⟩
      · rw [upd_ne _ _ e]; exact ⟨rfl, rfl, rfl⟩
    · split
      · exact ih f
      · exact ⟨rfl, rfl, rfl⟩
theorem oTk_inf (l : List (Nat × Int)) (f : Nat → Ns) (i : Nat) : ((oTk n l f).1 i).inf = (f i).inf ∨ ((oTk n l f).1 i).inf = n := by
  induction l generalizing f with
  | nil => exact .inl rfl
  | cons p l ih =>
    simp only [oTk]
    split
    · rcases ih (upd f p.1 { f p.1 with inf := n }) with e | e
      · simp only
        rw [e]
        by_cases e2 : i = p.1
        · subst e2; rw [upd_at]; exact .inr rfl
        · rw [upd_ne _ _ e2]; exact .inl rfl
      · exact .inr e
    · split
      · exact ih f
      · exact .inl rfl
theorem oTk_go (l : List (Nat × Int)) (f : Nat → Ns) (h : ∀ p ∈ l, (f p.1).inf = p.2 ∨ (f p.1).inf = n) : (oTk n l f).2.2 = false := by
  induction l generalizing f with
  | nil => rfl
  | cons p l ih =>
    simp only [oTk]
    split
    · refine ih _ fun q hq => ?_
      by_cases e : q.1 = p.1
      · rw [e, upd_at]; exact .inr rfl
      · rw [upd_ne _ _ e]; exact h q (List.mem_cons_of_mem _ hq)
    · split
      · exact ih f fun q hq => h q (List.mem_cons_of_mem _ hq)
      · rename_i h1 h2
        rcases h p (List.mem_cons_self ..) with e | e
        · exact absurd e h1
        · exact absurd e h2
theorem oTk_stop (l : List (Nat × Int)) (f : Nat → Ns) (hn : (f b).inf ≠ n) (hb : ∃ p ∈ l, p.1 = b) (ho : ∀ p ∈ l, p.1 = b → p.2 ≠ (f b).inf) : (oTk n l f).2.2 = true ∧ ((oTk n l f).1 b).inf = (f b).inf := by
  induction l generalizing f with
  | nil => obtain ⟨p, hp, -⟩ := hb; cases hp
  | cons p l ih =>
    simp only [oTk]
    have hb2 : p.1 ≠ b → ∃ q ∈ l, q.1 = b := fun e => by
      obtain ⟨q, hq, hqb⟩ := hb
      rcases List.mem_cons.1 hq with rfl | hq
      · exact absurd hqb e
      · exact ⟨q, hq, hqb⟩
    split
    · rename_i h1
      have e : p.1 ≠ b := fun e => ho p (List.mem_cons_self ..) e (by rw [← h1, e])
      have hu : upd f p.1 { f p.1 with inf := n } b = f b := upd_ne _ _ (fun e2 => e e2.symm)
      have := ih (upd f p.1 { f p.1 with inf := n }) (by rw [hu]; exact hn) (hb2 e) (fun q hq hqb => by rw [hu]; exact ho q (List.mem_cons_of_mem _ hq) hqb)
      rw [hu] at this
      exact this
    · split
      · rename_i h1 h2
        have e : p.1 ≠ b := fun e => hn (by rw [← e]; exact h2)
        exact ih f hn (hb2 e) fun q hq hqb => ho q (List.mem_cons_of_mem _ hq) hqb
      · exact ⟨rfl, rfl⟩
theorem oMk_same (l : List Nat) (f : Nat → Ns) (i : Nat) : (oMk l f i).inf = (f i).inf ∧ (oMk l f i).w0 = (f i).w0 ∧ (oMk l f i).w1 = (f i).w1 := by
  induction l generalizing f with
  | nil => exact ⟨rfl, rfl, rfl⟩
  | cons j l ih =>
    simp only [oMk]
    obtain ⟨e1, e2, e3⟩ := ih (upd f j { f j with mark := true })
    rw [e1, e2, e3]
    by_cases e : i = j
    · subst e; rw [upd_at]; exact ⟨rfl, rfl, rfl⟩
    · rw [upd_ne _ _ e]; exact ⟨rfl, rfl, rfl⟩
theorem wayS_same (x : Ns) (wy od nw : Int) : (wayS x wy od nw).inf = x.inf ∧ (wayS x wy od nw).mark = x.mark := by
  unfold wayS
  split
  · exact ⟨rfl, rfl⟩
  · split <;> exact ⟨rfl, rfl⟩
theorem oWay_same (on : List Nat) (wy od nw : Int) (f : Nat → Ns) (i : Nat) : (oWay on wy od nw f i).inf = (f i).inf ∧ (oWay on wy od nw f i).mark = (f i).mark := by
  unfold oWay
  split
  · exact ⟨rfl, rfl⟩
  · rename_i j l
    by_cases e : i = j
    · subst e; rw [upd_at]; exact wayS_same _ _ _ _
    · rw [upd_ne _ _ e]; exact ⟨rfl, rfl⟩
end
section
variable {W : World} {X : Nat → Prop} {d : Wd} {n T : Nat} {hs : Nat → Hp} {os : Nat → Ts} {s : Sig} {w : World}
/-- Helpers that are forgotten. -/
theorem MB.reset (h : MB W X d n T hs os s w) : MB W X d 0 0 h0 o0 s w := by
  obtain ⟨⟨FW, P, hM⟩, hb⟩ := h
  exact ⟨⟨FW, fun _ _ => False, hM.ws, hM.rs, fun i hi => absurd hi (by omega), fun i j b hi => absurd hi (by omega), fun i hi => absurd hi (by omega)⟩, hb⟩
end
/-- HelpAgain's record. -/
def rAg (k : Nat) : Rc := rcN (List.range k) (List.replicate k 0) 1 0 200 88
def fAg (k y : Nat) : Nat → Ns := if y < k then upd ns0 y { ns0 y with inf := 44 } else ns0
/-- What holds between: no node another's, or node y is another's. -/
structure JA (k y : Nat) (f : Nat → Ns) (al : Bool) : Prop where
  inf : ∀ i, i < k → i ≠ y → (f i).inf = 0 ∨ (f i).inf = 1
  bad : y < k → (f y).inf = 44 ∧ (f 0).w0 = 200 ∧ al = false
  way : (f 0).w0 = 200 ∨ (f 0).w0 = 88
theorem JA.in64 {k y : Nat} {f : Nat → Ns} {al : Bool} (h : JA k y f al) : ∀ i, i < k → in64 (f i).inf := by
  intro i hi
  by_cases e : i = y
  · subst e; rw [(h.bad hi).1]; unfold Go.Proofs.Ytfloblofdkemlaa.in64; omega
  · exact in_01 (h.inf i hi e)
theorem ja_new (k y : Nat) (hk : 1 ≤ k) : JA k y (fAg k y) false := by
  unfold fAg
  by_cases h : y < k
  · rw [if_pos h]
    have hw : (upd ns0 y { ns0 y with inf := 44 } 0).w0 = 200 := by
      by_cases e : 0 = y
      · subst e; rw [upd_at]; rfl
      · rw [upd_ne _ _ e]; rfl
    refine ⟨fun i hi e => by rw [upd_ne _ _ e]; exact .inl rfl, fun _ => ⟨by rw [upd_at], hw, rfl⟩, .inl hw⟩
  · rw [if_neg h]
    exact ⟨fun i hi e => .inl rfl, fun e => absurd e h, .inl rfl⟩
/-- One more time. -/
theorem ja_step {k y : Nat} {f : Nat → Ns} {al : Bool} {st : Int} (h : JA k y f al) (hk : 1 ≤ k) (hk2 : k ≤ 1000) :
    ∃ f' al', JA k y f' al' ∧ (ev (tHelp (rAg k) 1) (s1 1 k f (rAg k) st al)).1 = !decide (y < k) ∧ (ev (tHelp (rAg k) 1) (s1 1 k f (rAg k) st al)).2.1 = s1 1 k f' (rAg k) (if y < k then 0 else 2) al' ∧ (f' 0).w0 = if y < k then 200 else 88 := by
  have hz : ∀ p ∈ (List.range k).zip (List.replicate k (0 : Int)), p.1 < k ∧ p.2 = 0 := by
    intro p hp
    obtain ⟨h1, h2⟩ := List.of_mem_zip hp
    exact ⟨List.mem_range.1 h1, (List.mem_replicate.1 h2).2⟩
  have he := ev_help (L := 1) (k := k) (r := rAg k) (st := st) (al := al) (on := List.range k) (is := List.replicate k 0) (kp := 1) (wy := 0) (od := 200) (nw := 88) (fun i hi => List.mem_range.1 hi) hk2 f
  have he : ev (tHelp (rAg k) 1) (s1 1 k f (rAg k) st al) = _ := he
  rw [he]
  by_cases hy : y < k
  · obtain ⟨b1, b2, b3⟩ := h.bad hy
    subst b3
    have hst := oTk_stop (n := 1) (b := y) ((List.range k).zip (List.replicate k 0)) f (by rw [b1]; omega) ⟨(y, 0), by
      rw [List.mem_iff_getElem?]
      refine ⟨y, ?_⟩
      rw [List.getElem?_zip_eq_some]
      exact ⟨by simp [hy], by simp [hy]⟩, rfl⟩ (fun p hp _ => by rw [(hz p hp).2, b1]; omega)
    refine ⟨(oTk 1 ((List.range k).zip (List.replicate k 0)) f).1, false, ⟨fun i hi e => ?_, fun _ => ⟨hst.2.trans b1, ((oTk_same _ f 0).1).trans b2, rfl⟩, .inl (((oTk_same _ f 0).1).trans b2)⟩, ?_, ?_, ?_⟩
    · rcases oTk_inf (n := 1) ((List.range k).zip (List.replicate k 0)) f i with e2 | e2
      · rw [e2]; exact h.inf i hi e
      · exact .inr e2
    · simp [oHelp, hst.1, hy]
    · simp [oHelp, hst.1, hy]
    · rw [if_pos hy]; exact ((oTk_same _ f 0).1).trans b2
  · have hgo := oTk_go (n := 1) ((List.range k).zip (List.replicate k 0)) f (fun p hp => by
      rw [(hz p hp).2]
      exact h.inf p.1 (hz p hp).1 (by have := (hz p hp).1; omega))
    obtain ⟨l, hl⟩ : ∃ l, List.range k = 0 :: l := ⟨(List.range' 1 (k - 1)), by
      rw [List.range_eq_range', show k = (k - 1) + 1 from by omega, List.range'_succ]
      simp⟩
    have hw0 : ∀ g : Nat → Ns, (oWay (List.range k) 0 200 88 g 0).w0 = if (g 0).w0 = 200 then 88 else (g 0).w0 := by
      intro g
      rw [hl]
      simp only [oWay, upd_at, wayS]
      by_cases e : (g 0).w0 = 200
      · rw [if_pos ⟨trivial, e⟩, if_pos e]
      · rw [if_neg (fun h => e h.2), if_neg (by rintro ⟨h, _⟩; cases h), if_neg e]
    have hf0 : (oMk ((List.range k).drop (1 : Int).toNat) (oTk 1 ((List.range k).zip (List.replicate k 0)) f).1 0).w0 = (f 0).w0 := (oMk_same _ _ 0).2.1.trans (oTk_same _ f 0).1
    have hw : (oWay (List.range k) 0 200 88 (oMk ((List.range k).drop (1 : Int).toNat) (oTk 1 ((List.range k).zip (List.replicate k 0)) f).1) 0).w0 = 88 := by
      rw [hw0, hf0]
      rcases h.way with e | e
      · rw [if_pos e]
      · rw [if_neg (by rw [e]; omega)]; exact e
    refine ⟨oWay (List.range k) 0 200 88 (oMk ((List.range k).drop (1 : Int).toNat) (oTk 1 ((List.range k).zip (List.replicate k 0)) f).1), true, ⟨fun i hi e => ?_, fun e => absurd e hy, .inr hw⟩, ?_, ?_, ?_⟩
    · rw [(oWay_same _ _ _ _ _ i).1, (oMk_same _ _ i).1]
      rcases oTk_inf (n := 1) ((List.range k).zip (List.replicate k 0)) f i with e2 | e2
      · rw [e2]; exact h.inf i hi e
      · exact .inr e2
    · simp [oHelp, hgo, hy]
    · simp [oHelp, hgo, hy]
    · rw [if_neg hy]; exact hw
end Go.Proofs.Ytfloblofdkemlaa
