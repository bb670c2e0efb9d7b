/-
  HelpMany's states: as the law begins, between, at the end.
-/
import Derived.Test.YtfloblofdkemlaaMl9
import Derived.Laws.BitsAllLaws
namespace Go.Proofs.Ytfloblofdkemlaa
open Go.ChangeShapes Go.WideShapes Go.ChangeAt Go.RowKit
set_option linter.unusedVariables false
set_option linter.unusedSimpArgs false
set_option maxRecDepth 20000

theorem bit_u8 (z j : Nat) (hz : z < 256) : bits .and .u8 ((z : Int) / 2 ^ j) 1 = ((z / 2 ^ j % 2 : Nat) : Int) := by
  have e : (z : Int) / 2 ^ j = ((z / 2 ^ j : Nat) : Int) := by simp
  have hl : z / 2 ^ j < 256 := Nat.lt_of_le_of_lt (Nat.div_le_self _ _) hz
  rw [e]
  have := u8_and_nat (z / 2 ^ j) 1 hl (by omega)
  rw [nat_mask1] at this
  exact this
/-- Is node i another record's? -/
def bitM (z i : Nat) : Bool := decide (z / 2 ^ i % 2 = 1) && decide (128 ≤ z)
def fM (z j : Nat) : Nat → Ns := fun i => if i < j ∧ bitM z i = true then { ns0 i with inf := 33 } else ns0 i
def bdM (z j : Nat) : Bool := (List.range j).any (bitM z)
theorem fM_zero (z : Nat) : fM z 0 = ns0 := by funext i; unfold fM; rw [if_neg (by omega)]
theorem fM_step (z j : Nat) : fM z (j + 1) = if bitM z j = true then upd (fM z j) j { fM z j j with inf := 33 } else fM z j := by
  funext i
  unfold fM
  by_cases hb : bitM z j = true
  · rw [if_pos hb]
    by_cases e : i = j
    · subst e; rw [upd_at, if_pos ⟨by omega, hb⟩, if_neg (by omega)]
    · rw [upd_ne _ _ e]
      by_cases h : i < j
      · by_cases hbi : bitM z i = true
        · rw [if_pos ⟨by omega, hbi⟩, if_pos ⟨h, hbi⟩]
        · rw [if_neg (fun e => hbi e.2), if_neg (fun e => hbi e.2)]
      · rw [if_neg (by omega), if_neg (by omega)]
  · rw [if_neg hb]
    by_cases h : i < j + 1 ∧ bitM z i = true
    · have : i < j := by
        rcases Nat.lt_or_ge i j with h2 | h2
        · exact h2
        · obtain rfl : i = j := by omega
          exact absurd h.2 hb
      rw [if_pos h, if_pos ⟨this, h.2⟩]
    · rw [if_neg h, if_neg (fun e => h ⟨by omega, e.2⟩)]
theorem bdM_step (z j : Nat) : bdM z (j + 1) = (bdM z j || bitM z j) := by simp [bdM, List.range_succ]
theorem fM_self (z j : Nat) : fM z j j = ns0 j := by unfold fM; rw [if_neg (by omega)]
theorem fM_in (z j i : Nat) : in64 (fM z j i).inf := by
  unfold fM
  split
  · unfold in64; simp only; omega
  · exact in01.1
/-- The first that is another record's. -/
theorem first_bad (z k : Nat) : ∃ b, b ≤ k ∧ (∀ i, i < b → bitM z i = false) ∧ (b < k → bitM z b = true) ∧ bdM z k = decide (b < k) := by
  induction k with
  | zero => exact ⟨0, Nat.le_refl _, fun i hi => absurd hi (by omega), fun h => absurd h (by omega), rfl⟩
  | succ k ih =>
    obtain ⟨b, h1, h2, h3, h4⟩ := ih
    by_cases hb : b < k
    · refine ⟨b, by omega, h2, fun _ => h3 hb, ?_⟩
      rw [bdM_step, h4, decide_eq_true hb, Bool.true_or, decide_eq_true (by omega)]
    · obtain rfl : b = k := by omega
      cases hz : bitM z b with
      | true =>
        refine ⟨b, by omega, h2, fun _ => hz, ?_⟩
        rw [bdM_step, hz, Bool.or_true, decide_eq_true (by omega)]
      | false =>
        refine ⟨b + 1, by omega, fun i hi => ?_, fun h => absurd h (by omega), ?_⟩
        · by_cases e : i = b
          · subst e; exact hz
          · exact h2 i (by omega)
        · rw [bdM_step, h4, hz, decide_eq_false (by omega), decide_eq_false (by omega)]; rfl
def mnM (z k ke b : Nat) : Mn := ⟨k, ke, b, fun i => (fM z k i).inf, 1, 201, 99⟩
theorem mnM_ok (z k ke b : Nat) (hk1 : 1 ≤ k) (hk2 : k ≤ 50) (h1 : b ≤ k) (h2 : ∀ i, i < b → bitM z i = false) (h3 : b < k → bitM z b = true) : MnOk (mnM z k ke b) := by
  refine ⟨hk1, hk2, h1, fun i hi => ?_, fun hb => ?_, fun i => fM_in z k i, rfl, rfl, rfl⟩
  · show (fM z k i).inf = 0
    unfold fM
    rw [if_neg (by rintro ⟨_, e⟩; rw [h2 i hi] at e; cases e)]
    rfl
  · have : (fM z k b).inf = 33 := by unfold fM; rw [if_pos ⟨hb, h3 hb⟩]
    show (fM z k b).inf ≠ 0 ∧ (fM z k b).inf ≠ 1
    rw [this]; omega
theorem sj_new (z k ke b : Nat) (hk1 : 1 ≤ k) : SJ (mnM z k ke b) 0 (fM z k) 1 false := by
  refine ⟨fun i hi => by rw [if_neg (by omega)]; rfl, Nat.zero_le _, fun e => (by cases e), fun i hi e => ?_, ?_, .inl ?_, .inl rfl⟩
  · unfold fM at e
    split at e <;> cases e
  · unfold fM; split <;> rfl
  · unfold fM; split <;> rfl
theorem pt_new (q : Mn) (hok : MnOk q) (f : Nat → Ns) (st : Int) (al : Bool) (m : Nat) : PJ q m f st al (.run (tHelp q.r 1)) := by
  show PT q m f st al (tHelp q.r 1)
  rw [help_l]
  exact .tk 0 hok.k1 (Nat.zero_le _)
/-- What a helper's answer tells. -/
theorem pt_ret {q : Mn} {m : Nat} {f : Nat → Ns} {st : Int} {al b : Bool} (h : PT q m f st al (.ret b)) (hs : SJ q m f st al) (hok : MnOk q) :
    b = !decide (q.b < q.k) ∧ al = !decide (q.b < q.k) ∧ st = (if q.b < q.k then 0 else 2) ∧ (f 0).w1 = (if q.b < q.k then 201 else 99) ∧ ∀ i, i < q.k → (f i).mark = (!decide (q.b < q.k) && decide (q.kp ≤ i)) := by
  obtain ⟨u, hu⟩ : ∃ u, Tr.ret b = u := ⟨_, rfl⟩
  rw [hu] at h
  cases h with
  | tk i hi h => rw [l_drop q i hi] at hu; have e : (Tr.ret b : Tr Bool) = .tch _ _ := hu; cases e
  | ck i hi h => cases hu
  | al hb => have e : (Tr.ret b : Tr Bool) = .tch _ _ := hu; cases e
  | ab hb => cases hu
  | sa h => have e : (Tr.ret b : Tr Bool) = .tch _ _ := hu; cases e
  | mk j h ha hj hm =>
    cases hl : q.mks.drop j with
    | nil =>
      rw [hl] at hu
      have hu : Tr.ret b = q.fn.bind fun _ => Tr.ret true := hu
      rw [fn_tch q hok] at hu
      have e : (Tr.ret b : Tr Bool) = .tch _ _ := hu
      cases e
    | cons i l =>
      rw [hl] at hu
      have e : (Tr.ret b : Tr Bool) = .tch _ _ := hu
      cases e
  | dn h ha hm hw => have e : (Tr.ret b : Tr Bool) = .tch _ _ := hu; cases e
  | yes h ha hm hw hst =>
    injection hu with hu
    subst hu
    have hb : ¬ q.b < q.k := by have := hs.mb; omega
    refine ⟨by simp [hb], by simp [hb, ha], by rw [if_neg hb]; exact hst, by rw [if_neg hb]; exact hw, fun i hi => ?_⟩
    rw [decide_eq_false hb]
    by_cases hk : q.kp ≤ i
    · rw [decide_eq_true hk, hm _ i (mks_of q hk hi)]; rfl
    · rw [decide_eq_false hk]
      cases hmi : (f i).mark with
      | false => rfl
      | true => exact absurd (hs.mark i hi hmi).1 hk
  | no hb hst =>
    injection hu with hu
    subst hu
    have hal : al = false := by
      cases al with
      | false => rfl
      | true => have := hs.ha rfl; have := hs.mb; omega
    refine ⟨by simp [hb], by simp [hb, hal], by rw [if_pos hb]; exact hst, ?_, fun i hi => ?_⟩
    · rw [if_pos hb]
      rcases hs.w1 with e | ⟨_, e⟩
      · exact e
      · rw [hal] at e; cases e
    · rw [decide_eq_true hb]
      cases hmi : (f i).mark with
      | false => rfl
      | true => have := (hs.mark i hi hmi).2; rw [hal] at this; cases this
/-- What holds of all N helpers. -/
def IM (q : Mn) (L N : Nat) (os : Nat → Ts) (s : Sig) : Prop := ∃ m f st al, s = s1 L q.k f q.r st al ∧ SJ q m f st al ∧ ∀ i, i < N → PJ q m f st al (os i)
theorem IM.step {q : Mn} {L N : Nat} (hok : MnOk q) {os : Nat → Ts} {s : Sig} {i : Nat} (h : IM q L N os s) (hi : i < N) : IM q L N (upd os i (nxT (os i) s).1) (nxT (os i) s).2 := by
  obtain ⟨m, f, st, al, rfl, h1, h2⟩ := h
  obtain ⟨m', f', st', al', e1, e2, e3, e4⟩ := PJ.step (L := L) (h2 i hi) h1 hok
  refine ⟨m', f', st', al', e1, e2, fun j hj => ?_⟩
  by_cases e : j = i
  · subst e; rw [upd_at]; exact e4
  · rw [upd_ne _ _ e]; exact PJ.mono (h2 j hj) h1 e2 e3 hok
theorem IM.inl {q : Mn} {L N : Nat} {hs : Nat → Hp} (hok : MnOk q) (hL : L ≤ 64) (hk : q.k ≤ 9) (hh : ∀ i, i < N → (hs i).n = 1 ∧ (hs i).r = q.r) : Inl L N hs (IM q L N) := by
  refine ⟨fun os s i h hi => h.step hok hi, fun os s i h hi => ?_, fun os s h => ?_, fun i hi => by rw [(hh i hi).1]; exact in01.2.1, fun i hi => ?_⟩
  · obtain ⟨m, f, st, al, rfl, h1, h2⟩ := h
    rw [(hh i hi).1, (hh i hi).2]
    rfl
  · obtain ⟨m, f, st, al, rfl, h1, h2⟩ := h
    exact inv_sN (by have := hok.k2; omega) hL (by omega) (h1.in64 hok) (by simp)
  · rw [(hh i hi).2]
    show ((List.range q.k).map rfN).length ≤ 9
    rw [List.length_map, List.length_range]
    exact hk
theorem good_mn {q : Mn} (hok : MnOk q) (hk : q.k ≤ 20) : GoodR q.r := ⟨Int.natCast_nonneg _, by simp [Mn.r, rcN], by simp [Mn.r, rcN]; exact hk⟩
end Go.Proofs.Ytfloblofdkemlaa
