/-
  Many helpers of one record: what holds of all that is shared, and of each helper, whatever the order of their touches. No function of the program in sight.
-/
import Derived.Test.YtfloblofdkemlaaHg9
namespace Go.Proofs.Ytfloblofdkemlaa
set_option linter.unusedVariables false
set_option linter.unusedSimpArgs false
set_option maxRecDepth 20000

/-- The record's way, its nodes, how many of them may be taken (all of them, unless one is another's), and whose they were. -/
structure Mn where
  k : Nat
  kp : Nat
  b : Nat
  F : Nat → Int
  wy : Int
  od : Int
  nw : Int
def Mn.r (q : Mn) : Rc := rcN (List.range q.k) (List.replicate q.k 0) (q.kp : Int) q.wy q.od q.nw
structure MnOk (q : Mn) : Prop where
  k1 : 1 ≤ q.k
  k2 : q.k ≤ 50
  b : q.b ≤ q.k
  fr : ∀ i, i < q.b → q.F i = 0
  bad : q.b < q.k → q.F q.b ≠ 0 ∧ q.F q.b ≠ 1
  fin : ∀ i, in64 (q.F i)
  wy : q.wy = 1 ∧ q.od = 201 ∧ q.nw = 99
/-- What is shared. -/
structure SJ (q : Mn) (m : Nat) (f : Nat → Ns) (st : Int) (al : Bool) : Prop where
  inf : ∀ i, i < q.k → (f i).inf = if i < m then 1 else q.F i
  mb : m ≤ q.b
  ha : al = true → m = q.k
  mark : ∀ i, i < q.k → (f i).mark = true → q.kp ≤ i ∧ al = true
  w0 : (f 0).w0 = 200
  w1 : (f 0).w1 = 201 ∨ ((f 0).w1 = 99 ∧ al = true)
  st : st = 1 ∨ (st = 2 ∧ al = true) ∨ (st = 0 ∧ q.b < q.k)
/-- Later. -/
structure MLe (q : Mn) (m : Nat) (f : Nat → Ns) (st : Int) (al : Bool) (m' : Nat) (f' : Nat → Ns) (st' : Int) (al' : Bool) : Prop where
  m : m ≤ m'
  al : al = true → al' = true
  mark : ∀ i, (f i).mark = true → (f' i).mark = true
  w1 : (f 0).w1 = 99 → (f' 0).w1 = 99
  st : st ≠ 1 → st' = st
section
variable {q : Mn} {m m' m2 : Nat} {f f' f2 : Nat → Ns} {st st' st2 : Int} {al al' al2 : Bool}
theorem MLe.refl : MLe q m f st al m f st al := ⟨Nat.le_refl _, id, fun _ e => e, id, fun _ => rfl⟩
theorem MLe.trans (h : MLe q m f st al m' f' st' al') (h2 : MLe q m' f' st' al' m2 f2 st2 al2) : MLe q m f st al m2 f2 st2 al2 :=
  ⟨Nat.le_trans h.m h2.m, fun e => h2.al (h.al e), fun i e => h2.mark i (h.mark i e), fun e => h2.w1 (h.w1 e), fun e => by
    have e1 := h.st e
    rw [← e1] at e
    exact (h2.st e).trans e1⟩
end
def Mn.l (q : Mn) : List (Int × Int) := ((List.range q.k).zip (List.replicate q.k (0 : Int))).map fun p => (rfN p.1, p.2)
def Mn.mks (q : Mn) : List Nat := (List.range q.k).drop q.kp
def Mn.fn (q : Mn) : Tr Unit := tWay q.r (tSet 1 2)
/-- Where a helper may be. -/
inductive PT (q : Mn) (m : Nat) (f : Nat → Ns) (st : Int) (al : Bool) : Tr Bool → Prop where
  | tk (i : Nat) (hi : i < q.k) (h : i ≤ m) : PT q m f st al (tTakes q.r 1 (q.l.drop i))
  | ck (i : Nat) (hi : i < q.k) (h : i < m ∨ (i = m ∧ i = q.b)) : PT q m f st al (.tch (gInfo (rfN i)) fun y => if (y == 1) = true then tTakes q.r 1 (q.l.drop (i + 1)) else tSettle 1)
  | al (hb : q.b < q.k) : PT q m f st al (tSettle 1)
  | ab (hb : q.b < q.k) : PT q m f st al (.tch (gSet 1 0) fun _ => .ret false)
  | sa (h : m = q.k) : PT q m f st al ((tFinish q.r 1).bind fun _ => .ret true)
  | mk (j : Nat) (h : m = q.k) (ha : al = true) (hj : j ≤ q.mks.length) (hm : ∀ t i : Nat, t < j → q.mks[t]? = some i → (f i).mark = true) : PT q m f st al ((tMarks q.fn ((q.mks.drop j).map rfN)).bind fun _ => .ret true)
  | dn (h : m = q.k) (ha : al = true) (hm : ∀ t i : Nat, q.mks[t]? = some i → (f i).mark = true) (hw : (f 0).w1 = 99) : PT q m f st al ((tSet 1 2).bind fun _ => .ret true)
  | yes (h : m = q.k) (ha : al = true) (hm : ∀ t i : Nat, q.mks[t]? = some i → (f i).mark = true) (hw : (f 0).w1 = 99) (hs : st = 2) : PT q m f st al (.ret true)
  | no (hb : q.b < q.k) (hs : st = 0) : PT q m f st al (.ret false)
section
variable {q : Mn} {m m' : Nat} {f f' : Nat → Ns} {st st' : Int} {al al' : Bool} {L : Nat}
theorem PT.mono {u : Tr Bool} (h : PT q m f st al u) (hs : SJ q m f st al) (hs' : SJ q m' f' st' al') (hle : MLe q m f st al m' f' st' al') (hok : MnOk q) : PT q m' f' st' al' u := by
  have hmk : m = q.k → m' = q.k := fun e => by have := hle.m; have := hs'.mb; have := hok.b; omega
  cases h with
  | tk i hi h => exact .tk i hi (Nat.le_trans h hle.m)
  | ck i hi h =>
    refine .ck i hi ?_
    rcases h with h | ⟨h1, h2⟩
    · exact .inl (Nat.lt_of_lt_of_le h hle.m)
    · exact .inr ⟨by have := hle.m; have := hs'.mb; omega, h2⟩
  | al hb => exact .al hb
  | ab hb => exact .ab hb
  | sa h => exact .sa (hmk h)
  | mk j h ha hj hm => exact .mk j (hmk h) (hle.al ha) hj fun t i e1 e2 => hle.mark i (hm t i e1 e2)
  | dn h ha hm hw => exact .dn (hmk h) (hle.al ha) (fun t i e2 => hle.mark i (hm t i e2)) (hle.w1 hw)
  | yes h ha hm hw hs => exact .yes (hmk h) (hle.al ha) (fun t i e2 => hle.mark i (hm t i e2)) (hle.w1 hw) ((hle.st (by rw [hs]; omega)).trans hs)
  | no hb hs => exact .no hb ((hle.st (by rw [hs]; omega)).trans hs)
theorem l_drop (q : Mn) (i : Nat) (h : i < q.k) : q.l.drop i = (rfN i, 0) :: q.l.drop (i + 1) := by
  have hl : q.l.length = q.k := by simp [Mn.l]
  rw [List.drop_eq_getElem_cons (by rw [hl]; exact h)]
  congr 1
  simp [Mn.l]
theorem l_end (q : Mn) : q.l.drop q.k = [] := List.drop_eq_nil_of_le (by simp [Mn.l])
theorem takes_end (q : Mn) : tTakes q.r 1 (q.l.drop q.k) = (tFinish q.r 1).bind fun _ => .ret true := by rw [l_end]; rfl
theorem help_l (q : Mn) : tHelp q.r 1 = tTakes q.r 1 (q.l.drop 0) := by
  unfold tHelp Mn.l
  rw [List.drop_zero]
  congr 1
  show ((List.range q.k).map rfN).zip (List.replicate q.k 0) = _
  rw [List.zip_map_left]
  rfl
theorem mks_at (q : Mn) {t i : Nat} (h : q.mks[t]? = some i) : q.kp ≤ i ∧ i < q.k := by
  unfold Mn.mks at h
  rw [List.getElem?_drop] at h
  obtain ⟨h1, h2⟩ := List.getElem?_eq_some_iff.1 h
  simp at h1 h2
  omega
theorem mks_of (q : Mn) {i : Nat} (h : q.kp ≤ i) (hi : i < q.k) : q.mks[i - q.kp]? = some i := by
  unfold Mn.mks
  rw [List.getElem?_drop, show q.kp + (i - q.kp) = i from by omega]
  simp [hi]
theorem r_mks (q : Mn) : q.r.ns.drop (min q.r.kp.toNat q.r.ns.length) = q.mks.map rfN := by
  show ((List.range q.k).map rfN).drop (min (q.kp : Int).toNat ((List.range q.k).map rfN).length) = _
  rw [Int.toNat_natCast, List.length_map, List.length_range]
  unfold Mn.mks
  rw [List.map_drop]
  by_cases h : q.kp ≤ q.k
  · rw [Nat.min_eq_left h]
  · rw [Nat.min_eq_right (by omega), List.drop_eq_nil_of_le (by simp), List.drop_eq_nil_of_le (by simp; omega)]
theorem fn_tch (q : Mn) (hok : MnOk q) : q.fn = .tch (gSwapWay (rfN 0) q.wy q.od q.nw) fun _ => tSet 1 2 := by
  have hk := hok.k1
  obtain ⟨l, hl⟩ : ∃ l, List.range q.k = 0 :: l := ⟨(List.range' 1 (q.k - 1)), by
    rw [List.range_eq_range', show q.k = (q.k - 1) + 1 from by omega, List.range'_succ]
    simp⟩
  unfold Mn.fn tWay
  have e : q.r.ns = rfN 0 :: l.map rfN := by show (List.range q.k).map rfN = _; rw [hl]; rfl
  rw [e]
  rfl
/-- A touch. -/
theorem PT.step {u : Tr Bool} {g : Sig → Int × Sig} {K : Int → Tr Bool} (h : PT q m f st al u) (hu : u = .tch g K) (hs : SJ q m f st al) (hok : MnOk q) :
    ∃ m' f' st' al', (g (s1 L q.k f q.r st al)).2 = s1 L q.k f' q.r st' al' ∧ SJ q m' f' st' al' ∧ MLe q m f st al m' f' st' al' ∧ PT q m' f' st' al' (K (g (s1 L q.k f q.r st al)).1) := by
  have hk2 := hok.k2
  cases h with
  | tk i hi h =>
    rw [l_drop q i hi] at hu
    have hT : tTakes q.r 1 ((rfN i, 0) :: q.l.drop (i + 1)) = .tch (gSwapInfo (rfN i) 0 1) fun z => (if (z != 0) = true then Tr.ret true else .tch (gInfo (rfN i)) fun y => .ret (y == 1)).bind fun b => if b = true then tTakes q.r 1 (q.l.drop (i + 1)) else tSettle 1 := rfl
    rw [hT] at hu
    injection hu with hg hK
    subst hg hK
    have e := g_swapInfo (L := L) (f := f) (rs := [⟨q.r, st, al⟩]) hi (by omega) 0 1
    have hinf := hs.inf i hi
    by_cases h1 : i < m
    · rw [if_pos h1] at hinf
      rw [if_neg (by rw [hinf]; omega)] at e
      refine ⟨m, f, st, al, by rw [s1, e], hs, MLe.refl, ?_⟩
      rw [s1, e]
      exact .ck i hi (.inl h1)
    · obtain rfl : i = m := by omega
      rw [if_neg h1] at hinf
      by_cases h2 : i < q.b
      · rw [hok.fr i h2] at hinf
        rw [if_pos hinf] at e
        have hal : al = false := by
          cases al with
          | false => rfl
          | true => have := hs.ha rfl; omega
        refine ⟨i + 1, upd f i { f i with inf := 1 }, st, al, by rw [s1, e]; rfl, ?_, ?_, ?_⟩
        · refine ⟨fun j hj => ?_, by omega, fun e => (by rw [hal] at e; cases e), fun j hj hm => ?_, ?_, ?_, hs.st⟩
          · by_cases e2 : j = i
            · subst e2; rw [upd_at, if_pos (by omega)]
            · rw [upd_ne _ _ e2, hs.inf j hj]
              by_cases e3 : j < i
              · rw [if_pos e3, if_pos (by omega)]
              · rw [if_neg e3, if_neg (by omega)]
          · by_cases e2 : j = i
            · subst e2; rw [upd_at] at hm; exact hs.mark j hj hm
            · rw [upd_ne _ _ e2] at hm; exact hs.mark j hj hm
          · by_cases e2 : 0 = i
            · subst e2; rw [upd_at]; exact hs.w0
            · rw [upd_ne _ _ e2]; exact hs.w0
          · by_cases e2 : 0 = i
            · subst e2; rw [upd_at]; exact hs.w1
            · rw [upd_ne _ _ e2]; exact hs.w1
        · refine ⟨by omega, id, fun j hm => ?_, fun hw => ?_, fun _ => rfl⟩
          · by_cases e2 : j = i
            · subst e2; rw [upd_at]; exact hm
            · rw [upd_ne _ _ e2]; exact hm
          · by_cases e2 : 0 = i
            · subst e2; rw [upd_at]; exact hw
            · rw [upd_ne _ _ e2]; exact hw
        · rw [s1, e]
          show PT q (i + 1) _ st al (tTakes q.r 1 (q.l.drop (i + 1)))
          by_cases e3 : i + 1 < q.k
          · exact .tk (i + 1) e3 (Nat.le_refl _)
          · have e4 : i + 1 = q.k := by omega
            rw [e4, takes_end]
            exact .sa rfl
      · have hib : i = q.b := by have := hs.mb; omega
        have hbad := hok.bad (by omega)
        rw [hib] at hinf
        rw [if_neg (by rw [hib, hinf]; exact hbad.1)] at e
        refine ⟨i, f, st, al, by rw [s1, e], hs, MLe.refl, ?_⟩
        rw [s1, e]
        exact .ck i hi (.inr ⟨rfl, hib⟩)
  | ck i hi h =>
    injection hu with hg hK
    subst hg hK
    have e := g_info (L := L) (f := f) (rs := [⟨q.r, st, al⟩]) hi (by omega)
    have hinf := hs.inf i hi
    refine ⟨m, f, st, al, by rw [s1, e], hs, MLe.refl, ?_⟩
    rw [s1, e]
    simp only
    rcases h with h | ⟨h1, h2⟩
    · rw [if_pos h] at hinf
      rw [hinf, if_pos (show ((1 : Int) == 1) = true from rfl)]
      by_cases e3 : i + 1 < q.k
      · exact .tk (i + 1) e3 (by omega)
      · have e4 : i + 1 = q.k := by omega
        rw [e4, takes_end]
        exact .sa (by have := hs.mb; have := hok.b; omega)
    · rw [if_neg (by omega)] at hinf
      have hbad := hok.bad (by omega)
      rw [hinf, h2, if_neg (by simpa using hbad.2)]
      exact .al (by omega)
  | al hb =>
    injection hu with hg hK
    subst hg hK
    refine ⟨m, f, st, al, rfl, hs, MLe.refl, ?_⟩
    have hal : al = false := by
      cases al with
      | false => rfl
      | true => have := hs.ha rfl; have := hs.mb; omega
    rw [g_all, hal]
    exact .ab hb
  | ab hb =>
    injection hu with hg hK
    subst hg hK
    have hst : st = 1 ∨ st = 0 := by
      rcases hs.st with e | ⟨e, e2⟩ | ⟨e, _⟩
      · exact .inl e
      · have := hs.ha e2; have := hs.mb; omega
      · exact .inr e
    exact ⟨m, f, 0, al, rfl, ⟨hs.inf, hs.mb, hs.ha, hs.mark, hs.w0, hs.w1, .inr (.inr ⟨rfl, hb⟩)⟩, ⟨Nat.le_refl _, id, fun _ e => e, id, fun e => by rcases hst with e2 | e2 <;> omega⟩, .no hb rfl⟩
  | sa h =>
    injection hu with hg hK
    subst hg hK
    refine ⟨m, f, st, true, rfl, ⟨hs.inf, hs.mb, fun _ => h, fun i hi e => ⟨(hs.mark i hi e).1, rfl⟩, hs.w0, hs.w1.imp id (fun e => ⟨e.1, rfl⟩), hs.st.imp id (fun e => e.imp (fun e => ⟨e.1, rfl⟩) id)⟩, ⟨Nat.le_refl _, fun _ => rfl, fun _ e => e, id, fun _ => rfl⟩, ?_⟩
    show PT q m f st true ((tMarks q.fn (q.r.ns.drop (min q.r.kp.toNat q.r.ns.length))).bind fun _ => .ret true)
    rw [r_mks]
    exact .mk 0 h rfl (Nat.zero_le _) (fun t i e => absurd e (by omega))
  | mk j h ha hj hm =>
    by_cases hlt : j < q.mks.length
    · obtain ⟨i, hi⟩ : ∃ i, q.mks[j]? = some i := ⟨_, List.getElem?_eq_getElem hlt⟩
      have hd : q.mks.drop j = i :: q.mks.drop (j + 1) := by rw [List.drop_eq_getElem_cons hlt, (List.getElem?_eq_some_iff.1 hi).2]
      rw [hd] at hu
      injection hu with hg hK
      subst hg hK
      have hik := mks_at q hi
      have e := g_setMark (L := L) (f := f) (rs := [⟨q.r, st, al⟩]) hik.2 (by omega)
      refine ⟨m, upd f i { f i with mark := true }, st, al, by rw [s1, e]; rfl, ?_, ?_, ?_⟩
      · refine ⟨fun t ht => ?_, hs.mb, hs.ha, fun t ht hmt => ?_, ?_, ?_, hs.st⟩
        · by_cases e2 : t = i
          · subst e2; rw [upd_at]; exact hs.inf t ht
          · rw [upd_ne _ _ e2]; exact hs.inf t ht
        · by_cases e2 : t = i
          · subst e2; exact ⟨hik.1, ha⟩
          · rw [upd_ne _ _ e2] at hmt; exact hs.mark t ht hmt
        · by_cases e2 : 0 = i
          · subst e2; rw [upd_at]; exact hs.w0
          · rw [upd_ne _ _ e2]; exact hs.w0
        · by_cases e2 : 0 = i
          · subst e2; rw [upd_at]; exact hs.w1
          · rw [upd_ne _ _ e2]; exact hs.w1
      · refine ⟨Nat.le_refl _, id, fun t hmt => ?_, fun hw => ?_, fun _ => rfl⟩
        · by_cases e2 : t = i
          · subst e2; rw [upd_at]
          · rw [upd_ne _ _ e2]; exact hmt
        · by_cases e2 : 0 = i
          · subst e2; rw [upd_at]; exact hw
          · rw [upd_ne _ _ e2]; exact hw
      · refine .mk (j + 1) h ha (by omega) fun t i2 ht hi2 => ?_
        by_cases e2 : i2 = i
        · subst e2; rw [upd_at]
        · rw [upd_ne _ _ e2]
          refine hm t i2 ?_ hi2
          by_cases e3 : t = j
          · subst e3; rw [hi] at hi2; injection hi2 with e4; exact absurd e4.symm e2
          · omega
    · have hd : q.mks.drop j = [] := List.drop_eq_nil_of_le (by omega)
      rw [hd] at hu
      have hT : (tMarks q.fn (([] : List Nat).map rfN)).bind (fun _ => Tr.ret true) = .tch (gSwapWay (rfN 0) q.wy q.od q.nw) fun _ => (tSet 1 2).bind fun _ => .ret true := by
        show q.fn.bind _ = _
        rw [fn_tch q hok]
        rfl
      rw [hT] at hu
      injection hu with hg hK
      subst hg hK
      have hk0 : 0 < q.k := hok.k1
      have e := g_swapWay (L := L) (f := f) (rs := [⟨q.r, st, al⟩]) hk0 (by omega) q.wy q.od q.nw
      obtain ⟨w1, w2, w3⟩ := hok.wy
      rw [w1, w2, w3] at e ⊢
      have hws : (wayS (f 0) 1 201 99).w0 = (f 0).w0 ∧ (wayS (f 0) 1 201 99).w1 = 99 := by
        unfold wayS
        rw [if_neg (by rintro ⟨h, _⟩; omega)]
        rcases hs.w1 with e | ⟨e, _⟩
        · rw [if_pos ⟨rfl, e⟩]; exact ⟨rfl, rfl⟩
        · rw [if_neg (by rintro ⟨_, h⟩; omega)]; exact ⟨rfl, e⟩
      have hsm := wayS_same (f 0) 1 201 99
      refine ⟨m, upd f 0 (wayS (f 0) 1 201 99), st, al, by rw [s1, e]; rfl, ?_, ?_, ?_⟩
      · refine ⟨fun t ht => ?_, hs.mb, hs.ha, fun t ht hmt => ?_, by rw [upd_at, hws.1]; exact hs.w0, by rw [upd_at]; exact .inr ⟨hws.2, ha⟩, hs.st⟩
        · by_cases e2 : t = 0
          · subst e2; rw [upd_at, hsm.1]; exact hs.inf 0 ht
          · rw [upd_ne _ _ e2]; exact hs.inf t ht
        · by_cases e2 : t = 0
          · subst e2; rw [upd_at, hsm.2] at hmt; exact hs.mark 0 ht hmt
          · rw [upd_ne _ _ e2] at hmt; exact hs.mark t ht hmt
      · refine ⟨Nat.le_refl _, id, fun t hmt => ?_, fun _ => by rw [upd_at]; exact hws.2, fun _ => rfl⟩
        by_cases e2 : t = 0
        · subst e2; rw [upd_at, hsm.2]; exact hmt
        · rw [upd_ne _ _ e2]; exact hmt
      · refine .dn h ha (fun t i hi => ?_) (by rw [upd_at]; exact hws.2)
        have := hm t i (by have := (List.getElem?_eq_some_iff.1 hi).1; omega) hi
        by_cases e2 : i = 0
        · subst e2; rw [upd_at, hsm.2]; exact this
        · rw [upd_ne _ _ e2]; exact this
  | dn h ha hm hw =>
    injection hu with hg hK
    subst hg hK
    have hst : st = 1 ∨ st = 2 := by
      rcases hs.st with e | ⟨e, e2⟩ | ⟨e, e2⟩
      · exact .inl e
      · exact .inr e
      · have := hs.mb; omega
    exact ⟨m, f, 2, al, rfl, ⟨hs.inf, hs.mb, hs.ha, hs.mark, hs.w0, hs.w1, .inr (.inl ⟨rfl, ha⟩)⟩, ⟨Nat.le_refl _, id, fun _ e => e, id, fun e => by rcases hst with e2 | e2 <;> omega⟩, .yes h ha hm hw rfl⟩
  | yes h ha hm hw hs => cases hu
  | no hb hs => cases hu
/-- A helper's place, or its answer. -/
def PJ (q : Mn) (m : Nat) (f : Nat → Ns) (st : Int) (al : Bool) : Ts → Prop
  | .run u => PT q m f st al u
  | .fin b => PT q m f st al (.ret b)
theorem PJ.ofTr {t : Tr Bool} (h : PT q m f st al t) : PJ q m f st al (ofTr t) := by cases t <;> exact h
theorem PJ.mono {o : Ts} (h : PJ q m f st al o) (hs : SJ q m f st al) (hs' : SJ q m' f' st' al') (hle : MLe q m f st al m' f' st' al') (hok : MnOk q) : PJ q m' f' st' al' o := by
  cases o with
  | run u => exact PT.mono h hs hs' hle hok
  | fin b => exact PT.mono h hs hs' hle hok
theorem PJ.step {o : Ts} (h : PJ q m f st al o) (hs : SJ q m f st al) (hok : MnOk q) :
    ∃ m' f' st' al', (nxT o (s1 L q.k f q.r st al)).2 = s1 L q.k f' q.r st' al' ∧ SJ q m' f' st' al' ∧ MLe q m f st al m' f' st' al' ∧ PJ q m' f' st' al' (nxT o (s1 L q.k f q.r st al)).1 := by
  cases o with
  | fin b => exact ⟨m, f, st, al, rfl, hs, MLe.refl, h⟩
  | run u =>
    cases u with
    | ret v => exact ⟨m, f, st, al, rfl, hs, MLe.refl, h⟩
    | tch g K =>
      obtain ⟨m', f', st', al', e1, e2, e3, e4⟩ := PT.step (L := L) h rfl hs hok
      exact ⟨m', f', st', al', e1, e2, e3, PJ.ofTr e4⟩
theorem PT.ev {u : Tr Bool} (h : PT q m f st al u) (hs : SJ q m f st al) (hok : MnOk q) :
    ∃ m' f' st' al', (ev u (s1 L q.k f q.r st al)).2.1 = s1 L q.k f' q.r st' al' ∧ SJ q m' f' st' al' ∧ MLe q m f st al m' f' st' al' ∧ PT q m' f' st' al' (.ret (ev u (s1 L q.k f q.r st al)).1) := by
  induction u generalizing m f st al with
  | ret v => exact ⟨m, f, st, al, rfl, hs, MLe.refl, h⟩
  | tch g K ih =>
    obtain ⟨m', f', st', al', e1, e2, e3, e4⟩ := PT.step (L := L) h rfl hs hok
    obtain ⟨m2, f2, st2, al2, d1, d2, d3, d4⟩ := ih _ e4 e2
    refine ⟨m2, f2, st2, al2, ?_, d2, e3.trans d3, ?_⟩
    · simp only [Go.Proofs.Ytfloblofdkemlaa.ev]; rw [e1]; exact d1
    · simp only [Go.Proofs.Ytfloblofdkemlaa.ev]; rw [e1]; exact d4
theorem SJ.in64 (hs : SJ q m f st al) (hok : MnOk q) : ∀ i, i < q.k → in64 (f i).inf := by
  intro i hi
  rw [hs.inf i hi]
  split
  · exact in01.2.1
  · exact hok.fin i
end
end Go.Proofs.Ytfloblofdkemlaa
