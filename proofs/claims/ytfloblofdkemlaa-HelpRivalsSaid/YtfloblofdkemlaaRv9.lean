/-
  Helpers of two records, in any order of their touches: what holds of all that is shared, and of each helper. No function of the program in sight.
-/
import Derived.Test.YtfloblofdkemlaaHg9
namespace Go.Proofs.Ytfloblofdkemlaa
set_option linter.unusedVariables false
set_option linter.unusedSimpArgs false
set_option maxRecDepth 20000

/-- Two records: c is 0 or 1, its number c + 1; its nodes, what its way is to be. -/
structure Rv where
  l : Nat → List Nat
  nw : Nat → Int
def Rv.n (c : Nat) : Int := (c : Int) + 1
def Rv.od (q : Rv) (c : Nat) : Int := 200 + 10 * (((q.l c).headD 0 : Nat) : Int)
def Rv.r (q : Rv) (c : Nat) : Rc := rcN (q.l c) (List.replicate (q.l c).length 0) 1 0 (q.od c) (q.nw c)
structure RvOk (q : Rv) : Prop where
  ne : ∀ c, c < 2 → q.l c ≠ []
  lt : ∀ c, c < 2 → ∀ i ∈ q.l c, i < 5
  up : ∀ c, c < 2 → (q.l c).Pairwise (· < ·)
  nw : ∀ c, c < 2 → q.nw c = 98 + (c : Int)
/-- What is shared. -/
def sR (q : Rv) (f : Nat → Ns) (st : Nat → Int) (al : Nat → Bool) : Sig := sN 4 5 f [⟨q.r 0, st 0, al 0⟩, ⟨q.r 1, st 1, al 1⟩]
def blk (q : Rv) (f : Nat → Ns) (c : Nat) : Prop := ∃ i, i ∈ q.l c ∧ (f i).inf ≠ 0 ∧ (f i).inf ≠ Rv.n c
structure SR (q : Rv) (T : Nat → Nat) (f : Nat → Ns) (st : Nat → Int) (al : Nat → Bool) : Prop where
  inf : ∀ i, (f i).inf = 0 ∨ ∃ c, c < 2 ∧ (f i).inf = Rv.n c ∧ i ∈ q.l c
  tk : ∀ c, c < 2 → ∀ p i : Nat, (q.l c)[p]? = some i → ((f i).inf = Rv.n c ↔ p < T c)
  le : ∀ c, c < 2 → T c ≤ (q.l c).length
  ha : ∀ c, c < 2 → al c = true → T c = (q.l c).length
  st : ∀ c, c < 2 → st c = 1 ∨ (st c = 2 ∧ al c = true) ∨ (st c = 0 ∧ blk q f c)
  way : ∀ i, i < 5 → (f i).w0 = 200 + 10 * (i : Int) ∨ ∃ c, c < 2 ∧ (q.l c)[0]? = some i ∧ al c = true ∧ (f i).w0 = q.nw c
/-- Later. -/
structure RLe (q : Rv) (T : Nat → Nat) (f : Nat → Ns) (st : Nat → Int) (al : Nat → Bool) (T' : Nat → Nat) (f' : Nat → Ns) (st' : Nat → Int) (al' : Nat → Bool) : Prop where
  t : ∀ c, T c ≤ T' c
  a : ∀ c, al c = true → al' c = true
  i : ∀ i, (f i).inf ≠ 0 → (f' i).inf = (f i).inf
  w : ∀ i, (∀ k : Nat, (f i).w0 ≠ 200 + 10 * (k : Int)) → (f' i).w0 = (f i).w0
  s : ∀ c, c < 2 → st c ≠ 1 → st' c = st c
section
variable {q : Rv} {T T' T2 : Nat → Nat} {f f' f2 : Nat → Ns} {st st' st2 : Nat → Int} {al al' al2 : Nat → Bool} {c : Nat}
theorem RLe.refl : RLe q T f st al T f st al := ⟨fun _ => Nat.le_refl _, fun _ e => e, fun _ _ => rfl, fun _ _ => rfl, fun _ _ _ => rfl⟩
theorem RLe.trans (h : RLe q T f st al T' f' st' al') (h2 : RLe q T' f' st' al' T2 f2 st2 al2) : RLe q T f st al T2 f2 st2 al2 := by
  refine ⟨fun c => Nat.le_trans (h.t c) (h2.t c), fun c e => h2.a c (h.a c e), fun i e => ?_, fun i e => ?_, fun c hc e => ?_⟩
  · have e1 := h.i i e
    rw [← e1]; exact h2.i i (by rw [e1]; exact e)
  · have e1 := h.w i e
    rw [← e1]; exact h2.w i (by rw [e1]; exact e)
  · have e1 := h.s c hc e
    rw [← e1]; exact h2.s c hc (by rw [e1]; exact e)
theorem blk.mono (h : blk q f c) (hle : RLe q T f st al T' f' st' al') : blk q f' c := by
  obtain ⟨i, h1, h2, h3⟩ := h
  exact ⟨i, h1, by rw [hle.i i h2]; exact h2, by rw [hle.i i h2]; exact h3⟩
end
def Rv.ll (q : Rv) (c : Nat) : List (Int × Int) := ((q.l c).zip (List.replicate (q.l c).length (0 : Int))).map fun p => (rfN p.1, p.2)
def Rv.mks (q : Rv) (c : Nat) : List Nat := (q.l c).drop 1
def Rv.fn (q : Rv) (c : Nat) : Tr Unit := tWay (q.r c) (tSet (Rv.n c) 2)
/-- Where a helper of record c may be. -/
inductive PR9 (q : Rv) (c : Nat) (T : Nat → Nat) (f : Nat → Ns) (st : Nat → Int) (al : Nat → Bool) : Tr Bool → Prop where
  | tk (p : Nat) (hp : p < (q.l c).length) (h : p ≤ T c) : PR9 q c T f st al (tTakes (q.r c) (Rv.n c) ((q.ll c).drop p))
  | ck (p i : Nat) (hi : (q.l c)[p]? = some i) (h : (f i).inf ≠ 0) : PR9 q c T f st al (.tch (gInfo (rfN i)) fun y => if (y == Rv.n c) = true then tTakes (q.r c) (Rv.n c) ((q.ll c).drop (p + 1)) else tSettle (Rv.n c))
  | al (hb : blk q f c) : PR9 q c T f st al (tSettle (Rv.n c))
  | ab (hb : blk q f c) : PR9 q c T f st al (.tch (gSet (Rv.n c) 0) fun _ => .ret false)
  | sa (h : T c = (q.l c).length) : PR9 q c T f st al ((tFinish (q.r c) (Rv.n c)).bind fun _ => .ret true)
  | mk (j : Nat) (ha : al c = true) : PR9 q c T f st al ((tMarks (q.fn c) (((q.mks c).drop j).map rfN)).bind fun _ => .ret true)
  | dn (ha : al c = true) (hw : (f ((q.l c).headD 0)).w0 = q.nw c) : PR9 q c T f st al ((tSet (Rv.n c) 2).bind fun _ => .ret true)
  | yes (ha : al c = true) (hw : (f ((q.l c).headD 0)).w0 = q.nw c) (hs : st c = 2) : PR9 q c T f st al (.ret true)
  | no (hb : blk q f c) (hs : st c = 0) : PR9 q c T f st al (.ret false)
section
variable {q : Rv} {T T' : Nat → Nat} {f f' : Nat → Ns} {st st' : Nat → Int} {al al' : Nat → Bool} {c : Nat}
theorem nw_ne (hok : RvOk q) (hc : c < 2) : ∀ k : Nat, q.nw c ≠ 200 + 10 * (k : Int) := fun k => by rw [hok.nw c hc]; omega
theorem PR9.mono {u : Tr Bool} (h : PR9 q c T f st al u) (hc : c < 2) (hok : RvOk q) (hs' : SR q T' f' st' al') (hle : RLe q T f st al T' f' st' al') : PR9 q c T' f' st' al' u := by
  have hw' : (f ((q.l c).headD 0)).w0 = q.nw c → (f' ((q.l c).headD 0)).w0 = q.nw c := fun e => by rw [hle.w _ (by rw [e]; exact nw_ne hok hc)]; exact e
  cases h with
  | tk p hp h => exact .tk p hp (Nat.le_trans h (hle.t c))
  | ck p i hi h => exact .ck p i hi (by rw [hle.i i h]; exact h)
  | al hb => exact .al (hb.mono hle)
  | ab hb => exact .ab (hb.mono hle)
  | sa h => exact .sa (by have := hle.t c; have := hs'.le c hc; omega)
  | mk j ha => exact .mk j (hle.a c ha)
  | dn ha hw => exact .dn (hle.a c ha) (hw' hw)
  | yes ha hw hs => exact .yes (hle.a c ha) (hw' hw) ((hle.s c hc (by rw [hs]; omega)).trans hs)
  | no hb hs => exact .no (hb.mono hle) ((hle.s c hc (by rw [hs]; omega)).trans hs)
theorem ll_drop (q : Rv) (c p i : Nat) (h : (q.l c)[p]? = some i) : (q.ll c).drop p = (rfN i, 0) :: (q.ll c).drop (p + 1) := by
  obtain ⟨h1, h2⟩ := List.getElem?_eq_some_iff.1 h
  have hl : (q.ll c).length = (q.l c).length := by simp [Rv.ll]
  rw [List.drop_eq_getElem_cons (by rw [hl]; exact h1)]
  congr 1
  simp [Rv.ll, h2]
theorem ll_end (q : Rv) (c : Nat) : (q.ll c).drop (q.l c).length = [] := List.drop_eq_nil_of_le (by simp [Rv.ll])
theorem rtakes_end (q : Rv) (c : Nat) : tTakes (q.r c) (Rv.n c) ((q.ll c).drop (q.l c).length) = (tFinish (q.r c) (Rv.n c)).bind fun _ => .ret true := by rw [ll_end]; rfl
theorem rhelp_l (q : Rv) (c : Nat) : tHelp (q.r c) (Rv.n c) = tTakes (q.r c) (Rv.n c) ((q.ll c).drop 0) := by
  unfold tHelp Rv.ll
  rw [List.drop_zero]
  congr 1
  show ((q.l c).map rfN).zip (List.replicate (q.l c).length 0) = _
  rw [List.zip_map_left]
  rfl
theorem rr_mks (q : Rv) (c : Nat) (h : q.l c ≠ []) : (q.r c).ns.drop (min (q.r c).kp.toNat (q.r c).ns.length) = (q.mks c).map rfN := by
  show ((q.l c).map rfN).drop (min (1 : Int).toNat ((q.l c).map rfN).length) = _
  have : 1 ≤ (q.l c).length := by cases hl : q.l c with | nil => exact absurd hl h | cons a l => simp
  rw [List.length_map, show min (1 : Int).toNat (q.l c).length = 1 from by show min 1 _ = 1; omega]
  unfold Rv.mks
  rw [List.map_drop]
theorem rfn_tch (q : Rv) (c : Nat) (h : q.l c ≠ []) : q.fn c = .tch (gSwapWay (rfN ((q.l c).headD 0)) 0 (q.od c) (q.nw c)) fun _ => tSet (Rv.n c) 2 := by
  unfold Rv.fn tWay
  cases hl : q.l c with
  | nil => exact absurd hl h
  | cons a l =>
    have e : (q.r c).ns = rfN a :: l.map rfN := by show (q.l c).map rfN = _; rw [hl]; rfl
    rw [e]
    rfl
/-- The number's record. -/
theorem rc_two (q : Rv) (hc : c < 2) : rcAt (sR q f st al).rs (Rv.n c) = some (c, ⟨q.r c, st c, al c⟩) := by
  have : c = 0 ∨ c = 1 := by omega
  rcases this with rfl | rfl <;> rfl
theorem sR_all (hc : c < 2) : gAll (Rv.n c) (sR q f st al) = (b2i (al c), sR q f st al) := by
  have : c = 0 ∨ c = 1 := by omega
  rcases this with rfl | rfl <;> rfl
theorem sR_setAll (hc : c < 2) : gSetAll (Rv.n c) (sR q f st al) = (0, sR q f st (upd al c true)) := by
  have : c = 0 ∨ c = 1 := by omega
  rcases this with rfl | rfl <;> rfl
theorem sR_set (hc : c < 2) (t : Int) : gSet (Rv.n c) t (sR q f st al) = (0, sR q f (upd st c t) al) := by
  have : c = 0 ∨ c = 1 := by omega
  rcases this with rfl | rfl <;> rfl
theorem n_ne (c : Nat) : Rv.n c ≠ 0 := by unfold Rv.n; omega
theorem n_inj {c c' : Nat} (h : Rv.n c = Rv.n c') : c = c' := by unfold Rv.n at h; omega
theorem SR.blk_al (hs : SR q T f st al) (hc : c < 2) (hb : blk q f c) : al c = false := by
  cases ha : al c with
  | false => rfl
  | true =>
    obtain ⟨i, h1, h2, h3⟩ := hb
    obtain ⟨p, hp⟩ := List.mem_iff_getElem?.1 h1
    have hl := (List.getElem?_eq_some_iff.1 hp).1
    exact absurd ((hs.tk c hc p i hp).2 (by rw [hs.ha c hc ha]; exact hl)) h3
/-- A touch. -/
theorem PR9.step {u : Tr Bool} {g : Sig → Int × Sig} {K : Int → Tr Bool} (h : PR9 q c T f st al u) (hu : u = .tch g K) (hs : SR q T f st al) (hc : c < 2) (hok : RvOk q) :
    ∃ T' f' st' al', (g (sR q f st al)).2 = sR q f' st' al' ∧ SR q T' f' st' al' ∧ RLe q T f st al T' f' st' al' ∧ PR9 q c T' f' st' al' (K (g (sR q f st al)).1) := by
  have hne := hok.ne c hc
  have same : ∀ {z : Int}, (g (sR q f st al)) = (z, sR q f st al) → PR9 q c T f st al (K z) → ∃ T' f' st' al', (g (sR q f st al)).2 = sR q f' st' al' ∧ SR q T' f' st' al' ∧ RLe q T f st al T' f' st' al' ∧ PR9 q c T' f' st' al' (K (g (sR q f st al)).1) := fun e h => ⟨T, f, st, al, by rw [e], hs, RLe.refl, by rw [e]; exact h⟩
  cases h with
  | tk p hp h =>
    obtain ⟨i, hi⟩ : ∃ i, (q.l c)[p]? = some i := ⟨_, List.getElem?_eq_getElem hp⟩
    have hi5 := hok.lt c hc i (List.mem_of_getElem? hi)
    rw [ll_drop q c p i hi] at hu
    have hT : tTakes (q.r c) (Rv.n c) ((rfN i, 0) :: (q.ll c).drop (p + 1)) = .tch (gSwapInfo (rfN i) 0 (Rv.n c)) fun z => (if (z != 0) = true then Tr.ret true else .tch (gInfo (rfN i)) fun y => .ret (y == Rv.n c)).bind fun b => if b = true then tTakes (q.r c) (Rv.n c) ((q.ll c).drop (p + 1)) else tSettle (Rv.n c) := rfl
    rw [hT] at hu
    injection hu with hg hK
    subst hg hK
    have e := g_swapInfo (L := 4) (f := f) (rs := [⟨q.r 0, st 0, al 0⟩, ⟨q.r 1, st 1, al 1⟩]) hi5 (by omega) 0 (Rv.n c)
    by_cases h0 : (f i).inf = 0
    · rw [if_pos h0] at e
      have hnp : ¬ p < T c := fun e => by have := (hs.tk c hc p i hi).2 e; rw [h0] at this; exact n_ne c this.symm
      have hpT : p = T c := by omega
      have hal : al c = false := by
        cases ha : al c with
        | false => rfl
        | true => have := hs.ha c hc ha; omega
      have huniq : ∀ p' : Nat, (q.l c)[p']? = some i → p' = p := fun p' h' => by
        have hnd : (q.l c).Pairwise (· < ·) := hok.up c hc
        obtain ⟨a1, a2⟩ := List.getElem?_eq_some_iff.1 hi
        obtain ⟨b1, b2⟩ := List.getElem?_eq_some_iff.1 h'
        rcases Nat.lt_trichotomy p' p with h | h | h
        · have := List.pairwise_iff_getElem.1 hnd p' p b1 a1 h; omega
        · exact h
        · have := List.pairwise_iff_getElem.1 hnd p p' a1 b1 h; omega
      refine ⟨upd T c (p + 1), upd f i { f i with inf := Rv.n c }, st, al, by show (gSwapInfo _ _ _ (sN 4 5 f _)).2 = _; rw [e]; rfl, ?_, ?_, ?_⟩
      · refine ⟨fun j => ?_, fun c' hc' p' j hj => ?_, fun c' hc' => ?_, fun c' hc' ha => ?_, fun c' hc' => ?_, fun j hj => ?_⟩
        · by_cases e2 : j = i
          · subst e2; rw [upd_at]; exact .inr ⟨c, hc, rfl, List.mem_of_getElem? hi⟩
          · rw [upd_ne _ _ e2]; exact hs.inf j
        · by_cases e2 : j = i
          · subst e2
            rw [upd_at]
            by_cases e3 : c' = c
            · subst e3
              rw [upd_at, huniq p' hj]
              exact ⟨fun _ => by omega, fun _ => rfl⟩
            · rw [upd_ne _ _ e3]
              refine ⟨fun e4 => absurd (n_inj e4).symm e3, fun e4 => ?_⟩
              have := (hs.tk c' hc' p' j hj).2 e4
              rw [h0] at this
              exact absurd this.symm (n_ne c')
          · rw [upd_ne _ _ e2]
            by_cases e3 : c' = c
            · subst e3
              rw [upd_at, hs.tk c' hc' p' j hj]
              have hpp : p' ≠ p := fun e4 => by subst e4; rw [hi] at hj; injection hj with e5; exact e2 e5.symm
              omega
            · rw [upd_ne _ _ e3]; exact hs.tk c' hc' p' j hj
        · by_cases e3 : c' = c
          · subst e3; rw [upd_at]; exact hp
          · rw [upd_ne _ _ e3]; exact hs.le c' hc'
        · by_cases e3 : c' = c
          · subst e3; rw [hal] at ha; cases ha
          · rw [upd_ne _ _ e3]; exact hs.ha c' hc' ha
        · refine (hs.st c' hc').imp id (fun e3 => e3.imp id fun e3 => ⟨e3.1, ?_⟩)
          obtain ⟨j, j1, j2, j3⟩ := e3.2
          have : j ≠ i := fun e4 => by subst e4; exact j2 h0
          exact ⟨j, j1, by rw [upd_ne _ _ this]; exact j2, by rw [upd_ne _ _ this]; exact j3⟩
        · by_cases e2 : j = i
          · subst e2; rw [upd_at]; exact hs.way j hj
          · rw [upd_ne _ _ e2]; exact hs.way j hj
      · refine ⟨fun c' => ?_, fun _ e => e, fun j hj => ?_, fun j _ => ?_, fun _ _ _ => rfl⟩
        · by_cases e3 : c' = c
          · subst e3; rw [upd_at]; omega
          · rw [upd_ne _ _ e3]; exact Nat.le_refl _
        · have : j ≠ i := fun e4 => by subst e4; exact hj h0
          rw [upd_ne _ _ this]
        · by_cases e2 : j = i
          · subst e2; rw [upd_at]
          · rw [upd_ne _ _ e2]
      · have e' : gSwapInfo (rfN i) 0 (Rv.n c) (sR q f st al) = _ := e
        rw [e']
        show PR9 q c _ _ st al (tTakes (q.r c) (Rv.n c) ((q.ll c).drop (p + 1)))
        by_cases e3 : p + 1 < (q.l c).length
        · exact .tk (p + 1) e3 (by rw [upd_at]; exact Nat.le_refl _)
        · have e4 : p + 1 = (q.l c).length := by omega
          rw [e4, rtakes_end]
          exact .sa (by rw [upd_at])
    · rw [if_neg h0] at e
      exact same (z := 0) e (.ck p i hi h0)
  | ck p i hi h =>
    injection hu with hg hK
    subst hg hK
    have hi5 := hok.lt c hc i (List.mem_of_getElem? hi)
    have e := g_info (L := 4) (f := f) (rs := [⟨q.r 0, st 0, al 0⟩, ⟨q.r 1, st 1, al 1⟩]) hi5 (by omega)
    refine same (z := (f i).inf) e ?_
    simp only
    by_cases hn : (f i).inf = Rv.n c
    · rw [hn, if_pos (by simp)]
      have hpT := (hs.tk c hc p i hi).1 hn
      by_cases e3 : p + 1 < (q.l c).length
      · exact .tk (p + 1) e3 (by omega)
      · have hl := (List.getElem?_eq_some_iff.1 hi).1
        have e4 : p + 1 = (q.l c).length := by omega
        rw [e4, rtakes_end]
        exact .sa (by have := hs.le c hc; omega)
    · rw [if_neg (by simpa using hn)]
      exact .al ⟨i, List.mem_of_getElem? hi, h, hn⟩
  | al hb =>
    injection hu with hg hK
    subst hg hK
    have hal := hs.blk_al hc hb
    refine same (z := 0) (by rw [sR_all hc, hal]; rfl) ?_
    exact .ab hb
  | ab hb =>
    injection hu with hg hK
    subst hg hK
    have hal := hs.blk_al hc hb
    refine ⟨T, f, upd st c 0, al, by rw [sR_set hc], ⟨hs.inf, hs.tk, hs.le, hs.ha, fun c' hc' => ?_, hs.way⟩, ⟨fun _ => Nat.le_refl _, fun _ e => e, fun _ _ => rfl, fun _ _ => rfl, fun c' hc' e => ?_⟩, by rw [sR_set hc]; exact .no hb (upd_at ..)⟩
    · by_cases e3 : c' = c
      · subst e3; rw [upd_at]; exact .inr (.inr ⟨rfl, hb⟩)
      · rw [upd_ne _ _ e3]; exact hs.st c' hc'
    · by_cases e3 : c' = c
      · subst e3
        rw [upd_at]
        rcases hs.st c' hc' with e4 | ⟨e4, e5⟩ | ⟨e4, _⟩
        · exact absurd e4 e
        · rw [hal] at e5; cases e5
        · exact e4.symm
      · rw [upd_ne _ _ e3]
  | sa h =>
    injection hu with hg hK
    subst hg hK
    refine ⟨T, f, st, upd al c true, by rw [sR_setAll hc], ⟨hs.inf, hs.tk, hs.le, fun c' hc' ha => ?_, fun c' hc' => ?_, fun j hj => ?_⟩, ⟨fun _ => Nat.le_refl _, fun c' e => ?_, fun _ _ => rfl, fun _ _ => rfl, fun _ _ _ => rfl⟩, ?_⟩
    · by_cases e3 : c' = c
      · subst e3; exact h
      · rw [upd_ne _ _ e3] at ha; exact hs.ha c' hc' ha
    · refine (hs.st c' hc').imp id (fun e => e.imp (fun e => ⟨e.1, ?_⟩) id)
      by_cases e3 : c' = c
      · subst e3; rw [upd_at]
      · rw [upd_ne _ _ e3]; exact e.2
    · refine (hs.way j hj).imp id ?_
      rintro ⟨c', h1, h2, h3, h4⟩
      refine ⟨c', h1, h2, ?_, h4⟩
      by_cases e3 : c' = c
      · subst e3; rw [upd_at]
      · rw [upd_ne _ _ e3]; exact h3
    · by_cases e3 : c' = c
      · subst e3; rw [upd_at]
      · rw [upd_ne _ _ e3]; exact e
    · rw [sR_setAll hc]
      show PR9 q c T f st (upd al c true) ((tMarks (q.fn c) ((q.r c).ns.drop (min (q.r c).kp.toNat (q.r c).ns.length))).bind fun _ => .ret true)
      rw [rr_mks q c hne]
      exact .mk 0 (upd_at ..)
  | mk j ha =>
    by_cases hlt : j < (q.mks c).length
    · obtain ⟨i, hi⟩ : ∃ i, (q.mks c)[j]? = some i := ⟨_, List.getElem?_eq_getElem hlt⟩
      have hd : (q.mks c).drop j = i :: (q.mks c).drop (j + 1) := by rw [List.drop_eq_getElem_cons hlt, (List.getElem?_eq_some_iff.1 hi).2]
      rw [hd] at hu
      injection hu with hg hK
      subst hg hK
      have hi5 : i < 5 := hok.lt c hc i (List.mem_of_mem_drop (List.mem_of_getElem? hi))
      have e := g_setMark (L := 4) (f := f) (rs := [⟨q.r 0, st 0, al 0⟩, ⟨q.r 1, st 1, al 1⟩]) hi5 (by omega)
      have fi : ∀ t, (upd f i { f i with mark := true } t).inf = (f t).inf ∧ (upd f i { f i with mark := true } t).w0 = (f t).w0 := fun t => by
        by_cases e2 : t = i
        · subst e2; rw [upd_at]; exact ⟨rfl, rfl⟩
        · rw [upd_ne _ _ e2]; exact ⟨rfl, rfl⟩
      refine ⟨T, upd f i { f i with mark := true }, st, al, by show (gSetMark _ (sN 4 5 f _)).2 = _; rw [e]; rfl, ⟨fun t => by rw [(fi t).1]; exact hs.inf t, fun c' hc' p t ht => by rw [(fi t).1]; exact hs.tk c' hc' p t ht, hs.le, hs.ha, fun c' hc' => ?_, fun t ht => by rw [(fi t).2]; exact hs.way t ht⟩, ⟨fun _ => Nat.le_refl _, fun _ e => e, fun t _ => (fi t).1, fun t _ => (fi t).2, fun _ _ _ => rfl⟩, ?_⟩
      · refine (hs.st c' hc').imp id (fun e => e.imp id fun e => ⟨e.1, ?_⟩)
        obtain ⟨t, j1, j2, j3⟩ := e.2
        exact ⟨t, j1, by rw [(fi t).1]; exact j2, by rw [(fi t).1]; exact j3⟩
      · exact .mk (j + 1) ha
    · have hd : (q.mks c).drop j = [] := List.drop_eq_nil_of_le (by omega)
      rw [hd] at hu
      have hT : (tMarks (q.fn c) (([] : List Nat).map rfN)).bind (fun _ => Tr.ret true) = .tch (gSwapWay (rfN ((q.l c).headD 0)) 0 (q.od c) (q.nw c)) fun _ => (tSet (Rv.n c) 2).bind fun _ => .ret true := by
        show (q.fn c).bind _ = _
        rw [rfn_tch q c hne]
        rfl
      rw [hT] at hu
      injection hu with hg hK
      subst hg hK
      have h0 : (q.l c)[0]? = some ((q.l c).headD 0) := by cases hl : q.l c with | nil => exact absurd hl hne | cons a l => rfl
      obtain ⟨i, hi⟩ : ∃ i, (q.l c).headD 0 = i := ⟨_, rfl⟩
      have hod : q.od c = 200 + 10 * (i : Int) := by unfold Rv.od; rw [hi]
      rw [hi] at h0 ⊢
      have hi5 : i < 5 := hok.lt c hc i (List.mem_of_getElem? h0)
      have e := g_swapWay (L := 4) (f := f) (rs := [⟨q.r 0, st 0, al 0⟩, ⟨q.r 1, st 1, al 1⟩]) hi5 (by omega) 0 (q.od c) (q.nw c)
      have hsm := wayS_same (f i) 0 (q.od c) (q.nw c)
      have hw0 : (wayS (f i) 0 (q.od c) (q.nw c)).w0 = q.nw c := by
        unfold wayS
        rcases hs.way i hi5 with e2 | ⟨c', h1, h2, h3, h4⟩
        · rw [if_pos ⟨rfl, by rw [e2, hod]⟩]
        · have hcc : c' = c := by
            have a1 := (hs.tk c hc 0 i h0).2 (by rw [hs.ha c hc ha]; exact (List.getElem?_eq_some_iff.1 h0).1)
            have a2 := (hs.tk c' h1 0 i h2).2 (by rw [hs.ha c' h1 h3]; exact (List.getElem?_eq_some_iff.1 h2).1)
            rw [a1] at a2
            exact (n_inj a2).symm
          subst hcc
          rw [if_neg (by rintro ⟨_, e3⟩; rw [h4, hod] at e3; exact nw_ne hok hc i e3), if_neg (by rintro ⟨e3, _⟩; omega)]
          exact h4
      have fi : ∀ t, (upd f i (wayS (f i) 0 (q.od c) (q.nw c)) t).inf = (f t).inf := fun t => by
        by_cases e2 : t = i
        · subst e2; rw [upd_at]; exact hsm.1
        · rw [upd_ne _ _ e2]
      refine ⟨T, upd f i (wayS (f i) 0 (q.od c) (q.nw c)), st, al, by show (gSwapWay _ _ _ _ (sN 4 5 f _)).2 = _; rw [e]; rfl, ⟨fun t => by rw [fi t]; exact hs.inf t, fun c' hc' p t ht => by rw [fi t]; exact hs.tk c' hc' p t ht, hs.le, hs.ha, fun c' hc' => ?_, fun t ht => ?_⟩, ⟨fun _ => Nat.le_refl _, fun _ e => e, fun t _ => fi t, fun t ht => ?_, fun _ _ _ => rfl⟩, ?_⟩
      · refine (hs.st c' hc').imp id (fun e => e.imp id fun e => ⟨e.1, ?_⟩)
        obtain ⟨t, j1, j2, j3⟩ := e.2
        exact ⟨t, j1, by rw [fi t]; exact j2, by rw [fi t]; exact j3⟩
      · by_cases e2 : t = i
        · subst e2
          rw [upd_at]
          exact .inr ⟨c, hc, h0, ha, hw0⟩
        · rw [upd_ne _ _ e2]; exact hs.way t ht
      · by_cases e2 : t = i
        · subst e2
          rw [upd_at]
          unfold wayS
          rw [if_neg (by rintro ⟨_, e3⟩; exact ht t (by rw [e3, hod])), if_neg (by rintro ⟨e3, _⟩; omega)]
        · rw [upd_ne _ _ e2]
      · exact .dn ha (by rw [hi, upd_at]; exact hw0)
  | dn ha hw =>
    injection hu with hg hK
    subst hg hK
    refine ⟨T, f, upd st c 2, al, by rw [sR_set hc], ⟨hs.inf, hs.tk, hs.le, hs.ha, fun c' hc' => ?_, hs.way⟩, ⟨fun _ => Nat.le_refl _, fun _ e => e, fun _ _ => rfl, fun _ _ => rfl, fun c' hc' e => ?_⟩, by rw [sR_set hc]; exact .yes ha hw (upd_at ..)⟩
    · by_cases e3 : c' = c
      · subst e3; rw [upd_at]; exact .inr (.inl ⟨rfl, ha⟩)
      · rw [upd_ne _ _ e3]; exact hs.st c' hc'
    · by_cases e3 : c' = c
      · subst e3
        rw [upd_at]
        rcases hs.st c' hc' with e4 | ⟨e4, _⟩ | ⟨e4, e5⟩
        · exact absurd e4 e
        · exact e4.symm
        · rw [hs.blk_al hc' e5] at ha; cases ha
      · rw [upd_ne _ _ e3]
  | yes ha hw hs => cases hu
  | no hb hs => cases hu
end
end Go.Proofs.Ytfloblofdkemlaa
