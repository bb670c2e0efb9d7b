/-
  Helpers of two records: every Step, and what stands there at the end.
-/
import Derived.Test.YtfloblofdkemlaaRv9
import Derived.Test.YtfloblofdkemlaaMx9
namespace Go.Proofs.Ytfloblofdkemlaa
set_option linter.unusedVariables false
set_option linter.unusedSimpArgs false
set_option maxRecDepth 20000

def RJ (q : Rv) (c : Nat) (T : Nat → Nat) (f : Nat → Ns) (st : Nat → Int) (al : Nat → Bool) : Ts → Prop
  | .run u => PR9 q c T f st al u
  | .fin b => PR9 q c T f st al (.ret b)
section
variable {q : Rv} {T T' : Nat → Nat} {f f' : Nat → Ns} {st st' : Nat → Int} {al al' : Nat → Bool} {c N : Nat}
theorem RJ.ofTr {t : Tr Bool} (h : PR9 q c T f st al t) : RJ q c T f st al (ofTr t) := by cases t <;> exact h
theorem RJ.mono {o : Ts} (h : RJ q c T f st al o) (hc : c < 2) (hok : RvOk q) (hs' : SR q T' f' st' al') (hle : RLe q T f st al T' f' st' al') : RJ q c T' f' st' al' o := by
  cases o with
  | run u => exact PR9.mono h hc hok hs' hle
  | fin b => exact PR9.mono h hc hok hs' hle
theorem RJ.step {o : Ts} (h : RJ q c T f st al o) (hs : SR q T f st al) (hc : c < 2) (hok : RvOk q) :
    ∃ T' f' st' al', (nxT o (sR q f st al)).2 = sR q f' st' al' ∧ SR q T' f' st' al' ∧ RLe q T f st al T' f' st' al' ∧ RJ q c T' f' st' al' (nxT o (sR q f st al)).1 := by
  cases o with
  | fin b => exact ⟨T, f, st, al, rfl, hs, RLe.refl, h⟩
  | run u =>
    cases u with
    | ret v => exact ⟨T, f, st, al, rfl, hs, RLe.refl, h⟩
    | tch g K =>
      obtain ⟨T', f', st', al', e1, e2, e3, e4⟩ := PR9.step h rfl hs hc hok
      exact ⟨T', f', st', al', e1, e2, e3, RJ.ofTr e4⟩
/-- All N helpers: number i does record i % 2. -/
def IR (q : Rv) (N : Nat) (os : Nat → Ts) (s : Sig) : Prop := ∃ T f st al, s = sR q f st al ∧ SR q T f st al ∧ ∀ i, i < N → RJ q (i % 2) T f st al (os i)
theorem IR.step (hok : RvOk q) {os : Nat → Ts} {s : Sig} {i : Nat} (h : IR q N os s) (hi : i < N) : IR q N (upd os i (nxT (os i) s).1) (nxT (os i) s).2 := by
  obtain ⟨T, f, st, al, rfl, h1, h2⟩ := h
  obtain ⟨T', f', st', al', e1, e2, e3, e4⟩ := RJ.step (h2 i hi) h1 (Nat.mod_lt _ (by omega)) hok
  refine ⟨T', f', st', al', e1, e2, fun j hj => ?_⟩
  by_cases e : j = i
  · subst e; rw [upd_at]; exact e4
  · rw [upd_ne _ _ e]; exact RJ.mono (h2 j hj) (Nat.mod_lt _ (by omega)) hok e2 e3
theorem SR.in64 (hs : SR q T f st al) : ∀ i, i < 5 → in64 (f i).inf := by
  intro i _
  rcases hs.inf i with e | ⟨c, hc, e, _⟩
  · rw [e]; exact in01.1
  · rw [e]; unfold Rv.n Go.Proofs.Ytfloblofdkemlaa.in64; omega
theorem rv_few (hok : RvOk q) (hc : c < 2) : (q.l c).length ≤ 5 := by
  have hge : ∀ p (h : p < (q.l c).length), p ≤ (q.l c)[p] := by
    intro p
    induction p with
    | zero => exact fun _ => Nat.zero_le _
    | succ p ih =>
      intro h
      have := List.pairwise_iff_getElem.1 (hok.up c hc) p (p + 1) (by omega) h (by omega)
      have := ih (by omega)
      omega
  by_cases h : (q.l c).length ≤ 5
  · exact h
  · have h1 := hge 5 (by omega)
    have h2 := hok.lt c hc _ (List.getElem_mem (show 5 < (q.l c).length by omega))
    omega
theorem IR.inl (hok : RvOk q) {hs : Nat → Hp} (hh : ∀ i, i < N → (hs i).n = Rv.n (i % 2) ∧ (hs i).r = q.r (i % 2)) : Inl 4 N hs (IR q N) := by
  refine ⟨fun os s i h hi => h.step hok hi, fun os s i h hi => ?_, fun os s h => ?_, fun i hi => ?_, fun i hi => ?_⟩
  · obtain ⟨T, f, st, al, rfl, h1, h2⟩ := h
    rw [(hh i hi).1, (hh i hi).2]
    unfold rcOf
    rw [rc_two q (Nat.mod_lt _ (by omega))]
  · obtain ⟨T, f, st, al, rfl, h1, h2⟩ := h
    exact inv_sN (by omega) (by omega) (by omega) h1.in64 (by simp)
  · rw [(hh i hi).1]; unfold Rv.n in64; have := Nat.mod_lt i (show 0 < 2 by omega); omega
  · rw [(hh i hi).2]
    show ((q.l (i % 2)).map rfN).length ≤ 9
    rw [List.length_map]
    have := rv_few hok (c := i % 2) (Nat.mod_lt _ (by omega))
    omega
theorem good_rv (hok : RvOk q) (hc : c < 2) : GoodR (q.r c) := ⟨by show (0 : Int) ≤ 1; omega, by simp [Rv.r, rcN], by show ((q.l c).map rfN).length ≤ 20; rw [List.length_map]; have := rv_few hok hc; omega⟩
theorem rj_new (hok : RvOk q) (hc : c < 2) (T : Nat → Nat) (f : Nat → Ns) (st : Nat → Int) (al : Nat → Bool) : RJ q c T f st al (.run (tHelp (q.r c) (Rv.n c))) := by
  show PR9 q c T f st al (tHelp (q.r c) (Rv.n c))
  rw [rhelp_l]
  have : 0 < (q.l c).length := List.length_pos_iff.2 (hok.ne c hc)
  exact .tk 0 this (Nat.zero_le _)
theorem sr_new (q : Rv) (hok : RvOk q) : SR q (fun _ => 0) ns0 (fun _ => 1) (fun _ => false) :=
  ⟨fun i => .inl rfl, fun c hc p i hi => ⟨fun e => absurd e.symm (n_ne c), fun e => absurd e (by omega)⟩, fun c hc => Nat.zero_le _, fun c hc e => (by cases e), fun c hc => .inl rfl, fun i hi => .inl rfl⟩
theorem pr_ret {b : Bool} (h : PR9 q c T f st al (.ret b)) (hok : RvOk q) (hc : c < 2) : (b = true ∧ al c = true ∧ (f ((q.l c).headD 0)).w0 = q.nw c ∧ st c = 2) ∨ (b = false ∧ blk q f c ∧ st c = 0) := by
  obtain ⟨u, hu⟩ : ∃ u, Tr.ret b = u := ⟨_, rfl⟩
  rw [hu] at h
  cases h with
  | tk p hp h =>
    obtain ⟨i, hi⟩ : ∃ i, (q.l c)[p]? = some i := ⟨_, List.getElem?_eq_getElem hp⟩
    rw [ll_drop q c p i hi] at hu
    have e : (Tr.ret b : Tr Bool) = .tch _ _ := hu
    cases e
  | ck p i hi h => cases hu
  | al hb => have e : (Tr.ret b : Tr Bool) = .tch _ _ := hu; cases e
  | ab hb => cases hu
  | sa h => have e : (Tr.ret b : Tr Bool) = .tch _ _ := hu; cases e
  | mk j ha =>
    cases hl : (q.mks c).drop j with
    | nil =>
      rw [hl] at hu
      have hu : Tr.ret b = (q.fn c).bind fun _ => Tr.ret true := hu
      rw [rfn_tch q c (hok.ne c hc)] at hu
      have e : (Tr.ret b : Tr Bool) = .tch _ _ := hu
      cases e
    | cons i l =>
      rw [hl] at hu
      have e : (Tr.ret b : Tr Bool) = .tch _ _ := hu
      cases e
  | dn ha hw => have e : (Tr.ret b : Tr Bool) = .tch _ _ := hu; cases e
  | yes ha hw hs => injection hu with hu; exact .inl ⟨hu, ha, hw, hs⟩
  | no hb hs => injection hu with hu; exact .inr ⟨hu, hb, hs⟩
/-- What stands there at the end. -/
theorem rv_end {b : Nat → Bool} (hs : SR q T f st al) (hok : RvOk q) (h : ∀ c, c < 2 → PR9 q c T f st al (.ret (b c))) :
    (∀ c, c < 2 → st c = if b c = true then 2 else 0) ∧ ((∃ i, i ∈ q.l 0 ∧ i ∈ q.l 1) → b 0 = !b 1) ∧ ((¬ ∃ i, i ∈ q.l 0 ∧ i ∈ q.l 1) → b 0 = true ∧ b 1 = true) ∧
    ∀ i, i < 5 → (f i).w0 = if b 1 = true ∧ (q.l 1)[0]? = some i then 99 else if b 0 = true ∧ (q.l 0)[0]? = some i then 98 else 200 + 10 * (i : Int) := by
  have r0 := pr_ret (h 0 (by omega)) hok (by omega)
  have r1 := pr_ret (h 1 (by omega)) hok (by omega)
  have full : ∀ c, c < 2 → al c = true → ∀ i, i ∈ q.l c → (f i).inf = Rv.n c := fun c hc ha i hi => by
    obtain ⟨p, hp⟩ := List.mem_iff_getElem?.1 hi
    exact (hs.tk c hc p i hp).2 (by rw [hs.ha c hc ha]; exact (List.getElem?_eq_some_iff.1 hp).1)
  have blkd : ∀ c, c < 2 → blk q f c → ∃ c', c' < 2 ∧ c' ≠ c ∧ ∃ i, i ∈ q.l c ∧ i ∈ q.l c' ∧ (f i).inf = Rv.n c' := fun c hc hb => by
    obtain ⟨i, h1, h2, h3⟩ := hb
    rcases hs.inf i with e | ⟨c', hc', e, e2⟩
    · exact absurd e h2
    · exact ⟨c', hc', fun e3 => by subst e3; exact h3 e, i, h1, e2, e⟩
  have stc : ∀ c, c < 2 → st c = if b c = true then 2 else 0 := fun c hc => by
    rcases pr_ret (h c hc) hok hc with ⟨e1, _, _, e4⟩ | ⟨e1, _, e3⟩
    · rw [e1, e4]; rfl
    · rw [e1, e3]; rfl
  have both : (∃ i, i ∈ q.l 0 ∧ i ∈ q.l 1) → ¬ (al 0 = true ∧ al 1 = true) := by
    rintro ⟨i, h1, h2⟩ ⟨a0, a1⟩
    have := full 0 (by omega) a0 i h1
    rw [full 1 (by omega) a1 i h2] at this
    exact absurd (n_inj this) (by omega)
  have neither : ¬ (blk q f 0 ∧ blk q f 1) := by
    rintro ⟨k0, k1⟩
    obtain ⟨c0, hc0, n0, i, hi0, hi1, ei⟩ := blkd 0 (by omega) k0
    obtain ⟨c1, hc1, n1, j, hj1, hj0, ej⟩ := blkd 1 (by omega) k1
    obtain rfl : c0 = 1 := by omega
    obtain rfl : c1 = 0 := by omega
    obtain ⟨pi0, h1⟩ := List.mem_iff_getElem?.1 hi0
    obtain ⟨pi1, h2⟩ := List.mem_iff_getElem?.1 hi1
    obtain ⟨pj0, h3⟩ := List.mem_iff_getElem?.1 hj0
    obtain ⟨pj1, h4⟩ := List.mem_iff_getElem?.1 hj1
    have a1 : ¬ pi0 < T 0 := fun e => by have := (hs.tk 0 (by omega) pi0 i h1).2 e; rw [ei] at this; exact absurd (n_inj this) (by omega)
    have a2 := (hs.tk 1 (by omega) pi1 i h2).1 ei
    have a3 := (hs.tk 0 (by omega) pj0 j h3).1 ej
    have a4 : ¬ pj1 < T 1 := fun e => by have := (hs.tk 1 (by omega) pj1 j h4).2 e; rw [ej] at this; exact absurd (n_inj this) (by omega)
    obtain ⟨b1, d1⟩ := List.getElem?_eq_some_iff.1 h1
    obtain ⟨b2, d2⟩ := List.getElem?_eq_some_iff.1 h2
    obtain ⟨b3, d3⟩ := List.getElem?_eq_some_iff.1 h3
    obtain ⟨b4, d4⟩ := List.getElem?_eq_some_iff.1 h4
    have u0 := List.pairwise_iff_getElem.1 (hok.up 0 (by omega)) pj0 pi0 b3 b1 (by omega)
    have u1 := List.pairwise_iff_getElem.1 (hok.up 1 (by omega)) pi1 pj1 b2 b4 (by omega)
    omega
  refine ⟨stc, fun hc => ?_, fun hc => ?_, fun i hi => ?_⟩
  · rcases r0 with ⟨e1, e2, _, _⟩ | ⟨e1, e2, _⟩
    · rcases r1 with ⟨d1, d2, _, _⟩ | ⟨d1, d2, _⟩
      · exact absurd ⟨e2, d2⟩ (both hc)
      · rw [e1, d1]; rfl
    · rcases r1 with ⟨d1, d2, _, _⟩ | ⟨d1, d2, _⟩
      · rw [e1, d1]; rfl
      · exact absurd ⟨e2, d2⟩ neither
  · have nob : ∀ c, c < 2 → ¬ blk q f c := fun c hc2 hb => by
      obtain ⟨c', hc', n', j, h1, h2, _⟩ := blkd c hc2 hb
      have : (c = 0 ∧ c' = 1) ∨ (c = 1 ∧ c' = 0) := by omega
      rcases this with ⟨rfl, rfl⟩ | ⟨rfl, rfl⟩
      · exact hc ⟨j, h1, h2⟩
      · exact hc ⟨j, h2, h1⟩
    refine ⟨?_, ?_⟩
    · rcases r0 with ⟨e1, _⟩ | ⟨_, e2, _⟩
      · exact e1
      · exact absurd e2 (nob 0 (by omega))
    · rcases r1 with ⟨e1, _⟩ | ⟨_, e2, _⟩
      · exact e1
      · exact absurd e2 (nob 1 (by omega))
  · have first : ∀ c, c < 2 → b c = true → (q.l c)[0]? = some i → (f i).w0 = q.nw c := fun c hc hb h0 => by
      have hh : (q.l c).headD 0 = i := by cases hl : q.l c with | nil => exact absurd hl (hok.ne c hc) | cons a l => rw [hl] at h0; injection h0
      rcases pr_ret (h c hc) hok hc with ⟨_, _, e3, _⟩ | ⟨e1, _, _⟩
      · rw [hh] at e3; exact e3
      · rw [hb] at e1; cases e1
    by_cases c1 : b 1 = true ∧ (q.l 1)[0]? = some i
    · rw [if_pos c1, first 1 (by omega) c1.1 c1.2, hok.nw 1 (by omega)]; rfl
    · rw [if_neg c1]
      by_cases c0 : b 0 = true ∧ (q.l 0)[0]? = some i
      · rw [if_pos c0, first 0 (by omega) c0.1 c0.2, hok.nw 0 (by omega)]; rfl
      · rw [if_neg c0]
        rcases hs.way i hi with e | ⟨c, hc, h0, ha, _⟩
        · exact e
        · have hb : b c = true := by
            rcases pr_ret (h c hc) hok hc with ⟨e1, _⟩ | ⟨_, e2, _⟩
            · exact e1
            · rw [hs.blk_al hc e2] at ha; cases ha
          have : c = 0 ∨ c = 1 := by omega
          rcases this with rfl | rfl
          · exact absurd ⟨hb, h0⟩ c0
          · exact absurd ⟨hb, h0⟩ c1
end
end Go.Proofs.Ytfloblofdkemlaa
